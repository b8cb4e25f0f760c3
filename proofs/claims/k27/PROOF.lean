import PyProof.Rows.All
import Wide.All
import OpenK.AllK
import Wide.FinOn
import HandS.ForMost
import HandS.IsInst
import HandS.Wide
import HandS.TupAny
import HandS.TupMul
import HandS.Rev
import HandS.Style
import HandS.Strs
import HandS.Walk
import KE.GoesEnum
import PyProof.ReprRoads
import PyProof.ReprBulk
import HandS.Dict
import HandS.WideMore
import HandS.ExcInit
import HandS.ExcField
import HandS.ExcIs
import HandS.ExcValue
import KE.KExcIs
import HandS.Exc
import HandS.Lambda
import HandS.EndTab
import KE.KNestM
import HandS.WordsExc
import KE.DataFind
import HandS.SortKw
import HandS.SortInts
import KE.DataMinMax
import PySem.Challenge.RW_mergebudget_k27_policies_refused
set_option Elab.async false
set_option linter.all false
set_option maxRecDepth 100000
namespace MB
inductive T where
  | nil
  | node (l r : T)
  deriving DecidableEq

namespace T
def size : T → Nat
  | nil => 0
  | node l r => l.size + 1 + r.size
def runs : T → Nat
  | nil => 0
  | node _ r => 1 + r.runs
def sch : T → List Nat
  | nil => []
  | node l r => l.sch ++ l.runs :: r.sch
def rc : T → List Nat
  | nil => []
  | node l r => l.rc ++ 1 :: r.rc.map (· + 1)
def wr : T → List Nat
  | nil => []
  | node l r => l.wr.map (· + 1) ++ 1 :: r.wr
/-- parents: off, the number of the first node; p, the parent of the root -/
def par (off p : Int) : T → List Int
  | nil => []
  | node l r => par off (off + l.size) l ++ p :: par (off + l.size + 1) (off + l.size) r
def mir : T → T
  | nil => nil
  | node l r => node r.mir l.mir
def push (t : T) (m : Nat) : T :=
  if m = t.runs then node t nil else match t with
    | nil => nil
    | node l r => node l (push r m)
/-- the first flush of the run that a flush that merges m writes -/
def start (t : T) (m : Nat) : Nat :=
  if m = t.runs then 0 else match t with
    | nil => 0
    | node l r => l.size + 1 + start r m
/-- the stack: intervals of the right spine -/
def stk (off : Nat) : T → List (Nat × Nat)
  | nil => []
  | node l r => (off, off + l.size + 1) :: stk (off + l.size + 1) r
def graft : T → T → T
  | nil, t => t
  | node l r, t => node l (graft r t)

theorem sch_len : ∀ t : T, t.sch.length = t.size
  | nil => rfl
  | node l r => by simp [sch, size, sch_len l, sch_len r]; omega
theorem rc_len : ∀ t : T, t.rc.length = t.size
  | nil => rfl
  | node l r => by simp [rc, size, rc_len l, rc_len r]; omega
theorem wr_len : ∀ t : T, t.wr.length = t.size
  | nil => rfl
  | node l r => by simp [wr, size, wr_len l, wr_len r]; omega
theorem par_len : ∀ (t : T) (off p : Int), (t.par off p).length = t.size
  | nil, _, _ => rfl
  | node l r, off, p => by simp [par, size, par_len l, par_len r]; omega
theorem runs_le : ∀ t : T, t.runs ≤ t.size
  | nil => Nat.le_refl _
  | node l r => by have := runs_le r; simp [runs, size]; omega
theorem sum_sch : ∀ t : T, t.sch.sum + t.runs = t.size
  | nil => rfl
  | node l r => by
    have h1 := sum_sch l; have h2 := sum_sch r
    simp [sch, runs, size, List.sum_append]; omega
theorem stk_len : ∀ (t : T) (off : Nat), (t.stk off).length = t.runs
  | nil, _ => rfl
  | node l r, off => by simp [stk, runs, stk_len r]; omega

/-! ### push -/
theorem push_eq {t : T} : t.push t.runs = node t nil := by
  unfold push; rw [if_pos rfl]
theorem push_node {l r : T} {m : Nat} (h : m ≤ r.runs) : (node l r).push m = node l (r.push m) := by
  conv => lhs; unfold push
  rw [if_neg (by simp [runs]; omega)]
theorem start_eq {t : T} : t.start t.runs = 0 := by
  unfold start; rw [if_pos rfl]
theorem start_node {l r : T} {m : Nat} (h : m ≤ r.runs) : (node l r).start m = l.size + 1 + r.start m := by
  conv => lhs; unfold start
  rw [if_neg (by simp [runs]; omega)]
/-- the two ways of a push -/
theorem push_ind {C : T → Nat → Prop} (h1 : ∀ t, C t t.runs) (h2 : ∀ l r m, m ≤ r.runs → C r m → C (node l r) m) : ∀ (t : T) (m : Nat), m ≤ t.runs → C t m
  | nil, m, h => by
    have : m = nil.runs := by simp [runs] at h ⊢; omega
    rw [this]; exact h1 nil
  | node l r, m, h => by
    by_cases e : m = (node l r).runs
    · rw [e]; exact h1 _
    · have hm : m ≤ r.runs := by simp [runs] at h e; omega
      exact h2 l r m hm (push_ind h1 h2 r m hm)
theorem push_sch : ∀ (t : T) (m : Nat), m ≤ t.runs → (t.push m).sch = t.sch ++ [m] :=
  push_ind (fun t => by rw [push_eq]; simp [sch]) fun l r m h ih => by rw [push_node h]; simp [sch, ih]
theorem push_size : ∀ (t : T) (m : Nat), m ≤ t.runs → (t.push m).size = t.size + 1 :=
  push_ind (fun t => by rw [push_eq]; simp [size]) fun l r m h ih => by rw [push_node h]; simp [size, ih]; omega
theorem push_runs : ∀ (t : T) (m : Nat), m ≤ t.runs → (t.push m).runs = t.runs - m + 1 :=
  push_ind (fun t => by rw [push_eq]; simp [runs]) fun l r m h ih => by rw [push_node h]; simp [runs, ih]; omega
theorem push_rc : ∀ (t : T) (m : Nat), m ≤ t.runs → (t.push m).rc = t.rc ++ [t.runs - m + 1] :=
  push_ind (fun t => by rw [push_eq]; simp [rc]) fun l r m h ih => by
    rw [push_node h]; simp [rc, ih, runs]; omega
theorem start_le : ∀ (t : T) (m : Nat), m ≤ t.runs → t.start m ≤ t.size :=
  push_ind (fun t => by rw [start_eq]; omega) fun l r m h ih => by rw [start_node h]; simp [size]; omega
theorem push_wr : ∀ (t : T) (m : Nat), m ≤ t.runs → (t.push m).wr = t.wr.take (t.start m) ++ ((t.wr.drop (t.start m)).map (· + 1) ++ [1]) :=
  push_ind (fun t => by rw [push_eq, start_eq]; simp [wr]) fun l r m h ih => by
    rw [push_node h, start_node h]
    have e : (wr (node l r)) = (l.wr.map (· + 1) ++ [1]) ++ r.wr := by simp [wr]
    have el : (l.wr.map (· + 1) ++ [1]).length = l.size + 1 := by simp [wr_len]
    rw [e, List.take_append, List.drop_append, el]
    rw [List.take_of_length_le (by rw [el]; omega), List.drop_eq_nil_of_le (by rw [el]; omega)]
    rw [show l.size + 1 + r.start m - (l.size + 1) = r.start m by omega]
    simp [wr, ih]
theorem stk_push : ∀ (t : T) (m : Nat), m ≤ t.runs → ∀ off, (t.push m).stk off = (t.stk off).take (t.runs - m) ++ [(off + t.start m, off + t.size + 1)] :=
  push_ind (fun t off => by rw [push_eq, start_eq]; simp [stk]) fun l r m h ih off => by
    rw [push_node h, start_node h]
    have hh : (node l r).runs - m = (r.runs - m) + 1 := by simp [runs]; omega
    rw [hh]
    simp [stk, ih, size]
    omega
theorem stk_at : ∀ (t : T) (m : Nat), m ≤ t.runs → ∀ off, 0 < m → ∃ e, (t.stk off)[t.runs - m]? = some (off + t.start m, e) :=
  push_ind (fun t off h => by
      rw [start_eq, Nat.sub_self]
      cases t with
      | nil => simp [runs] at h
      | node l r => exact ⟨_, rfl⟩) fun l r m h ih off h0 => by
    rw [start_node h]
    have hh : (node l r).runs - m = (r.runs - m) + 1 := by simp [runs]; omega
    rw [hh]
    obtain ⟨e, he⟩ := ih (off + l.size + 1) h0
    refine ⟨e, ?_⟩
    simp only [stk, List.getElem?_cons_succ, he]
    congr 2; omega
theorem start_zero : ∀ (t : T) (m : Nat), m ≤ t.runs → m = 0 → t.start m = t.size :=
  push_ind (fun t h => by
      rw [start_eq]
      cases t with
      | nil => rfl
      | node l r => simp [runs] at h) fun l r m h ih h0 => by
    rw [start_node h, ih h0]; simp [size]

/-! ### schedules and trees -/
theorem graft_nil : ∀ t : T, t.graft nil = t
  | nil => rfl
  | node l r => by simp [graft, graft_nil r]
theorem graft_assoc : ∀ a b c : T, (a.graft b).graft c = a.graft (b.graft c)
  | nil, _, _ => rfl
  | node l r, b, c => by simp [graft, graft_assoc r b c]
theorem graft_runs : ∀ a b : T, (a.graft b).runs = a.runs + b.runs
  | nil, b => by simp [graft, runs]
  | node l r, b => by simp [graft, runs, graft_runs r b]; omega
theorem graft_push : ∀ (u l : T), (u.graft l).push l.runs = u.graft (node l nil)
  | nil, l => by simp [graft, push_eq]
  | node a b, l => by
    simp only [graft]
    rw [push_node (by rw [graft_runs]; omega), graft_push b l]
theorem foldl_sch : ∀ (t u : T), t.sch.foldl push u = u.graft t
  | nil, u => by simp [sch, graft_nil]
  | node l r, u => by
    simp only [sch, List.foldl_append, List.foldl_cons]
    rw [foldl_sch l u, graft_push, foldl_sch r, graft_assoc]
    rfl
theorem sch_inj {a b : T} (h : a.sch = b.sch) : a = b := by
  have e1 := foldl_sch a nil
  have e2 := foldl_sch b nil
  rw [h, e2] at e1
  exact e1.symm
end T

/-- a schedule that begins with `runs` runs -/
def Ok : Nat → List Nat → Prop
  | _, [] => True
  | k, m :: r => m ≤ k ∧ Ok (k - m + 1) r
theorem ok_tree : ∀ (p : List Nat) (u : T), Ok u.runs p → ∃ t : T, t.sch = u.sch ++ p ∧ p.foldl T.push u = t
  | [], u, _ => ⟨u, by simp, rfl⟩
  | m :: r, u, h => by
    obtain ⟨h1, h2⟩ := h
    rw [← T.push_runs u m h1] at h2
    obtain ⟨t, e1, e2⟩ := ok_tree r (u.push m) h2
    exact ⟨t, by rw [e1, T.push_sch u m h1]; simp, e2⟩
theorem tree_ex {p : List Nat} (h : Ok 0 p) : ∃ t : T, t.sch = p := by
  obtain ⟨t, e, _⟩ := ok_tree p .nil h
  exact ⟨t, by rw [e]; rfl⟩
theorem ok_app : ∀ (p q : List Nat) (k k' : Nat), Ok k p → k' + p.sum = k + p.length → Ok k' q → Ok k (p ++ q)
  | [], q, k, k', _, e, h => by
    have : k' = k := by simpa using e
    subst this; exact h
  | m :: r, q, k, k', h, e, hq => ⟨h.1, ok_app r q (k - m + 1) k' h.2 (by have := h.1; simp at e; omega) hq⟩
theorem ok_sch_from : ∀ (t : T) (k : Nat), Ok k t.sch
  | .nil, _ => trivial
  | .node l r, k => by
    refine ok_app l.sch _ k (k + l.runs) (ok_sch_from l k) (by have := T.sum_sch l; rw [T.sch_len]; omega) ?_
    exact ⟨by omega, ok_sch_from r _⟩
theorem ok_take : ∀ (p : List Nat) (k i : Nat), Ok k p → Ok k (p.take i)
  | [], _, i, _ => by cases i <;> trivial
  | m :: r, k, 0, _ => trivial
  | m :: r, k, i + 1, h => ⟨h.1, ok_take r _ i h.2⟩
/-- the tree of the first i flushes -/
def pre (t : T) (i : Nat) : T := (t.sch.take i).foldl T.push .nil
theorem pre_sch (t : T) (i : Nat) : (pre t i).sch = t.sch.take i := by
  obtain ⟨u, e1, e2⟩ := ok_tree (t.sch.take i) .nil (ok_take _ _ i (ok_sch_from t _))
  unfold pre; rw [e2, e1]; rfl
theorem pre_size {t : T} {i : Nat} (h : i ≤ t.size) : (pre t i).size = i := by
  rw [← T.sch_len, pre_sch, List.length_take, T.sch_len]; omega
theorem pre_zero (t : T) : pre t 0 = .nil := rfl
theorem pre_all (t : T) : pre t t.size = t := T.sch_inj (by rw [pre_sch, List.take_of_length_le (by rw [T.sch_len]; exact Nat.le_refl _)])
theorem ok_last : ∀ (p : List Nat) (k m : Nat) (q : List Nat), Ok k (p ++ m :: q) → m + p.sum ≤ k + p.length
  | [], k, m, q, h => by simpa using h.1
  | a :: r, k, m, q, h => by
    have := ok_last r (k - a + 1) m q h.2
    have h1 := h.1
    simp; omega
theorem pre_succ {t : T} {i : Nat} {m : Nat} (h : t.sch[i]? = some m) : pre t (i + 1) = (pre t i).push m ∧ m ≤ (pre t i).runs := by
  have hi : i < t.sch.length := (List.getElem?_eq_some_iff.mp h).1
  constructor
  · unfold pre
    rw [List.take_add_one, h]
    simp
  · have e : t.sch = t.sch.take i ++ m :: t.sch.drop (i + 1) := by
      have h2 := List.getElem?_eq_some_iff.mp h
      obtain ⟨h3, h4⟩ := h2
      rw [← h4]
      simp
    have h1 := ok_sch_from t 0
    rw [e] at h1
    have h2 := ok_last _ _ _ _ h1
    have h3 := T.sum_sch (pre t i)
    rw [pre_sch] at h3
    have h4 : (pre t i).size = (t.sch.take i).length := by rw [← T.sch_len, pre_sch]
    omega
theorem rc_take : ∀ (t : T) (i : Nat), (pre t i).rc = t.rc.take i := by
  intro t i
  by_cases hi : i ≤ t.size
  · suffices h : ∀ k, i + k = t.size → (pre t i).rc = t.rc.take i from h (t.size - i) (by omega)
    intro k
    induction k generalizing i with
    | zero =>
      intro e
      rw [show i = t.size by omega, pre_all, List.take_of_length_le (by rw [T.rc_len]; omega)]
    | succ k ih =>
      intro e
      have hl : i < t.sch.length := by rw [T.sch_len]; omega
      obtain ⟨e1, h1⟩ := pre_succ (List.getElem?_eq_getElem hl)
      have h2 := ih (i + 1) (by omega) (by omega)
      rw [e1, T.push_rc _ _ h1] at h2
      have h3 := congrArg (List.take i) h2
      rw [List.take_append_of_le_length (by rw [T.rc_len, pre_size (by omega)]; omega), List.take_take, List.take_of_length_le (by rw [T.rc_len, pre_size (by omega)]; omega)] at h3
      rw [h3]; congr 1; omega
  · have e : t.sch.take i = t.sch := List.take_of_length_le (by rw [T.sch_len]; omega)
    have : pre t i = t := T.sch_inj (by rw [pre_sch, e])
    rw [this, List.take_of_length_le (by rw [T.rc_len]; omega)]
theorem rc_at {t : T} {i m : Nat} (h : t.sch[i]? = some m) : t.rc[i]? = some ((pre t i).runs - m + 1) := by
  obtain ⟨e1, h1⟩ := pre_succ h
  have hi : i < t.size := by rw [← T.sch_len]; exact (List.getElem?_eq_some_iff.mp h).1
  have h2 := rc_take t (i + 1)
  rw [e1, T.push_rc _ _ h1] at h2
  have h3 := congrArg (fun l : List Nat => l[i]?) h2
  simp only [List.getElem?_take] at h3
  rw [List.getElem?_append_right (by rw [T.rc_len, pre_size (by omega)]; omega), T.rc_len, pre_size (by omega)] at h3
  simp at h3
  exact h3.symm
theorem pre_runs {t : T} {i : Nat} (h : i < t.size) : t.rc[i]? = some (pre t (i + 1)).runs := by
  have hl : i < t.sch.length := by rw [T.sch_len]; exact h
  obtain ⟨e1, h1⟩ := pre_succ (List.getElem?_eq_getElem hl)
  rw [rc_at (List.getElem?_eq_getElem hl), e1, T.push_runs _ _ h1]
/-! ### write counts by place -/
theorem wr_step {t : T} {m : Nat} (h : m ≤ t.runs) (k : Nat) : ((t.push m).wr.getD k 0) = if t.start m ≤ k ∧ k < t.size + 1 then t.wr.getD k 0 + 1 else t.wr.getD k 0 := by
  have hs := T.start_le t m h
  have hl := T.wr_len t
  rw [T.push_wr t m h]
  simp only [List.getD_eq_getElem?_getD]
  by_cases h1 : k < t.start m
  · rw [List.getElem?_append_left (by rw [List.length_take]; omega), List.getElem?_take, if_pos h1, if_neg (by omega)]
  · have e : (t.wr.take (t.start m)).length = t.start m := by rw [List.length_take]; omega
    rw [List.getElem?_append_right (by omega), e]
    by_cases h2 : k < t.size
    · rw [List.getElem?_append_left (by rw [List.length_map, List.length_drop]; omega), List.getElem?_map, List.getElem?_drop, if_pos (by omega), show t.start m + (k - t.start m) = k by omega]
      rw [List.getElem?_eq_getElem (by omega)]
      rfl
    · by_cases h3 : k = t.size
      · have e2 : ((t.wr.drop (t.start m)).map (· + 1)).length = k - t.start m := by rw [List.length_map, List.length_drop]; omega
        rw [List.getElem?_append_right (by omega), e2, Nat.sub_self, if_pos (by omega), List.getElem?_eq_none (by omega : t.wr.length ≤ k)]
        rfl
      · rw [List.getElem?_eq_none (by simp; omega), if_neg (by omega), List.getElem?_eq_none (by omega : t.wr.length ≤ k)]
theorem list_by {c d : List Nat} (hl : c.length = d.length) (h : ∀ k, k < c.length → c[k]? = some (d.getD k 0)) : c = d := by
  refine List.ext_getElem? fun k => ?_
  by_cases hk : k < c.length
  · rw [h k hk, List.getD_eq_getElem?_getD, List.getElem?_eq_getElem (by omega)]
    rfl
  · rw [List.getElem?_eq_none (by omega), List.getElem?_eq_none (by omega)]
theorem stk_last {t : T} {i m : Nat} (h : t.sch[i]? = some m) : (pre t (i + 1)).stk 0 = ((pre t i).stk 0).take ((pre t i).runs - m) ++ [((pre t i).start m, i + 1)] := by
  obtain ⟨e, h1⟩ := pre_succ h
  have hi : i < t.size := by rw [← T.sch_len]; exact (List.getElem?_eq_some_iff.mp h).1
  rw [e, T.stk_push _ _ h1, Nat.zero_add, Nat.zero_add, pre_size (by omega)]

/-! ### subtrees -/
inductive Sub (t : T) : Nat → T → Nat → Int → Prop
  | root : Sub t 0 t 1 (-1)
  | left {off k : Nat} {p : Int} {l r : T} : Sub t off (.node l r) k p → Sub t off l k ((off + l.size : Nat) : Int)
  | right {off k : Nat} {p : Int} {l r : T} : Sub t off (.node l r) k p → Sub t (off + l.size + 1) r (k + 1) ((off + l.size : Nat) : Int)
def T.parOf (t : T) : List Int := t.par 0 (-1)
theorem slice_left {α : Type} {L a b : List α} {x : α} {off : Nat} (h : (L.drop off).take (a.length + 1 + b.length) = a ++ x :: b) : (L.drop off).take a.length = a := by
  have := congrArg (List.take a.length) h
  rw [List.take_take, List.take_left' rfl, show min a.length (a.length + 1 + b.length) = a.length by omega] at this
  exact this
theorem slice_mid {α : Type} {L a b : List α} {x : α} {off : Nat} (h : (L.drop off).take (a.length + 1 + b.length) = a ++ x :: b) : L[off + a.length]? = some x := by
  have := congrArg (fun l : List α => l[a.length]?) h
  simp only [List.getElem?_take, List.getElem?_drop] at this
  rw [if_pos (by omega), List.getElem?_append_right (Nat.le_refl _), Nat.sub_self] at this
  simpa using this
theorem slice_right {α : Type} {L a b : List α} {x : α} {off : Nat} (h : (L.drop off).take (a.length + 1 + b.length) = a ++ x :: b) : (L.drop (off + a.length + 1)).take b.length = b := by
  have := congrArg (List.drop (a.length + 1)) h
  rw [List.drop_take, List.drop_drop] at this
  have e2 : List.drop (a.length + 1) (a ++ x :: b) = b := by
    rw [List.drop_append]; simp
  rw [e2] at this
  have h2 := congrArg (List.take b.length) this
  rw [List.take_take, List.take_length] at h2
  rw [← Nat.add_assoc] at h2
  rw [show b.length = min b.length (a.length + 1 + b.length - (a.length + 1)) by omega]
  exact h2
theorem sub_le {t : T} {off k : Nat} {s : T} {p : Int} (h : Sub t off s k p) : off + s.size ≤ t.size ∧ 1 ≤ k ∧ k ≤ off + 1 := by
  induction h with
  | root => exact ⟨by omega, by omega, by omega⟩
  | left _ ih => simp only [T.size] at ih; omega
  | right _ ih => simp only [T.size] at ih; omega
theorem sub_out {t : T} {off k : Nat} {s : T} {p : Int} (h : Sub t off s k p) : (p = -1 ∨ ((0 ≤ p ∧ p < t.size) ∧ (p + 1 = off ∨ p = ((off + s.size : Nat) : Int)))) := by
  cases h with
  | root => exact .inl rfl
  | left h => have := sub_le h; simp only [T.size] at this; exact .inr ⟨by omega, .inr rfl⟩
  | right h => have := sub_le h; simp only [T.size] at this; exact .inr ⟨by omega, .inl (by omega)⟩
theorem sub_rc {t : T} {off k : Nat} {s : T} {p : Int} (h : Sub t off s k p) : (t.rc.drop off).take s.size = s.rc.map (· + (k - 1)) := by
  induction h with
  | root => simp [← T.rc_len]
  | @left off k p l r h ih =>
    have e : (T.node l r).rc.map (· + (k - 1)) = l.rc.map (· + (k - 1)) ++ (1 + (k - 1)) :: (r.rc.map (· + 1)).map (· + (k - 1)) := by simp [T.rc]
    rw [e] at ih
    have hl : (l.rc.map (· + (k - 1))).length = l.size := by rw [List.length_map, T.rc_len]
    have hr : ((r.rc.map (· + 1)).map (· + (k - 1))).length = r.size := by rw [List.length_map, List.length_map, T.rc_len]
    have := slice_left (a := l.rc.map (· + (k - 1))) (b := (r.rc.map (· + 1)).map (· + (k - 1))) (L := t.rc) (off := off) (x := 1 + (k - 1)) (by rw [hl, hr]; exact ih)
    rw [hl] at this
    exact this
  | @right off k p l r h ih =>
    have e : (T.node l r).rc.map (· + (k - 1)) = l.rc.map (· + (k - 1)) ++ (1 + (k - 1)) :: (r.rc.map (· + 1)).map (· + (k - 1)) := by simp [T.rc]
    rw [e] at ih
    have hl : (l.rc.map (· + (k - 1))).length = l.size := by rw [List.length_map, T.rc_len]
    have hr : ((r.rc.map (· + 1)).map (· + (k - 1))).length = r.size := by rw [List.length_map, List.length_map, T.rc_len]
    have := slice_right (a := l.rc.map (· + (k - 1))) (b := (r.rc.map (· + 1)).map (· + (k - 1))) (L := t.rc) (off := off) (x := 1 + (k - 1)) (by rw [hl, hr]; exact ih)
    rw [hl, hr] at this
    rw [this, List.map_map]
    refine List.map_congr_left fun a _ => ?_
    have := (sub_le h).2.1
    simp only [Function.comp]
    omega
theorem sub_par {t : T} {off k : Nat} {s : T} {p : Int} (h : Sub t off s k p) : (t.parOf.drop off).take s.size = s.par (off : Int) p := by
  induction h with
  | root => simp only [T.parOf]; rw [List.drop_zero, List.take_of_length_le (by rw [T.par_len]; omega)]; rfl
  | @left off k p l r h ih =>
    simp only [T.par] at ih
    have hl := T.par_len l (off : Int) ((off : Int) + l.size)
    have hr := T.par_len r ((off : Int) + l.size + 1) ((off : Int) + l.size)
    have := slice_left (a := l.par (off : Int) ((off : Int) + l.size)) (b := r.par ((off : Int) + l.size + 1) ((off : Int) + l.size)) (L := t.parOf) (off := off) (x := p) (by rw [hl, hr]; exact ih)
    rw [hl] at this
    rw [this, Int.natCast_add]
  | @right off k p l r h ih =>
    simp only [T.par] at ih
    have hl := T.par_len l (off : Int) ((off : Int) + l.size)
    have hr := T.par_len r ((off : Int) + l.size + 1) ((off : Int) + l.size)
    have := slice_right (a := l.par (off : Int) ((off : Int) + l.size)) (b := r.par ((off : Int) + l.size + 1) ((off : Int) + l.size)) (L := t.parOf) (off := off) (x := p) (by rw [hl, hr]; exact ih)
    rw [hl, hr] at this
    rw [this]
    simp only [Int.natCast_add]
    rfl
theorem sub_root {t : T} {off k : Nat} {l r : T} {p : Int} (h : Sub t off (.node l r) k p) : t.parOf[off + l.size]? = some p := by
  have ih := sub_par h
  simp only [T.par] at ih
  have hl := T.par_len l (off : Int) ((off : Int) + l.size)
  have hr := T.par_len r ((off : Int) + l.size + 1) ((off : Int) + l.size)
  have := slice_mid (a := l.par (off : Int) ((off : Int) + l.size)) (b := r.par ((off : Int) + l.size + 1) ((off : Int) + l.size)) (L := t.parOf) (off := off) (x := p) (by rw [hl, hr]; exact ih)
  rw [hl] at this
  exact this
/-- the parents of a subtree: the root's alone lies outside -/
theorem par_in : ∀ (s : T) (off p : Int) (i : Nat) (q : Int), (s.par off p)[i]? = some q → (∃ l r, s = .node l r ∧ i = l.size ∧ q = p) ∨ (off ≤ q ∧ q < off + s.size ∧ ∀ l r, s = .node l r → i ≠ l.size)
  | .nil, _, _, _, _, h => by simp [T.par] at h
  | .node l r, off, p, i, q, h => by
    simp only [T.par] at h
    have hl := T.par_len l off (off + l.size)
    by_cases h1 : i < l.size
    · rw [List.getElem?_append_left (by omega)] at h
      refine .inr ?_
      rcases par_in l off (off + l.size) i q h with ⟨a, b, e, e2, e3⟩ | ⟨h2, h3, _⟩
      · refine ⟨by omega, by simp only [T.size]; omega, fun l' r' e' => by cases e'; omega⟩
      · refine ⟨by omega, by simp only [T.size]; omega, fun l' r' e' => by cases e'; omega⟩
    · rw [List.getElem?_append_right (by omega), hl] at h
      by_cases h2 : i = l.size
      · subst h2
        rw [Nat.sub_self] at h
        have : p = q := by simpa using h
        exact .inl ⟨l, r, rfl, rfl, this.symm⟩
      · obtain ⟨j, e⟩ : ∃ j, i - l.size = j + 1 := ⟨i - l.size - 1, by omega⟩
        rw [e, List.getElem?_cons_succ] at h
        refine .inr ?_
        rcases par_in r (off + l.size + 1) (off + l.size) j q h with ⟨a, b, e4, e2, e3⟩ | ⟨h4, h3, _⟩
        · refine ⟨by omega, by simp only [T.size]; omega, fun l' r' e' => by cases e'; omega⟩
        · refine ⟨by omega, by simp only [T.size]; omega, fun l' r' e' => by cases e'; omega⟩
theorem rc_pos : ∀ (s : T) (i v : Nat), s.rc[i]? = some v → 1 ≤ v
  | .nil, _, _, h => by simp [T.rc] at h
  | .node l r, i, v, h => by
    simp only [T.rc] at h
    by_cases h1 : i < l.size
    · rw [List.getElem?_append_left (by rw [T.rc_len]; exact h1)] at h
      exact rc_pos l i v h
    · rw [List.getElem?_append_right (by rw [T.rc_len]; omega), T.rc_len] at h
      rcases Nat.eq_zero_or_pos (i - l.size) with e | e
      · rw [e] at h; simp at h; omega
      · obtain ⟨j, e⟩ : ∃ j, i - l.size = j + 1 := ⟨i - l.size - 1, by omega⟩
        rw [e, List.getElem?_cons_succ, List.getElem?_map] at h
        cases h2 : r.rc[j]? with
        | none => rw [h2] at h; cases h
        | some u => rw [h2] at h; simp at h; omega
theorem rc_one {l r : T} {i : Nat} (h : (T.node l r).rc[i]? = some 1) : i ≤ l.size := by
  simp only [T.rc] at h
  by_cases h1 : i ≤ l.size
  · exact h1
  · rw [List.getElem?_append_right (by rw [T.rc_len]; omega), T.rc_len] at h
    obtain ⟨j, e⟩ : ∃ j, i - l.size = j + 1 := ⟨i - l.size - 1, by omega⟩
    rw [e, List.getElem?_cons_succ, List.getElem?_map] at h
    cases h2 : r.rc[j]? with
    | none => rw [h2] at h; cases h
    | some u =>
      have := rc_pos r j u h2
      rw [h2] at h; simp at h; omega
theorem rc_root (l r : T) : (T.node l r).rc[l.size]? = some 1 := by
  simp only [T.rc]
  rw [List.getElem?_append_right (by rw [T.rc_len]; exact Nat.le_refl _), T.rc_len, Nat.sub_self]; rfl
theorem sub_rc_at {t : T} {off k : Nat} {s : T} {p : Int} (h : Sub t off s k p) {i : Nat} (hi : i < s.size) : ∃ v, s.rc[i]? = some v ∧ t.rc[off + i]? = some (v + (k - 1)) := by
  have e := congrArg (fun l : List Nat => l[i]?) (sub_rc h)
  simp only [List.getElem?_take, List.getElem?_drop, List.getElem?_map] at e
  rw [if_pos hi] at e
  have hv := List.getElem?_eq_getElem (show i < s.rc.length by rw [T.rc_len]; exact hi)
  rw [hv] at e
  exact ⟨_, hv, e⟩
theorem sub_par_at {t : T} {off k : Nat} {s : T} {p : Int} (h : Sub t off s k p) {i : Nat} (hi : i < s.size) : ∃ q, (s.par (off : Int) p)[i]? = some q ∧ t.parOf[off + i]? = some q := by
  have e := congrArg (fun l : List Int => l[i]?) (sub_par h)
  simp only [List.getElem?_take, List.getElem?_drop] at e
  rw [if_pos hi] at e
  have hv := List.getElem?_eq_getElem (show i < (s.par (off : Int) p).length by rw [T.par_len]; exact hi)
  rw [hv] at e
  exact ⟨_, hv, e⟩
theorem filter_one {f : Nat → Bool} {n c : Nat} (hc : c < n) (h1 : f c = true) (h2 : ∀ i, i < n → f i = true → i = c) : (List.range n).filter f = [c] := by
  induction n with
  | zero => omega
  | succ n ih =>
    rw [List.range_succ, List.filter_append]
    by_cases e : c = n
    · subst e
      have e0 : (List.range c).filter f = [] := List.filter_eq_nil_iff.mpr fun i hi hf => by
        have := List.mem_range.mp hi
        have := h2 i (by omega) hf
        omega
      rw [e0]; simp [h1]
    · rw [ih (by omega) fun i hi hf => h2 i (by omega) hf]
      have : f n = false := by
        cases hf : f n with
        | false => rfl
        | true => exact absurd (h2 n (by omega) hf) (by omega)
      simp [this]
/-- the work of a list of subtrees -/
def todo : List (Nat × T × Nat × Int) → Nat
  | [] => 0
  | x :: r => 2 * x.2.1.size + 1 + todo r
theorem todo_app : ∀ a b, todo (a ++ b) = todo a + todo b
  | [], b => by simp [todo]
  | x :: r, b => by simp [todo, todo_app r b]; omega
theorem len_todo : ∀ L, L.length ≤ todo L
  | [] => Nat.le_refl _
  | x :: r => by have := len_todo r; simp [todo]; omega

/-! ### one step up -/
theorem getD_app_l {a b : List Nat} {i : Nat} (h : i < a.length) : (a ++ b).getD i 0 = a.getD i 0 := by
  simp only [List.getD_eq_getElem?_getD, List.getElem?_append_left h]
theorem getD_app_r {a b : List Nat} {i : Nat} (h : a.length ≤ i) : (a ++ b).getD i 0 = b.getD (i - a.length) 0 := by
  simp only [List.getD_eq_getElem?_getD, List.getElem?_append_right h]
theorem getD_map1 {a : List Nat} {i : Nat} (h : i < a.length) : (a.map (· + 1)).getD i 0 = a.getD i 0 + 1 := by
  simp only [List.getD_eq_getElem?_getD, List.getElem?_map, List.getElem?_eq_getElem h]; rfl
theorem wr_l {l r : T} {i : Nat} (h : i < l.size) : (T.node l r).wr.getD i 0 = l.wr.getD i 0 + 1 := by
  simp only [T.wr]
  rw [getD_app_l (by rw [List.length_map, T.wr_len]; exact h), getD_map1 (by rw [T.wr_len]; exact h)]
theorem wr_m {l r : T} : (T.node l r).wr.getD l.size 0 = 1 := by
  simp only [T.wr]
  rw [getD_app_r (by rw [List.length_map, T.wr_len]; exact Nat.le_refl _), List.length_map, T.wr_len, Nat.sub_self]; rfl
theorem wr_r {l r : T} {j : Nat} : (T.node l r).wr.getD (l.size + 1 + j) 0 = r.wr.getD j 0 := by
  simp only [T.wr]
  rw [getD_app_r (by rw [List.length_map, T.wr_len]; omega), List.length_map, T.wr_len, show l.size + 1 + j - l.size = j + 1 by omega, List.getD_cons_succ]
theorem rc_l {l r : T} {i : Nat} (h : i < l.size) : (T.node l r).rc.getD i 0 = l.rc.getD i 0 := by
  simp only [T.rc]
  rw [getD_app_l (by rw [T.rc_len]; exact h)]
theorem rc_m {l r : T} : (T.node l r).rc.getD l.size 0 = 1 := by
  simp only [T.rc]
  rw [getD_app_r (by rw [T.rc_len]; exact Nat.le_refl _), T.rc_len, Nat.sub_self]; rfl
theorem rc_r {l r : T} {j : Nat} (h : j < r.size) : (T.node l r).rc.getD (l.size + 1 + j) 0 = r.rc.getD j 0 + 1 := by
  simp only [T.rc]
  rw [getD_app_r (by rw [T.rc_len]; omega), T.rc_len, show l.size + 1 + j - l.size = j + 1 by omega, List.getD_cons_succ, getD_map1 (by rw [T.rc_len]; exact h)]
theorem up : ∀ (s : T) (off p : Int) (i : Nat) (q : Int), (s.par off p)[i]? = some q →
    (q = p ∧ s.wr.getD i 0 = 1 ∧ s.rc.getD i 0 = 1) ∨
    ∃ j : Nat, q = off + j ∧ j < s.size ∧ j ≠ i ∧ (i < j → s.wr.getD i 0 = s.wr.getD j 0 + 1 ∧ s.rc.getD i 0 = s.rc.getD j 0) ∧ (j < i → s.wr.getD i 0 = s.wr.getD j 0 ∧ s.rc.getD i 0 = s.rc.getD j 0 + 1)
  | .nil, _, _, _, _, h => by simp [T.par] at h
  | .node l r, off, p, i, q, h => by
    simp only [T.par] at h
    have hl := T.par_len l off (off + l.size)
    by_cases h1 : i < l.size
    · rw [List.getElem?_append_left (by omega)] at h
      refine .inr ?_
      rcases up l off (off + l.size) i q h with ⟨e, e1, e2⟩ | ⟨j, e, hj, hne, c1, c2⟩
      · exact ⟨l.size, e, by simp only [T.size]; omega, by omega, fun _ => ⟨by rw [wr_l h1, wr_m, e1], by rw [rc_l h1, rc_m, e2]⟩, fun z => by omega⟩
      · exact ⟨j, e, by simp only [T.size]; omega, hne, fun z => ⟨by rw [wr_l h1, wr_l hj, (c1 z).1], by rw [rc_l h1, rc_l hj, (c1 z).2]⟩, fun z => ⟨by rw [wr_l h1, wr_l hj, (c2 z).1], by rw [rc_l h1, rc_l hj, (c2 z).2]⟩⟩
    · rw [List.getElem?_append_right (by omega), hl] at h
      by_cases h2 : i = l.size
      · subst h2
        rw [Nat.sub_self] at h
        have : p = q := by simpa using h
        exact .inl ⟨this.symm, wr_m, rc_m⟩
      · obtain ⟨k, e⟩ : ∃ k, i = l.size + 1 + k := ⟨i - l.size - 1, by omega⟩
        subst e
        rw [show l.size + 1 + k - l.size = k + 1 by omega, List.getElem?_cons_succ] at h
        have hk : k < r.size := by
          have := (List.getElem?_eq_some_iff.mp h).1
          rw [T.par_len] at this; exact this
        refine .inr ?_
        rcases up r (off + l.size + 1) (off + l.size) k q h with ⟨e, e1, e2⟩ | ⟨j, e, hj, hne, c1, c2⟩
        · exact ⟨l.size, e, by simp only [T.size]; omega, by omega, fun z => by omega, fun _ => ⟨by rw [wr_r, wr_m, e1], by rw [rc_r hk, rc_m, e2]⟩⟩
        · exact ⟨l.size + 1 + j, by rw [e]; omega, by simp only [T.size]; omega, by omega, fun z => ⟨by rw [wr_r, wr_r, (c1 (by omega)).1], by rw [rc_r hk, rc_r hj, (c1 (by omega)).2]⟩, fun z => ⟨by rw [wr_r, wr_r, (c2 (by omega)).1], by rw [rc_r hk, rc_r hj, (c2 (by omega)).2]⟩⟩
theorem wr_pos {t : T} {i : Nat} (h : i < t.size) : 1 ≤ t.wr.getD i 0 := by
  induction t generalizing i with
  | nil => simp [T.size] at h
  | node l r ihl ihr =>
    by_cases h1 : i < l.size
    · rw [wr_l h1]; omega
    · by_cases h2 : i = l.size
      · subst h2; rw [wr_m]; exact Nat.le_refl _
      · obtain ⟨k, e⟩ : ∃ k, i = l.size + 1 + k := ⟨i - l.size - 1, by omega⟩
        subst e
        rw [wr_r]; exact ihr (by simp only [T.size] at h; omega)
theorem rc_posD {t : T} {i : Nat} (h : i < t.size) : 1 ≤ t.rc.getD i 0 := by
  have := List.getElem?_eq_getElem (show i < t.rc.length by rw [T.rc_len]; exact h)
  rw [List.getD_eq_getElem?_getD, this]
  exact rc_pos t i _ this

/-! ### mirrors -/
def mirN (N : Int) (q : Int) : Int := if q = -1 then -1 else N - 1 - q
theorem mir_size : ∀ t : T, t.mir.size = t.size
  | .nil => rfl
  | .node l r => by simp [T.mir, T.size, mir_size l, mir_size r]; omega
theorem mir_par : ∀ (s : T) (N off p : Int), 0 ≤ off → ((s.par off p).reverse).map (mirN N) = s.mir.par (N - off - s.size) (mirN N p)
  | .nil, _, _, _, _ => rfl
  | .node l r, N, off, p, h => by
    simp only [T.par, T.mir, List.reverse_append, List.reverse_cons, List.map_append, List.map_cons, List.map_nil]
    rw [mir_par l N off (off + l.size) h, mir_par r N (off + l.size + 1) (off + l.size) (by omega), mir_size]
    have e1 : mirN N (off + l.size) = N - 1 - (off + l.size) := by unfold mirN; rw [if_neg (by omega)]
    rw [e1]
    have e2 : N - off - ((T.node l r).size : Int) = N - (off + l.size + 1) - r.size := by simp only [T.size]; omega
    rw [e2]
    have e3 : N - (off + ↑l.size + 1) - ↑r.size + ↑r.size = N - 1 - (off + ↑l.size) := by omega
    rw [e3, show N - 1 - (off + (l.size : Int)) + 1 = N - off - l.size by omega]
    simp
theorem mir_parOf (t : T) : t.mir.parOf = (t.parOf.reverse).map (mirN t.size) := by
  unfold T.parOf
  rw [mir_par t t.size 0 (-1) (by omega)]
  rw [show ((t.size : Int) - 0 - t.size) = 0 by omega]
  rfl
theorem mir_wr : ∀ t : T, t.mir.wr = t.rc.reverse
  | .nil => rfl
  | .node l r => by simp [T.mir, T.wr, T.rc, mir_wr l, mir_wr r]
theorem mir_rc : ∀ t : T, t.mir.rc = t.wr.reverse
  | .nil => rfl
  | .node l r => by simp [T.mir, T.wr, T.rc, mir_rc l, mir_rc r]
theorem mir_mir : ∀ t : T, t.mir.mir = t
  | .nil => rfl
  | .node l r => by simp [T.mir, mir_mir l, mir_mir r]

/-! ### parents of a joined tree -/
theorem par_below {N : Int} : ∀ (s : T) (off p : Int), 0 ≤ off → (s.par off p).map (fun q => if q = -1 then N else q) = s.par off (if p = -1 then N else p)
  | .nil, _, _, _ => rfl
  | .node l r, off, p, h => by
    simp only [T.par, List.map_append, List.map_cons]
    rw [par_below l off _ h, par_below r (off + l.size + 1) _ (by omega), if_neg (by omega : ¬ off + (l.size : Int) = -1)]
theorem par_beyond {N : Int} : ∀ (s : T) (off p : Int), 0 ≤ off → (s.par off p).map (fun q => if q = -1 then N else q + N + 1) = s.par (off + N + 1) (if p = -1 then N else p + N + 1)
  | .nil, _, _, _ => rfl
  | .node l r, off, p, h => by
    simp only [T.par, List.map_append, List.map_cons]
    rw [par_beyond l off _ h, par_beyond r (off + l.size + 1) _ (by omega), if_neg (by omega : ¬ off + (l.size : Int) = -1)]
    have e1 : off + (l.size : Int) + N + 1 = off + N + 1 + l.size := by omega
    have e2 : off + (l.size : Int) + 1 + N + 1 = off + N + 1 + l.size + 1 := by omega
    rw [e1, e2]
theorem parOf_node (s u : T) : (T.node s u).parOf = s.parOf.map (fun q => if q = -1 then (s.size : Int) else q) ++ [-1] ++ u.parOf.map (fun q => if q = -1 then (s.size : Int) else q + s.size + 1) := by
  unfold T.parOf
  rw [par_below s 0 (-1) (by omega), par_beyond u 0 (-1) (by omega)]
  simp only [T.par]
  simp
theorem parOf_root (s u : T) : (T.node s u).parOf[s.size]? = some (-1) := by
  have := sub_root (t := T.node s u) .root
  simpa using this
theorem parOf_first {s u : T} {m : Nat} (h : m < s.size) : (T.node s u).parOf[m]? ≠ some (-1) := fun e => by
  rcases par_in _ _ _ _ _ e with ⟨l, r, e1, e2, _⟩ | ⟨h1, _, _⟩
  · cases e1; omega
  · omega

/-! ### runs as lists of flushes -/
theorem stk_pair : ∀ (t : T) (off j : Nat), j + 1 ≤ t.runs → (t.stk off)[t.runs - (j + 1)]? = some (off + t.start (j + 1), off + t.start j)
  | .nil, _, _, h => by simp [T.runs] at h
  | .node l r, off, j, h => by
    by_cases e : j = r.runs
    · subst e
      have e1 : (T.node l r).runs = r.runs + 1 := by simp [T.runs]; omega
      rw [e1, Nat.sub_self, ← e1, T.start_eq, T.start_node (Nat.le_refl _), T.start_eq]
      rfl
    · have h1 : j + 1 ≤ r.runs := by simp [T.runs] at h; omega
      have e1 : (T.node l r).runs - (j + 1) = (r.runs - (j + 1)) + 1 := by simp [T.runs]; omega
      rw [e1, T.start_node h1, T.start_node (by omega)]
      simp only [T.stk, List.getElem?_cons_succ]
      rw [stk_pair r (off + l.size + 1) j h1]
      congr 2 <;> omega
theorem start_anti : ∀ (t : T) (j : Nat), j + 1 ≤ t.runs → t.start (j + 1) < t.start j
  | .nil, _, h => by simp [T.runs] at h
  | .node l r, j, h => by
    by_cases e : j = r.runs
    · subst e
      have e1 : (T.node l r).runs = r.runs + 1 := by simp [T.runs]; omega
      rw [← e1, T.start_eq, T.start_node (Nat.le_refl _), T.start_eq]
      omega
    · have h1 : j + 1 ≤ r.runs := by simp [T.runs] at h; omega
      rw [T.start_node h1, T.start_node (by omega)]
      have := start_anti r j h1
      omega
/-- the flushes of [a, b) -/
def seg (a b : Nat) : List Nat := List.range' a (b - a)
theorem seg_app {a b c : Nat} (h1 : a ≤ b) (h2 : b ≤ c) : seg a b ++ seg b c = seg a c := by
  unfold seg
  have := List.range'_append_1 (s := a) (m := b - a) (n := c - b)
  rw [show a + (b - a) = b by omega, show b - a + (c - b) = c - a by omega] at this
  exact this
theorem seg_one (a : Nat) : seg a (a + 1) = [a] := by
  unfold seg
  rw [show a + 1 - a = 1 by omega]; rfl
theorem seg_nil (a : Nat) : seg a a = [] := by unfold seg; rw [Nat.sub_self]; rfl
theorem seg_len (a b : Nat) : (seg a b).length = b - a := by unfold seg; rw [List.length_range']
theorem seg_at {a b k : Nat} (h : a + k < b) : (seg a b)[k]? = some (a + k) := by
  unfold seg
  rw [List.getElem?_range' (by omega)]
  simp
theorem stk_take_succ {t : T} {j : Nat} (off : Nat) (h : j + 1 ≤ t.runs) : (t.stk off).take (t.runs - j) = (t.stk off).take (t.runs - (j + 1)) ++ [(off + t.start (j + 1), off + t.start j)] := by
  rw [show t.runs - j = (t.runs - (j + 1)) + 1 by omega, List.take_add_one, stk_pair t off j h]; rfl
/-- adjacent, from off on -/
theorem stk_starts : ∀ (t : T) (off : Nat), (t.stk off).map (·.1) = (off :: (t.stk off).map (·.2)).dropLast
  | .nil, _ => rfl
  | .node l r, off => by
    have ih := stk_starts r (off + l.size + 1)
    simp only [T.stk, List.map_cons]
    rw [ih]; rfl
theorem stk_stops : ∀ (t : T) (off : Nat), (off :: (t.stk off).map (·.2)).getLast? = some (off + t.size)
  | .nil, off => by simp [T.stk, T.size]
  | .node l r, off => by
    have ih := stk_stops r (off + l.size + 1)
    simp only [T.stk, List.map_cons, T.size]
    rw [List.getLast?_cons_cons, ih]
    congr 1; omega
theorem stk_lt : ∀ (t : T) (off : Nat) (p : Nat × Nat), p ∈ t.stk off → off ≤ p.1 ∧ p.1 < p.2 ∧ p.2 ≤ off + t.size
  | .nil, _, _, h => by simp [T.stk] at h
  | .node l r, off, p, h => by
    simp only [T.stk] at h
    rcases List.mem_cons.mp h with rfl | h
    · simp only [T.size]; omega
    · have := stk_lt r _ p h
      simp only [T.size]; omega
end MB

set_option maxHeartbeats 4000000
namespace MB
open PySem PySem.Spec PyProof.Rows L2

/-! ### great powers -/
def CPowW (i j : Int) : Prop := 0 ≤ j ∧ (Builtin.Int.intBits i : Int) * j ≤ 2 ^ 27
theorem op_powW {X : Cx} : OpR X (binaryOp .Pow) (rI CPowW fun i j => .int (i ^ j.toNat)) := opI fun _ _ _ _ _ _ _ hc q => pow_int hc.1 hc.2 q

/-! ### xs[i] op= e -/
theorem get_list {X : Cx} : PGet X (rIxL X.K) := by
  intro pins s σ H x y v u Q I rx ry h
  obtain ⟨p, xs, i, z, rfl, rfl, hq, he, q⟩ := h
  cases rx
  obtain ⟨t, rfl⟩ := ry
  obtain ⟨its, r, pl, hz⟩ := I.list hq
  obtain ⟨j, h1, h2, h3, h4, h5⟩ := atI_get he
  obtain ⟨w, ew, rw'⟩ := r.get h2
  have hl := r.length
  have hn := line63
  have fin : EP X pins σ Q w s := ⟨z, H, I, rw', q⟩
  by_cases h0 : 0 ≤ i
  · have hj : i.toNat = j := by
      rw [seqIndex_of h0 h5] at h1
      exact Option.some.inj h1
    exact getItem_listL pl.isList h0 (by omega) (by rw [hj]; exact ew) fin
  · have hj : (i + (its.toArray.size : Int)).toNat = j := by
      rw [seqIndex_neg (by omega) h4] at h1
      rw [List.size_toArray, ← hl]
      exact Option.some.inj h1
    exact wpAny_getItem_list_neg pl.isList (by omega) (by rw [List.size_toArray] <;> omega) (by omega) (by rw [hj]; simpa using ew) fin

/-! ### sum of a tuple of ints -/
theorem ints_at : ∀ {ns : List Int} {its : List Value}, Vals (ns.map V.int) its → ∀ (i : Nat) (v : Value), its[i]? = some v → ∃ t, v = .int (ns.getD i 0) t
  | [], _, .nil, i, v, h => by simp at h
  | n :: ns, u :: us, .cons r rr, 0, v, h => by
    obtain ⟨t, rfl⟩ := r
    simp at h
    exact ⟨t, by simp [h]⟩
  | n :: ns, u :: us, .cons r rr, i + 1, v, h => by
    have := ints_at rr i v (by simpa using h)
    simpa using this
theorem preSum_getD (ns : List Int) : ∀ k, k ≤ ns.length → preSum (fun i => ns.getD i 0) k = (ns.take k).sum
  | 0, _ => by simp [preSum]
  | k + 1, h => by
    have e : ns[k]? = some (ns.getD k 0) := by
      rw [List.getElem?_eq_getElem (by omega), List.getD_eq_getElem?_getD, List.getElem?_eq_getElem (by omega)]
      rfl
    rw [preSum, preSum_getD ns k (by omega), L2.sum_take e]
def rSumT (K : PySem.W.Frag) : List V → Hp → VK → Prop := fun xs H Q => ∃ (a : Addr) (ns : List Int), xs = [V.ref a] ∧ SqT K H a (ns.map V.int) ∧ Q (.int ns.sum) H
theorem cr_sumT {X : Cx} (hc : X.calm = true) : CallR X (.builtin "sum") (rSumT X.K) := by
  intro pins s σ H vs us Q I r h
  obtain ⟨a, ns, rfl, hs, q⟩ := h
  obtain ⟨its, rv, hl, _⟩ := I.tuple hs
  rw [Vals.ref1 r]
  have hT : s.heap.IsTuple a its.toArray := hl
  have hlt : a < s.heap.objs.size := by obtain ⟨_, e, _⟩ := hl; exact Heap.lt_size e
  refine PySem.call_sum_walkG (wpAny_pyIter_tuple hT ?_)
  refine ⟨s.heap.objs.size, [s.heap.objs.size, a], [s.heap.objs.size], its.toArray.size, _, _, fun i => ns.getD i 0, rfl, Walks.tuple (A := X.A.in1) (I.ok.hd hc) _ a (Nat.ne_of_lt hlt) its.toArray, ⟨⟨_, Heap.get?_push_size _ rfl, rfl, rfl⟩, hT.at fun o e => Heap.get?_push_of_some _ e⟩, fun b hb => ?_, fun i v hv => ints_at rv i v (by simpa using hv), fun h' tk t' hk => ?_⟩
  · show b < (s.heap.push _).objs.size
    rw [Heap.size_push]
    have e : b = s.heap.objs.size ∨ b = a := by simpa using hb
    rcases e with e | e
    · rw [e]; exact Nat.lt_succ_self _
    · rw [e]; exact Nat.lt_succ_of_lt hlt
  · have el : its.toArray.size = ns.length := by rw [List.size_toArray, ← rv.length, List.length_map]
    rw [el, preSum_getD ns _ (Nat.le_refl _), List.take_length]
    refine ⟨.int ns.sum, H, I.kept fun b o e => hk b o ?_ (Heap.get?_push_of_some _ e), ⟨_, rfl⟩, q⟩
    have := Heap.lt_size e
    simp only [List.mem_singleton]
    exact Nat.ne_of_lt this

/-! ### enumerate(tuple) -/
set_option maxHeartbeats 4000000 in
theorem meets_enumerate_newT (l : Addr) (items : Array Value) (n : Nat) (dct : Option Addr) (sl : Array (Option Value)) :
    Meets (Builtin.«enumerate.__new__» ⟨[.type "enumerate", .ref l], []⟩) (fun _ R s => s.heap.get? l = some { cls := .type "tuple", dict := dct, data := .seq items n, slots := sl } ∧
      R (.ok (.ret (.ref (s.heap.push { cls := .type "tuple_iterator", data := .fields #[.ref l, .int 0 0] }).objs.size)))
        { s with heap := (s.heap.push { cls := .type "tuple_iterator", data := .fields #[.ref l, .int 0 0] }).push { cls := .type "enumerate", data := .fields #[.none, .bool false, .ref s.heap.objs.size, rawInt 0, .none, .none] } }) :=
  .of_wp fun prog w A R s h => by
    obtain ⟨hp, g, d, tk, os⟩ := s; obtain ⟨hl, h⟩ := h
    have hsub := sub_enumerate
    have hL : Heap.IsTuple (Shared.heap ⟨hp, g, d, tk, os⟩) l items := ⟨_, hl, rfl, n, rfl⟩
    wp_walk using AutoSeq1.wpAny_loadPart' hl
    refine wpAny_stack_any fun st => wpAny_pure ?_
    split
    · rename_i c _ _ _ _ _
      cases (c == Value.type "enumerate")
      · wp_walk using AutoSeq1.wpAny_loadPart' hl, wpAny_pyIter_tuple hL
        exact ⟨_, rfl, h⟩
      · wp_walk using AutoSeq1.wpAny_loadPart' hl, wpAny_pyIter_tuple hL
        exact ⟨_, rfl, h⟩
    · wp_walk using AutoSeq1.wpAny_loadPart' hl, wpAny_pyIter_tuple hL
      exact ⟨_, rfl, h⟩
section
variable {prog : Program} {w : World} {A : Around} {E : Value → Shared → Prop} {s : Shared}
theorem call_enumerate_tuple {l : Addr} {items : Array Value} {Q : Value → Shared → Prop} (hL : s.heap.IsTuple l items)
    (h : ∀ h', IsEnum h' (s.heap.objs.size + 1) s.heap.objs.size 0 .none → h'.IsTupleIter s.heap.objs.size l 0 → h'.objs.size = s.heap.objs.size + 2 →
      (∀ b o, s.heap.get? b = some o → h'.get? b = some o) → Q (.ref (s.heap.objs.size + 1)) { s with heap := h' }) :
    wpAny (model prog w) A (call (.type "enumerate") [.ref l]) Q E s := by
  obtain ⟨⟨c, dct, dt, sl⟩, hl, hc, n, hd⟩ := hL
  replace hc : c = .type "tuple" := hc
  replace hd : dt = .seq items n := hd
  subst hc hd
  refine callType_new F.called_enumerate (by decide) (F.typeCall_enumerate_1 _) (F.newCall_enumerate_1 _) (fun obj => F.args_object_init_2 obj _) F.entry_enumerate_new
    (meets_enumerate_newT l items n dct sl) ⟨hl, ?_⟩
  have hz : (s.heap.push { cls := .type "tuple_iterator", data := .fields #[.ref l, .int 0 0] }).objs.size = s.heap.objs.size + 1 := Heap.size_push ..
  show _ ∧ _
  rw [hz]
  have he : IsEnum ((s.heap.push { cls := .type "tuple_iterator", data := .fields #[.ref l, .int 0 0] }).push
      { cls := .type "enumerate", data := .fields #[.none, .bool false, .ref s.heap.objs.size, rawInt 0, .none, .none] }) (s.heap.objs.size + 1) s.heap.objs.size 0 .none := by
    have := Heap.get?_push_size (s.heap.push { cls := .type "tuple_iterator", data := .fields #[.ref l, .int 0 0] })
      (o := { cls := .type "enumerate", data := .fields #[.none, .bool false, .ref s.heap.objs.size, rawInt 0, .none, .none] }) rfl
    rw [hz] at this; exact this
  refine ⟨⟨_, he, rfl⟩, h _ he ⟨_, Heap.get?_push_of_some _ (Heap.get?_push_size _ rfl), rfl, rfl⟩ (by rw [Heap.size_push, hz]) fun b o x => Heap.get?_push_of_some _ (Heap.get?_push_of_some _ x)⟩
end
def IteT (K : PySem.W.Frag) (a : Addr) : It :=
  ⟨fun i H => ∃ (xs : List V) (x : V), SqT K H a xs ∧ xs[i]? = some x, fun i H v H' => ∃ T x, v = .ref T ∧ H T = none ∧ H' = upd H T (.tup [.int (i : Nat), x]) ∧ ∀ xs, SqT K H a xs → xs[i]? = some x, fun i H => ∃ xs : List V, SqT K H a xs ∧ xs.length = i⟩
theorem tup_ne {h : Heap} {a it : Addr} {items : Array Value} {i : Nat} (h1 : h.IsTuple a items) (h2 : h.IsTupleIter it a i) : a ≠ it := fun e => by
  obtain ⟨o, ho, hc, n, hd⟩ := h1
  obtain ⟨o', ho', hc', hd'⟩ := h2
  rw [e] at ho
  rw [ho] at ho'
  cases ho'
  rw [hd] at hd'
  cases hd'
theorem turn_enumT {P : Program} {w : World} {K : PySem.W.Frag} {elts : List Expr} {kk : Nat} {tpos : Pos} (a e it : Addr) (hae : a ≠ e) :
    Turn P w K (.Tuple elts kk tpos) (IteT K a) [e, it] e (fun i h => (∃ old, IsEnum h e it ((i : Nat) : Int) old) ∧ h.IsTupleIter it a i ∧ e ≠ it) where
  mem := by simp
  obj := fun i h st b hb => by
    obtain ⟨⟨old, he⟩, ⟨o, ho, hc, hd⟩, _⟩ := st
    have e' : b = e ∨ b = it := by simpa using hb
    rcases e' with z | z
    · rw [z]; exact ⟨_, he, fun v q => nomatch q⟩
    · rw [z]; exact ⟨o, ho, fun v q => by rw [hd] at q; cases q⟩
  keep := fun i h h' st k => let ⟨⟨old, he⟩, hi, hne⟩ := st; ⟨⟨old, k e (by simp) _ he⟩, hi.at fun o q => k it (by simp) o q, hne⟩
  item := by
    intro X hP hw hK hc i pins s σ H E I hf st hg
    subst hP hw hK
    obtain ⟨⟨old, he⟩, hit, hne⟩ := st
    obtain ⟨xs, x, hq, hx⟩ := hg
    obtain ⟨its, rv, p, hz⟩ := I.tuple hq
    have p : s.heap.IsTuple a its.toArray := p
    have hat : a ≠ it := tup_ne p hit
    have hel : e < s.heap.objs.size := Heap.lt_size he
    have hil : it < s.heap.objs.size := by obtain ⟨_, q, _⟩ := hit; exact Heap.lt_size q
    have hlen : i < its.toArray.size := by
      rw [List.size_toArray, ← rv.length]; exact (List.getElem?_eq_some_iff.mp hx).1
    refine wpAny_pyNext_enum_itemD (Draws.tuple (prog := X.prog) (w := X.w) (A := X.A.in1) (I.ok.hd hc) it a hat its.toArray) he ⟨hit, p⟩ hlen hne (by simp; exact ⟨hne, fun z => hae z.symm⟩) fun u h' tk hu ho hit' hT hsz hk => ?_
    obtain ⟨u', hu', ru'⟩ := rv.get hx
    have eu : u = u' := by
      have h1 : its[i]? = some u := by simpa using hu
      rw [h1] at hu'; exact Option.some.inj hu'
    subst eu
    refine ⟨_, rfl, wpAny_letOwnedTupleGo_enum (s := { s with heap := h', toks := tk + 1 }) ho fun h'' he' sb => ?_⟩
    have hT2 : h''.get? s.heap.objs.size = some { cls := .type "tuple", data := .seq #[.int i tk, u] } := (sb.2 _ (Nat.ne_of_gt hel)).trans hT
    have new : ObjOk X.prog X.w (upd H s.heap.objs.size (.tup [.int (i : Nat), x])) h'' s.heap.objs.size (.tup [.int (i : Nat), x]) :=
      ⟨by show 2 ≤ sizeLine; decide, [.int i tk, u], .cons ⟨_, rfl⟩ (.cons ru' .nil), ⟨_, hT2, rfl, _, rfl⟩⟩
    have I1 : Inv X pins σ (upd H s.heap.objs.size (.tup [.int (i : Nat), x])) { s with heap := h'', toks := tk + 1 } :=
      I.turnedNew (ch := [e, it]) (fun b ob hb q => (sb.2 b (fun z => hb (by simp [z]))).trans (hk b ob (fun z => hb (by simp [z])) (fun z => hb (by simp [z])) q)) hf (Nat.le_refl _) new
    refine ⟨.ref s.heap.objs.size, _, I1, rfl, ⟨_, x, rfl, I.hok.fresh (Nat.le_refl _), rfl, fun ys hy => by rw [I.tuple_inj hy hq]; exact hx⟩, ⟨⟨u, ?_⟩, hit'.1.at fun o q => (sb.2 it (Ne.symm hne)).trans q, hne⟩, fun b hb => ?_⟩
    · have e1 : ((i + 1 : Nat) : Int) = (i : Int) + 1 := by omega
      rw [e1]; exact he'
    · have hb' : b < s.heap.objs.size := by
        have e' : b = e ∨ b = it := by simpa using hb
        rcases e' with z | z
        · rw [z]; exact hel
        · rw [z]; exact hil
      rw [upd_ne (Nat.ne_of_lt hb')]
      exact (hf b hb).1
  done := by
    intro X hP hw hK hc i pins s σ H E I hf st hg
    subst hP hw hK
    obtain ⟨⟨old, he⟩, hit, hne⟩ := st
    obtain ⟨xs, hq, hx⟩ := hg
    obtain ⟨its, rv, p, hz⟩ := I.tuple hq
    have p : s.heap.IsTuple a its.toArray := p
    have hat : a ≠ it := tup_ne p hit
    obtain ⟨f0, f1, f2, f3, f4, f5⟩ := hf it (by simp)
    have hlen : its.toArray.size = i := by rw [List.size_toArray, ← rv.length, hx]
    refine wpAny_pyNext_enum_endD (Draws.tuple (prog := X.prog) (w := X.w) (A := X.A.in1) (I.ok.hd hc) it a hat its.toArray) he ?_ fun h' eb => ⟨rfl, I.turned (t' := s.toks) (fun b o hb q => eb b o hb q) f0 f1 f3 f4 f5⟩
    rw [hlen]
    exact ⟨hit, p⟩
  self := fun A i s Q E st h => let ⟨⟨_, he⟩, _⟩ := st; wpAny_pyIter_enum he h
def iEnumT (K : PySem.W.Frag) (ta : TA) : TI := fun σ H R => ta σ H fun vs H1 => ∃ a xs, vs = [.ref a] ∧ SqT K H1 a xs ∧ R (IteT K a) H1
theorem pi_enumT {X : Cx} {e : Expr} {ta : TA} {p pos tpos : Pos} {elts : List Expr} {kk : Nat} (hg : Gl X "enumerate") (hm : X.mg "enumerate" = none) (ha : PA X [e] ta) (hs : starEach [e] X.env = [(false, eval e X.env)] := by rfl) :
    PI X (.Tuple elts kk tpos) (.Call (.Name "enumerate" p) [e] [] pos) (iEnumT X.K ta) := by
  refine ⟨fun pins s σ H R I h => ?_⟩
  refine Call_ (ld_blt I hg hm boot_enumerate (PyProof.Rows.callWith_type1 (thn (ha.run pos pins s σ H _ I h) fun us s1 ⟨vs, H1, I1, r1, q1⟩ => ?_) hs rfl))
  obtain ⟨a, xs, ex, hq, q⟩ := q1
  subst ex
  cases r1 with
  | cons r rr =>
    cases rr
    cases r
    obtain ⟨its, rv, p', hz⟩ := I1.tuple hq
    have hlt : a < s1.heap.objs.size := by obtain ⟨_, e, _⟩ := p'; exact Heap.lt_size e
    refine call_enumerate_tuple p' fun h' he hit hsz hk => wpAny_pyIter_enum he ?_
    have I2 : Inv X pins σ H1 { s1 with heap := h' } := I1.kept (t' := s1.toks) hk
    refine ⟨s1.heap.objs.size + 1, [s1.heap.objs.size + 1, s1.heap.objs.size], _, _, H1, rfl, I2, turn_enumT a (s1.heap.objs.size + 1) s1.heap.objs.size (Nat.ne_of_lt (Nat.lt_succ_of_lt hlt)), ⟨⟨.none, he⟩, hit, Nat.succ_ne_self _⟩, fun b hb => ?_, q⟩
    have e' : b = s1.heap.objs.size + 1 ∨ b = s1.heap.objs.size := by simpa using hb
    have hle : s1.heap.objs.size ≤ b := by
      rcases e' with z | z
      · rw [z]; exact Nat.le_add_right _ _
      · rw [z]; exact Nat.le_refl _
    exact I1.fpOk hle (I1.hok.fresh hle)
theorem walk_enumT {K : PySem.W.Frag} {a : Addr} {xs : List V} : Walk (IteT K a) xs.length (fun H => SqT K H a xs) (YPair (fun i => some (.int (i : Nat))) (fun i => xs[i]?)) := by
  refine ⟨fun i H hi hG => ⟨xs, xs[i], hG, List.getElem?_eq_getElem hi⟩, fun H hG => ⟨xs, hG, rfl⟩, fun i H x H' hi hG y => ?_⟩
  obtain ⟨T, x, e1, e2, e3, e4⟩ := y
  exact ⟨T, _, x, e1, e2, e3, rfl, e4 xs hG⟩

/-! ### tuple.index of an int -/
theorem flat_ints (ns : List Int) : (ns.map V.int).all flatV = true := by
  rw [List.all_map]
  exact List.all_eq_true.mpr fun _ _ => rfl
theorem mt_tindex {X : Cx} : MtR X "tuple.index" (fun x xs H Q => ∃ p, ∃ ys : List Int, ∃ z j, x = .ref p ∧ xs = [.int z] ∧ SqT X.K H p (ys.map V.int) ∧ ys[j]? = some z ∧ (∀ m, m < j → ys[m]? ≠ some z) ∧ Q (.int (j : Nat)) H) := by
  intro pins s σ H x xs v us Q I rx rs h
  obtain ⟨p, ys, z, j, rfl, rfl, hq, hy, hno, q⟩ := h
  cases rx
  obtain ⟨u, rfl, t, rfl⟩ := vals1 rs
  obtain ⟨its, r, pl, hz⟩ := I.tuple hq
  obtain ⟨⟨cls, dd, dt, sl⟩, ho, hc, n, hd⟩ := pl
  simp only at hc hd
  subst hc
  subst hd
  have hl : its.toArray.size = ys.length := by rw [List.size_toArray, ← r.length, List.length_map]
  have hj : j < its.toArray.size := by rw [hl]; exact (List.getElem?_eq_some_iff.mp hy).1
  have at' : ∀ (m : Nat) (hm : m < its.toArray.size), ∃ y t', ys[m]? = some y ∧ its.toArray[m] = Value.int y t' := fun m hm => by
    have hm' : m < ys.length := by rw [← hl]; exact hm
    obtain ⟨w, hw, t', hw'⟩ := r.get (i := m) (x := .int ys[m]) (by simp [hm'])
    refine ⟨ys[m], t', List.getElem?_eq_getElem hm', ?_⟩
    have e := (List.getElem?_eq_some_iff.mp hw).2
    rw [← hw', ← e]
    simp
  refine call_meets PySem.F.slot_tuple_index ⟨_, ho, rfl⟩ PySem.F.entry_tuple_index (PySem.F.args_tuple_index_2 _ _) (TI.tuple_indexAt p its.toArray n dd sl (.int z t) (eqU (.int z)) j hj ?_ ?_)
    ⟨ho, fun w hw => mem_eqAt (x := .int z) ⟨t, rfl⟩ rfl r (flat_ints ys) w (by simpa using hw), ⟨.int (j : Nat), H, I.tok _, ⟨_, rfl⟩, q⟩⟩
  · obtain ⟨y, t', h1, h2⟩ := at' j hj
    rw [hy] at h1
    cases h1
    rw [h2]
    show (z == z) = true
    exact beq_self_eq_true z
  · intro m hm hmj
    obtain ⟨y, t', h1, h2⟩ := at' m hm
    rw [h2]
    show (y == z) = false
    exact beq_eq_false_iff_ne.mpr fun e => hno m hmj (e ▸ h1)

/-! ### rules by the written part K itself (for a comprehension's block) -/
def rLen (K : PySem.W.Frag) : List V → Hp → VK → Prop := fun xs H Q => ∃ p ys, xs = [.ref p] ∧ (SqL K H p ys ∨ SqT K H p ys) ∧ Q (.int ys.length) H
def rTupOf (K : PySem.W.Frag) : List V → Hp → VK → Prop := fun xs H Q => ∃ p ys, xs = [.ref p] ∧ ((SqL K H p ys ∧ ∀ l, H l = none → Q (.ref l) (upd H l (.tup ys))) ∨ (SqT K H p ys ∧ Q (.ref p) H))
def rListOf (K : PySem.W.Frag) : List V → Hp → VK → Prop := fun xs H Q => ∃ p ys, xs = [.ref p] ∧ (SqL K H p ys ∨ SqT K H p ys) ∧ ∀ l, H l = none → Q (.ref l) (upd H l (.lst ys))
section
variable {X : Cx} {K : PySem.W.Frag}
theorem k_len (hK : X.K = K) : CallR X (.builtin "len") (rLen K) := by subst hK; exact call_len_seq
theorem k_tupOf (hK : X.K = K) : CallR X (.type "tuple") (rTupOf K) := by subst hK; exact call_tuple_of
theorem k_listOf (hK : X.K = K) : CallR X (.type "list") (rListOf K) := by subst hK; exact call_list_of
theorem k_isi (hK : X.K = K) : CallR X (.builtin "isinstance") (rIsi K) := by subst hK; exact call_isi
theorem k_ixT (hK : X.K = K) : IxR X (rIxT K) := by subst hK; exact ix_tup
theorem k_ixL (hK : X.K = K) : IxR X (rIxL K) := by subst hK; exact ix_list
theorem k_slT (hK : X.K = K) : SlR X (rSlA K) := by subst hK; exact sl_tupA
theorem k_catT (hK : X.K = K) : OpR X (binaryOp .Add) (rCatA K) := by subst hK; exact op_catA
theorem k_sumT (hK : X.K = K) (hc : X.calm = true) : CallR X (.builtin "sum") (rSumT K) := by subst hK; exact cr_sumT hc
end

/-! ### a statement, then the rest, with a word between them -/
def tCut (t u : TS) : TS := fun D σ H => ∃ Mid : L2.St → Hp → Prop, t { D with nx := Mid } σ H ∧ ∀ σ' H', Mid σ' H' → u D σ' H'
theorem pss_cut {X : Cx} {st : Stmt} {rest : List Stmt} {t u : TS} (h1 : PS X st t) (h2 : PSs X rest u) : PSs X (st :: rest) (tCut t u) := by
  refine ⟨fun pins s σ H D I h => ?_⟩
  obtain ⟨Mid, hm, hu⟩ := h
  refine wpAny_execs_cons (thn (h1.run pins s σ H { D with nx := Mid } I hm) fun f s1 q => ?_)
  cases f with
  | next =>
    obtain ⟨σ', H', I', q⟩ := q
    exact h2.run pins s1 σ' H' D I' (hu σ' H' q)
  | ret v => exact q
  | brk => exact q
  | cont => exact q

/-! ### a tuple that is known to be plain; its method index -/
def rTupOfZ (K : PySem.W.Frag) : List V → Hp → VK → Prop := fun xs H Q => ∃ p ys, xs = [.ref p] ∧ SqL K H p ys ∧ ∀ l o, H l = none → o.dict = none → Q (.ref l) (upd H l (.frz o (.tup ys)))
theorem k_tupOfZ {X : Cx} {K : PySem.W.Frag} (hK : X.K = K) : CallR X (.type "tuple") (rTupOfZ K) := by
  subst hK
  intro pins s σ H xs us Q I r h
  obtain ⟨p, ys, rfl, hq, q⟩ := h
  obtain ⟨u, rfl, rx⟩ := vals1 r
  cases rx
  obtain ⟨its, r', pl, hz⟩ := I.list hq
  have hlen := r'.length
  refine call_tuple_list pl.isList (fun h' kp => ?_) (by simp only [List.size_toArray] <;> omega)
  have I1 : Inv X pins σ H { s with heap := h' } := I.kept (t' := s.toks) kp
  have I2 : Inv X pins σ (upd H h'.objs.size (.frz { cls := .type "tuple", data := .seq its.toArray } (.tup ys))) { s with heap := h'.push { cls := .type "tuple", data := .seq its.toArray } } :=
    I1.laid (t' := s.toks) (fun b o e => Heap.get?_push_of_some _ e) (Nat.le_refl _) (show ObjOk X.prog X.w _ _ _ (.frz _ (.tup ys)) from ⟨Heap.get?_push_size _ rfl, hz, its, r', IsTup.new _ _⟩)
  exact ⟨.ref h'.objs.size, _, I2, rfl, q _ _ (I1.hok.fresh (Nat.le_refl _)) rfl⟩
def tTM (r : V → List V → Hp → VK → Prop) (to : TE) (t : TA) : TE := fun σ H Q => to σ H fun x H1 => (∃ a ob xs, x = .ref a ∧ H1 a = some (.frz ob (.tup xs)) ∧ ob.dict = none) ∧ t σ H1 fun xs H2 => r x xs H2 Q
theorem pe_tm {X : Cx} {o e : Expr} {es : List Expr} {to : TE} {t : TA} {name : Str} {apos cpos : Pos} {id : String} {r : V → List V → Hp → VK → Prop} (slot : Slot "tuple" name id) (hty : typeOf (.builtin id) = pure (.type "method_descriptor")) (hm : MtR X id r) (ho : PE X o to) (ha : PA X (e :: es) t)
    (hbase : attributeBase o name X.env (eval o X.env) = eval o X.env := by rfl)
    (hfew : ((backTo cpos (starEach (e :: es) X.env)).all (fun x => !x.1) && (backToKw cpos (keywordEach [] X.env)).all (fun x => x.1.isSome)
      && decide ((e :: es).length + ([] : List Keyword).length + (if ([] : List Keyword).isEmpty then 0 else 1) < 30)) = true := by rfl)
    (hline : (apos.endLine == cpos.line) = true := by rfl) (hs : starEach (e :: es) X.env = (false, eval e X.env) :: starEach es X.env := by rfl) (hplain : (backTo cpos (starEach es X.env)).any (·.1) = false := by rfl) :
    PE X (.Call (.Attribute o name apos) (e :: es) [] cpos) (tTM r to t) := by
  refine ⟨fun pins s σ H Q I h => ?_⟩
  refine wpAny_Call_method_late hbase hfew hline rfl (thn (ho.run pins s σ H _ I h) fun v s1 ⟨x, H1, I1, r1, ty, q1⟩ => ?_)
  obtain ⟨a, ob, xs, rfl, hf, hd⟩ := ty
  cases r1
  obtain ⟨hg, hz, its, rv, o', ho', hc, _⟩ := (show ObjOk X.prog X.w H1 s1.heap a (.frz ob (.tup xs)) from I1.hok a _ hf)
  have hc' : ob.cls = .type "tuple" := by rw [hg] at ho'; cases ho'; exact hc
  refine ⟨"tuple", id, PySem.F.plainAttrs_tuple, slot, hty, ⟨ob, hg, hc'⟩, fun b e => by cases e; exact ⟨ob, hg, hd⟩, ?_⟩
  have hA := ha.run cpos pins s1 σ H1 _ I1 q1
  rw [hs] at hA ⊢
  refine Calls.callWith_builtin (by show (false || (backTo cpos (starEach es X.env)).any (·.1)) = false; rw [hplain] <;> rfl) (Calls.evalArgs_plain ?_)
  exact thn hA fun us s2 ⟨vs, H2, I2, r2, q2⟩ => hm pins s2 σ H2 (.ref a) vs (.ref a) us Q I2 rfl r2 q2

/-! ### places in the text -/
def xAsg : Stmt → Expr
  | .Assign _ e _ => e
  | _ => .Constant .none 0 ⟨0, 0, 0, 0⟩
def xArg (i : Nat) : Expr → Expr
  | .Call _ as _ _ => as.getD i (.Constant .none 0 ⟨0, 0, 0, 0⟩)
  | _ => .Constant .none 0 ⟨0, 0, 0, 0⟩
def xLcSc : Expr → Scope
  | .ListComp _ _ sc _ => sc
  | _ => { kind := .function, names := [], isGenerator := false, isCoroutine := false }
/-! ### readings are monotone -/
theorem mono_pair {K : PySem.W.Frag} {n i j : Nat} (x : V) (σ' : L2.St) (H' : Hp) (Q Q' : L2.St → Hp → Prop) (h : ∀ a b, Q a b → Q' a b) (e : gTup K n (gCons (gName i) (gCons (gName j) gNil)) x σ' H' Q) : gTup K n (gCons (gName i) (gCons (gName j) gNil)) x σ' H' Q' := by
  obtain ⟨a, xs, e1, e2, e3, v, r, e4, v', r', e5, e6, q⟩ := e
  exact ⟨a, xs, e1, e2, e3, v, r, e4, v', r', e5, e6, h _ _ q⟩

section
variable {X : Cx} {K : PySem.W.Frag}
theorem k_piL {tg l : Expr} {tl : TE} (hK : X.K = K) (hl : PE X l tl) : PI X tg l (iList K tl) := by subst hK; exact pi_list hl
theorem k_piT {tg l : Expr} {tl : TE} (hK : X.K = K) (hl : PE X l tl) : PI X tg l (iTup K tl) := by subst hK; exact pi_tup hl
theorem k_pgT2 {x y : Str} {px py : Pos} {k : Nat} {pos : Pos} {t1 t2 : TG} (hK : X.K = K) (hc : X.calm = true) (h1 : PG X (.Name x px) t1) (h2 : PG X (.Name y py) t2) : PG X (.Tuple [.Name x px, .Name y py] k pos) (gTup K 2 (gCons t1 (gCons t2 gNil))) := by
  subst hK
  exact pg_tup hc (pgs_cons h1 (pgs_cons h2 pgs_nil))
end
end MB

set_option maxHeartbeats 4000000
namespace MB
open PySem PySem.Spec PyProof.Rows L2

/-! ### heaps -/
theorem same_upd {H : Hp} {p : Addr} {o : HO} (h : H p = none) : Same H (upd H p o) := fun b x e => by
  rw [upd_ne (ne_of_none e h)]
  exact e
/-- an object that was not tracked may change -/
theorem Same.mut {H H' : Hp} {p : Addr} {o : HO} (s : Same H H') (h : H p = none) : Same H (upd H' p o) := fun b x e => by
  rw [upd_ne (ne_of_none e h)]
  exact s _ _ e
theorem Same.tup {K : PySem.W.Frag} {H H' : Hp} {a : Addr} {xs : List V} (e : Same H H') (h : SqT K H a xs) : SqT K H' a xs := by
  rcases h with (h | ⟨o, h⟩) | h
  · exact .inl (.inl (e _ _ h))
  · exact .inl (.inr ⟨o, e _ _ h⟩)
  · exact .inr h
theorem Same.tupF {K : PySem.W.Frag} {H H' : Hp} {a : Addr} {o : Obj} {xs : List V} (e : Same H H') (h : H a = some (.frz o (.tup xs))) : SqT K H' a xs := .inl (.inr ⟨o, e _ _ h⟩)
theorem Dp.same {K : PySem.W.Frag} {H H' : Hp} (e : Same H H') : ∀ {v : V} {d : PyData}, Dp K H v d → Dp K H' v d := by
  intro v d h
  refine Dp.rec (motive_1 := fun v d _ => Dp K H' v d) (motive_2 := fun vs ds _ => DpAll K H' vs ds) ?_ ?_ ?_ ?_ ?_ ?_ ?_ ?_ h
  · exact .non
  · intro b; exact .bl b
  · intro i; exact .int i
  · intro x; exact .str x
  · intro a xs ds hs _ ih; exact .lst (e.seq hs) ih
  · intro a xs ds hs _ ih; exact .tup (Same.tup e hs) ih
  · exact .nil
  · intro v vs d ds _ _ h1 h2; exact .cons h1 h2
theorem DpAll.get {K : PySem.W.Frag} {H : Hp} : ∀ {vs : List V} {ds : List PyData}, DpAll K H vs ds → ∀ {i : Nat} {d : PyData}, ds[i]? = some d → ∃ v, vs[i]? = some v ∧ Dp K H v d
  | _, _, .nil, i, d, h => by simp at h
  | _, _, .cons a b, 0, d, h => by
    simp at h; subst h
    exact ⟨_, rfl, a⟩
  | _, _, .cons a b, i + 1, d, h => by
    obtain ⟨v, h1, h2⟩ := DpAll.get b (i := i) (d := d) (by simpa using h)
    exact ⟨v, by simpa using h1, h2⟩
theorem DpAll.len {K : PySem.W.Frag} {H : Hp} : ∀ {vs : List V} {ds : List PyData}, DpAll K H vs ds → vs.length = ds.length
  | _, _, .nil => rfl
  | _, _, .cons a b => by simp [DpAll.len b]
theorem DpAll.take {K : PySem.W.Frag} {H : Hp} : ∀ {vs : List V} {ds : List PyData} (n : Nat), DpAll K H vs ds → DpAll K H (vs.take n) (ds.take n)
  | _, _, 0, _ => .nil
  | _, _, _ + 1, .nil => .nil
  | _, _, n + 1, .cons a b => .cons a (DpAll.take n b)
theorem DpAll.append {K : PySem.W.Frag} {H : Hp} : ∀ {vs ws : List V} {ds es : List PyData}, DpAll K H vs ds → DpAll K H ws es → DpAll K H (vs ++ ws) (ds ++ es)
  | _, _, _, _, .nil, s => s
  | _, _, _, _, .cons a b, s => .cons a (DpAll.append b s)
theorem DpAll.same {K : PySem.W.Frag} {H H' : Hp} (e : Same H H') : ∀ {vs : List V} {ds : List PyData}, DpAll K H vs ds → DpAll K H' vs ds
  | _, _, .nil => .nil
  | _, _, .cons a b => .cons (Dp.same e a) (DpAll.same e b)
theorem dp_ints {K : PySem.W.Frag} {H : Hp} : ∀ ns : List Int, DpAll K H (ns.map V.int) (ns.map PyData.int)
  | [] => .nil
  | n :: ns => .cons (.int n) (dp_ints ns)
theorem ty_tup {K : PySem.W.Frag} {H : Hp} {a : Addr} {xs : List V} (h : SqT K H a xs) : TyX K H (.ref a) (.type "tuple") := by
  rcases h with (h | ⟨o, h⟩) | ⟨o, its, n, h, hc, _⟩
  · exact .base (.tup h)
  · exact .fTuple h
  · exact .kTuple h hc

/-! ### lists of numbers -/
def vi (p : List Nat) : List V := p.map fun (m : Nat) => V.int (m : Int)
def ci (p : List Nat) : List Int := p.map fun (m : Nat) => (m : Int)
theorem vi_ci (p : List Nat) : vi p = (ci p).map V.int := by simp [vi, ci]
theorem vi_len (p : List Nat) : (vi p).length = p.length := by simp [vi]
theorem vi_get {p : List Nat} {i m : Nat} (h : p[i]? = some m) : (vi p)[i]? = some (.int (m : Int)) := by simp [vi, h]
theorem vi_app (p q : List Nat) : vi (p ++ q) = vi p ++ vi q := by simp [vi]
theorem at_vi {p : List Nat} {i m : Nat} (h : p[i]? = some m) : atI (vi p) (i : Int) = some (.int (m : Int)) := atI_nat (vi_get h)
theorem sz60 {n : Nat} (h : n ≤ 100000) : n ≤ sizeLine := Nat.le_trans h (by decide)
theorem sz61 {n : Nat} (h : n ≤ 100000) : n < sizeLine := Nat.lt_of_le_of_lt h (by decide)
theorem decT {c : Prop} [Decidable c] (h : c) {A B : Prop} (a : A) : if decide c = true then A else B := by
  rw [if_pos (decide_eq_true h)]; exact a
theorem decF {c : Prop} [Decidable c] (h : ¬ c) {A B : Prop} (b : B) : if decide c = true then A else B := by
  rw [if_neg (by simp [h])]; exact b

/-! ### data of tuples: no list within -/
inductive Tf : PyData → Prop
  | non : Tf .none
  | bl (b : Bool) : Tf (.bool b)
  | int (i : Int) : Tf (.int i)
  | str (x : Str) : Tf (.str x)
  | tup {ds : List PyData} : (∀ d, d ∈ ds → Tf d) → Tf (.tuple ds)
theorem Tf.items {ds : List PyData} (h : Tf (.tuple ds)) : ∀ d, d ∈ ds → Tf d := by
  cases h with
  | tup h => exact h
theorem tf_ints (ns : List Int) : ∀ d, d ∈ ns.map PyData.int → Tf d := fun d h => by
  obtain ⟨i, _, rfl⟩ := List.mem_map.mp h
  exact .int i
/-- all tuples stay -/
def Keep (K : PySem.W.Frag) (H H' : Hp) : Prop := ∀ a xs, SqT K H a xs → SqT K H' a xs
theorem Keep.of {K : PySem.W.Frag} {H H' : Hp} (s : Same H H') : Keep K H H' := fun _ _ h => Same.tup s h
theorem Keep.trans {K : PySem.W.Frag} {H H1 H2 : Hp} (a : Keep K H H1) (b : Keep K H1 H2) : Keep K H H2 := fun _ _ h => b _ _ (a _ _ h)
theorem Keep.refl {K : PySem.W.Frag} {H : Hp} : Keep K H H := fun _ _ h => h
/-- all but the list at l stay -/
def But (l : Addr) (H H' : Hp) : Prop := ∀ b o, b ≠ l → H b = some o → H' b = some o
theorem But.refl {l : Addr} {H : Hp} : But l H H := fun _ _ _ h => h
theorem But.trans {l : Addr} {H H1 H2 : Hp} (a : But l H H1) (b : But l H1 H2) : But l H H2 := fun c o n h => b c o n (a c o n h)
theorem But.of {l : Addr} {H H' : Hp} (s : Same H H') : But l H H' := fun c o _ h => s c o h
theorem But.upd {l : Addr} {H : Hp} {o : HO} : But l H (L2.upd H l o) := fun c u n h => by rw [upd_ne n]; exact h
theorem But.keep {K : PySem.W.Frag} {l : Addr} {H H' : Hp} {ys : List V} (s : But l H H') (hl : H l = some (.lst ys)) : Keep K H H' := fun a xs h => by
  rcases h with (h | ⟨o, h⟩) | h
  · exact .inl (.inl (s _ _ (fun e => by rw [e, hl] at h; cases h) h))
  · exact .inl (.inr ⟨o, s _ _ (fun e => by rw [e, hl] at h; cases h) h⟩)
  · exact .inr h
theorem But.same {l : Addr} {H0 H H' : Hp} (s : Same H0 H) (b : But l H H') (n : H0 l = none) : Same H0 H' := fun c o e => b c o (ne_of_none e n) (s c o e)
theorem Dp.keep {K : PySem.W.Frag} {H H' : Hp} (e : Keep K H H') : ∀ {v : V} {d : PyData}, Tf d → Dp K H v d → Dp K H' v d := by
  intro v d t h
  refine Dp.rec (motive_1 := fun v d _ => Tf d → Dp K H' v d) (motive_2 := fun vs ds _ => (∀ d, d ∈ ds → Tf d) → DpAll K H' vs ds) ?_ ?_ ?_ ?_ ?_ ?_ ?_ ?_ h t
  · intro _; exact .non
  · intro b _; exact .bl b
  · intro i _; exact .int i
  · intro x _; exact .str x
  · intro a xs ds hs _ ih t; cases t
  · intro a xs ds hs _ ih t; exact .tup (e _ _ hs) (ih t.items)
  · intro _; exact .nil
  · intro v vs d ds _ _ h1 h2 t; exact .cons (h1 (t _ (List.mem_cons_self ..))) (h2 fun d hd => t d (List.mem_cons_of_mem _ hd))
theorem DpAll.keep {K : PySem.W.Frag} {H H' : Hp} (e : Keep K H H') : ∀ {vs : List V} {ds : List PyData}, (∀ d, d ∈ ds → Tf d) → DpAll K H vs ds → DpAll K H' vs ds
  | _, _, _, .nil => .nil
  | _, _, t, .cons a b => .cons (Dp.keep e (t _ (List.mem_cons_self ..)) a) (DpAll.keep e (fun d hd => t d (List.mem_cons_of_mem _ hd)) b)
theorem dp_ints_inv {K : PySem.W.Frag} {H : Hp} : ∀ {ns : List Int} {vs : List V}, DpAll K H vs (ns.map PyData.int) → vs = ns.map V.int
  | [], _, .nil => rfl
  | n :: ns, _, .cons a b => by
    cases a
    rw [dp_ints_inv b]
    rfl
theorem Dp.tupInv {K : PySem.W.Frag} {H : Hp} {v : V} {ds : List PyData} (h : Dp K H v (.tuple ds)) : ∃ a xs, v = .ref a ∧ SqT K H a xs ∧ DpAll K H xs ds := by
  cases h with
  | tup h1 h2 => exact ⟨_, _, rfl, h1, h2⟩
theorem Dp.intsInv {K : PySem.W.Frag} {H : Hp} {v : V} {ns : List Int} (h : Dp K H v (.tuple (ns.map PyData.int))) : ∃ a, v = .ref a ∧ SqT K H a (ns.map V.int) := by
  obtain ⟨a, xs, e, h1, h2⟩ := Dp.tupInv h
  rw [dp_ints_inv h2] at h1
  exact ⟨a, e, h1⟩

/-! ### a comprehension that gives an item at each turn -/
theorem lc_all {K : PySem.W.Frag} {J : It} {n : Nat} {G : Hp → Prop} {Y : Nat → Hp → V → Hp → Prop} (w : Walk J n G Y) {g : TG} {tt : TT} {te : TE} {vs : List Nat} {σ : L2.St} {H1 : Hp} {D : Addr} {Qd : Hp → Prop}
    (ds : List PyData) (hl : ds.length = n) (ht : ∀ d, d ∈ ds → Tf d) (hn : n ≤ 1000) (hD : H1 D = none) (hG : ∀ H, Same H1 H → G H)
    (hs : ∀ i x H H', i < n → Same H1 H → Y i H x H' → ∀ d, ds[i]? = some d → ∀ R : V → Hp → Prop, (∀ y H4, Same H H4 → Dp K H4 y d → R y H4) →
      g x (wipe σ vs) H' fun σ2 H2 => wipe σ2 vs = wipe σ vs ∧ tt σ2 H2 fun b H3 => b = true ∧ te σ2 H3 R)
    (hd : ∀ H acc, Same H1 H → H D = some (.lst acc) → DpAll K H acc ds → Qd H)
    (mg : ∀ x σ' H' (Q Q' : L2.St → Hp → Prop), (∀ a b, Q a b → Q' a b) → g x σ' H' Q → g x σ' H' Q') (mt : ∀ σ' H' (Q Q' : Bool → Hp → Prop), (∀ a b, Q a b → Q' a b) → tt σ' H' Q → tt σ' H' Q') :
    ∃ W : Nat → Nat → Hp → Prop, (∃ m, W 0 m (upd H1 D (.lst []))) ∧ ∀ i m H, W i m H →
      (J.stop i H ∧ Qd H) ∨ (J.go i H ∧ ∃ Nx : Hp → Prop, (∀ H', Nx H' → ∃ m', m' < m ∧ W (i + 1) m' H') ∧ ∀ x H', J.yld i H x H' → g x (wipe σ vs) H' fun σ2 H2 => wipe σ2 vs = wipe σ vs ∧ tt σ2 H2 fun b H3 =>
        if b = true then te σ2 H3 fun y H4 => ∃ acc, H4 D = some (.lst acc) ∧ acc.length < sizeLine ∧ Nx (upd H4 D (.lst (acc ++ [y]))) else Nx H3) := by
  refine lc_it w (fun i H => Same H1 H ∧ ∃ acc, H D = some (.lst acc) ∧ DpAll K H acc (ds.take i)) ⟨same_upd hD, [], upd_same, .nil⟩ (fun i H _ h => hG H h.1) ?_ ?_
  · rintro i x H H' hi ⟨s1, acc, ha, hA⟩ hy
    have hd' : ds[i]? = some ds[i] := List.getElem?_eq_getElem (by omega)
    have hlen := DpAll.len hA
    rw [List.length_take] at hlen
    refine mg _ _ _ _ _ ?_ (hs i x H H' hi s1 hy ds[i] hd' (fun y H4 => ∃ acc, H4 D = some (.lst acc) ∧ acc.length < sizeLine ∧ (Same H1 (upd H4 D (.lst (acc ++ [y]))) ∧ ∃ acc', (upd H4 D (.lst (acc ++ [y]))) D = some (.lst acc') ∧ DpAll K (upd H4 D (.lst (acc ++ [y]))) acc' (ds.take (i + 1)))) ?_)
    · rintro σ2 H2 ⟨h1, h2⟩
      refine ⟨h1, mt _ _ _ _ ?_ h2⟩
      rintro b H3 ⟨rfl, h3⟩
      exact iteT h3
    · intro y H4 s4 hy4
      refine ⟨acc, s4 _ _ ha, sz61 (by omega), Same.mut (s1.trans s4) hD, acc ++ [y], upd_same, ?_⟩
      have kp : Keep K H4 (upd H4 D (.lst (acc ++ [y]))) := But.keep But.upd (s4 _ _ ha)
      rw [List.take_add_one, hd']
      refine DpAll.keep kp (fun d h => ?_) (DpAll.append (DpAll.same s4 hA) (.cons hy4 .nil))
      rcases List.mem_append.mp h with h | h
      · exact ht d (List.mem_of_mem_take h)
      · have e : d = ds[i] := by simpa using h
        rw [e]; exact ht _ (List.getElem_mem ..)
  · rintro H ⟨s1, acc, ha, hA⟩
    rw [List.take_of_length_le (by omega)] at hA
    exact hd H acc s1 ha hA

/-! ### tuples cut and joined -/
theorem cut_to {xs : List V} {k : Nat} (h : k ≤ xs.length) : cutV xs none (some (k : Int)) = xs.take k := by
  unfold cutV
  rw [HT.sIx_none, HT.sIx_nat, Nat.min_eq_left h]
  simp
theorem cut_from {xs : List V} {k : Nat} (h : k ≤ xs.length) : cutV xs (some (k : Int)) none = xs.drop k := by
  unfold cutV
  rw [HT.sIx_none, HT.sIx_nat, Nat.min_eq_left h]
  rw [List.take_of_length_le (by rw [List.length_drop]; omega)]
theorem sl_read {K : PySem.W.Frag} {H : Hp} {a : Addr} {xs : List V} {lo hi : Option Int} {Q : VK} (h : SqT K H a xs) (q : ∀ p H', Same H H' → SqT K H' p (cutV xs lo hi) → Q (.ref p) H') : rSlA K (.ref a) lo hi H Q := by
  refine ⟨a, xs, rfl, h, fun e => q a H (Same.refl H) ?_, fun _ p hp => q p _ (same_upd hp) (.inl (.inl upd_same))⟩
  unfold cutV
  rw [e.1, e.2]
  simpa using h
theorem cat_read {K : PySem.W.Frag} {H : Hp} {a b : Addr} {xs ys : List V} {Q : VK} (ha : SqT K H a xs) (hb : SqT K H b ys) (hz : xs.length + ys.length ≤ 100000) (q : ∀ p H', Same H H' → SqT K H' p (xs ++ ys) → Q (.ref p) H') : rCatA K (.ref a) (.ref b) H Q := by
  refine ⟨a, b, xs, ys, rfl, rfl, ha, hb, sz60 hz, fun e => q b H (Same.refl H) ?_, fun _ e => q a H (Same.refl H) ?_, fun _ _ p hp => q p _ (same_upd hp) (.inl (.inl upd_same))⟩
  · rw [e]; exact hb
  · rw [e, List.append_nil]; exact ha
theorem DpAll.snoc {K : PySem.W.Frag} {H : Hp} : ∀ {vs : List V} {ds : List PyData} {d : PyData}, DpAll K H vs (ds ++ [d]) → ∃ us v, vs = us ++ [v] ∧ DpAll K H us ds ∧ Dp K H v d
  | _, [], _, .cons a .nil => ⟨[], _, rfl, .nil, a⟩
  | _, _ :: ds, _, .cons a b => by
    obtain ⟨us, v, e, h1, h2⟩ := DpAll.snoc b
    exact ⟨_ :: us, v, by rw [e]; rfl, .cons a h1, h2⟩
theorem ixN_of {n j : Nat} (hj : j < n) : ixN n (j : Int) = some j := by
  unfold ixN
  rw [if_pos (by omega), if_pos (by omega)]
  simp
theorem vi_set (c : List Nat) (k v : Nat) : (vi c).set k (.int (v : Int)) = vi (c.set k v) := by
  unfold vi
  rw [List.map_set]
theorem vi_rep (n v : Nat) : vi (List.replicate n v) = List.replicate n (.int (v : Int)) := by simp [vi]

/-! ### [x for x in range(lo, hi) if ..] -/
theorem lc_fil {lo : Int} {n j : Nat} {vs : List Nat} {σ : L2.St} {H1 : Hp} {D : Addr} {Qd : Hp → Prop} {tt : TT} (f : Nat → Bool) (hn : n ≤ 1000) (hD : H1 D = none)
    (hw : ∀ x, wipe ((wipe σ vs).set j (some x)) vs = wipe σ vs) (hj : ∀ x : V, ((wipe σ vs).set j (some x))[j]? = some (some x))
    (ht : ∀ (i : Nat) H (Q : Bool → Hp → Prop), i < n → Same H1 H → Q (f i) H → tt ((wipe σ vs).set j (some (.int (lo + (i : Nat))))) H Q)
    (hd : ∀ H, Same H1 H → H D = some (.lst (((List.range n).filter f).map fun (i : Nat) => V.int (lo + (i : Nat)))) → Qd H) :
    ∃ W : Nat → Nat → Hp → Prop, (∃ m, W 0 m (upd H1 D (.lst []))) ∧ ∀ i m H, W i m H →
      ((Itr lo n).stop i H ∧ Qd H) ∨ ((Itr lo n).go i H ∧ ∃ Nx : Hp → Prop, (∀ H', Nx H' → ∃ m', m' < m ∧ W (i + 1) m' H') ∧ ∀ x H', (Itr lo n).yld i H x H' → gName j x (wipe σ vs) H' fun σ2 H2 => wipe σ2 vs = wipe σ vs ∧ tt σ2 H2 fun b H3 =>
        if b = true then tVar j σ2 H3 fun y H4 => ∃ acc, H4 D = some (.lst acc) ∧ acc.length < sizeLine ∧ Nx (upd H4 D (.lst (acc ++ [y]))) else Nx H3) := by
  refine lc_range (lo := lo) (n := n) (fun i H => Same H1 H ∧ H D = some (.lst (((List.range i).filter f).map fun (i : Nat) => V.int (lo + (i : Nat))))) ⟨same_upd hD, upd_same⟩ ?_ ?_
  · rintro i H hi ⟨s1, h1⟩
    refine ⟨hw _, ht i H _ hi s1 ?_⟩
    have hlen : (((List.range i).filter f).map fun (i : Nat) => V.int (lo + (i : Nat))).length ≤ i := by
      rw [List.length_map]
      have := List.length_filter_le f (List.range i)
      rw [List.length_range] at this
      exact this
    by_cases hf : f i = true
    · rw [hf]
      refine iteT ⟨_, hj _, _, h1, sz61 (by omega), Same.mut s1 hD, ?_⟩
      rw [List.range_succ, List.filter_append, List.map_append]
      simp only [List.filter_cons, hf, if_true, List.filter_nil, List.map_cons, List.map_nil]
      exact upd_same
    · have hf' : f i = false := by simpa using hf
      rw [hf']
      refine iteF ⟨s1, ?_⟩
      rw [List.range_succ, List.filter_append, List.map_append]
      simpa [hf'] using h1
  · rintro H ⟨s1, h1⟩
    exact hd H s1 h1
theorem iteB1 {b : Bool} {A B : Prop} (h : b = true) (a : A) : if b = true then A else B := by rw [if_pos h]; exact a
theorem iteB0 {b : Bool} {A B : Prop} (h : b = false) (a : B) : if b = true then A else B := by rw [if_neg (by rw [h]; decide)]; exact a

/-! ### deep comparisons -/
theorem lay_all : ∀ {ds : List PyData}, (∀ d, d ∈ ds → d.canLay0 = true) → PyData.canLayAll0 ds = true
  | [], _ => by simp [PyData.canLayAll0]
  | d :: ds, h => by
    simp only [PyData.canLayAll0]
    rw [h d (List.mem_cons_self ..), lay_all fun e he => h e (List.mem_cons_of_mem _ he)]; rfl
theorem dep_all {k : Nat} : ∀ {ds : List PyData}, (∀ d, d ∈ ds → d.depth ≤ k) → PyData.depthAll ds ≤ k
  | [], _ => by simp [PyData.depthAll]
  | d :: ds, h => by
    simp only [PyData.depthAll]
    have h1 := h d (List.mem_cons_self ..)
    have h2 := dep_all (k := k) fun e he => h e (List.mem_cons_of_mem _ he)
    omega
/-- plain data of at most so many levels -/
def Sh (k : Nat) (d : PyData) : Prop := d.canLay0 = true ∧ d.depth ≤ k
theorem Sh.shaped {k : Nat} {d : PyData} (h : Sh k d) (hk : k ≤ 64) : SeqAt.shaped d = true := by
  unfold SeqAt.shaped
  rw [h.1, decide_eq_true (by have := h.2; omega)]; rfl
theorem Sh.tup {k : Nat} {ds : List PyData} (h : ∀ d, d ∈ ds → Sh k d) : Sh (k + 1) (.tuple ds) :=
  ⟨by simp only [PyData.canLay0]; exact lay_all fun d hd => (h d hd).1, by simp only [PyData.depth]; have := dep_all (k := k) (ds := ds) fun d hd => (h d hd).2; omega⟩
theorem Sh.lst {k : Nat} {ds : List PyData} (h : ∀ d, d ∈ ds → Sh k d) : Sh (k + 1) (.list ds) :=
  ⟨by simp only [PyData.canLay0]; exact lay_all fun d hd => (h d hd).1, by simp only [PyData.depth]; have := dep_all (k := k) (ds := ds) fun d hd => (h d hd).2; omega⟩
theorem Sh.int (i : Int) {k : Nat} : Sh k (.int i) := ⟨by simp [PyData.canLay0], by simp [PyData.depth]⟩
theorem Sh.ints {k : Nat} (ns : List Int) : ∀ d, d ∈ ns.map PyData.int → Sh k d := fun d h => by
  obtain ⟨i, _, rfl⟩ := List.mem_map.mp h
  exact .int i
theorem eq_data {K : PySem.W.Frag} {H : Hp} {x y : V} {d : PyData} {Q : VK} {k : Nat} (hx : Dp K H x d) (hy : Dp K H y d) (hs : Sh k d) (hk : k ≤ 64) (q : Q (.bl true) H) : rEqD K x y H Q :=
  ⟨d, d, hx, hy, hs.shaped hk, hs.shaped hk, by rw [SeqAt.eqv_refl d hs.1]; exact q⟩
theorem ne_data {K : PySem.W.Frag} {H : Hp} {x y : V} {d : PyData} {Q : VK} {k : Nat} (hx : Dp K H x d) (hy : Dp K H y d) (hs : Sh k d) (hk : k ≤ 64) (q : Q (.bl false) H) : rNeD K x y H Q :=
  ⟨d, d, hx, hy, hs.shaped hk, hs.shaped hk, by rw [SeqAt.eqv_refl d hs.1]; exact q⟩
theorem dp_tup {K : PySem.W.Frag} {H : Hp} {a : Addr} {ns : List Int} (h : SqT K H a (ns.map V.int)) : Dp K H (.ref a) (.tuple (ns.map PyData.int)) := .tup h (dp_ints ns)
theorem ne_ints {K : PySem.W.Frag} {H : Hp} {a b : Addr} {ns : List Int} {Q : VK} (ha : SqT K H a (ns.map V.int)) (hb : SqT K H b (ns.map V.int)) (q : Q (.bl false) H) : rNeD K (.ref a) (.ref b) H Q :=
  ne_data (dp_tup ha) (dp_tup hb) (Sh.tup (k := 0) (Sh.ints ns)) (by decide) q
end MB

set_option maxHeartbeats 4000000
namespace MB
open PySem PySem.Spec PyProof.Rows L2

/-! ### a def called where no repr is under way -/
structure FnG (P : Program) (w : World) (K : PySem.W.Frag) (mg : Str → Option Value) (base : Heap) (CX : CXT) (k : Nat) (f : Addr) (fd : FuncData) (ps : List Str) (sp : Sp) : Prop where
  len : ∀ vs H Q E, sp vs H Q E → vs.length = ps.length
  run : ∀ (A : Around), A.guards = some [] → Room k A → ∀ (outer : List Env) (s : Shared) (H : Hp) (args : Args) (us : List Value) (vs : List V) (Q : VK) (E : XK),
    Env0 P w K mg base A outer s H → BindsTo s fd args (ps.zip us) → Vals vs us → sp vs H Q E → codeAny (model P w) A (.call (.ref f) args) (CR CX outer P w H s Q E) s
section
variable {P : Program} {w : World} {K : PySem.W.Frag} {mg : Str → Option Value} {base : Heap} {CX : CXT} {k : Nat} {f : Addr} {fd : FuncData} {ps : List Str} {sp : Sp}
theorem FnG.of (F : FnOk P w K mg base CX k f fd ps sp) : FnG P w K mg base CX k f fd ps sp :=
  ⟨F.len, fun A _ hr outer s H args us vs Q E => F.run A outer s H args us vs Q E hr⟩
theorem deeper_guards {A : Around} {env : Env} (h : A.guards = some []) : (A.deeper env).guards = some [] := h
theorem fnG_of {name qual : Str} {params : Arguments} {body : List Stmt} {scope : Scope} {dV kV doc pm cdv ct oc : Value} {an od : Option Addr} {osl : Array (Option Value)} {N : List Str}
    (lk : K.lookup f = some ⟨oc, od, .func (PySem.W.fnOf name qual params body scope dV kV doc pm an cdv ct), osl⟩) (hcd : PySem.W.codeIn K cdv qual = true) (S : FnScope N ps scope)
    (len : ∀ vs H Q E, sp vs H Q E → vs.length = ps.length)
    (hbody : ∀ (A : Around), A.guards = some [] → ∀ (outer : List Env) (s : Shared) (H : Hp) (vs : List V) (Q : VK) (E : XK), Room k (A.deeper (envOfC qual scope s.heap.objs.size f cdv)) → sp vs H Q E →
      ∃ t, PSs (cxOf CX P w K mg base N qual scope f cdv A outer s H E) body t ∧ t { nx := fun _ H' => Q .non H', rt := Q } (start N vs) H) :
    FnG P w K mg base CX (k + 1) f (PySem.W.fnOf name qual params body scope dV kV doc pm an cdv ct) ps sp := by
  refine ⟨len, fun A hgd hr outer s H args us vs Q E e0 hb r hsp => ?_⟩
  have kept : ∀ b o, base.get? b = some o → s.heap.get? b = some o := fun b o e => (e0.bs b o e).1
  have KX : K.In s.heap := e0.mod.kin.keeps kept
  obtain ⟨t, ht, hq⟩ := hbody A hgd outer s H vs Q E (hr.deeper _) hsp
  have par : ∀ y ∈ ps.zip us, scope.names.lookup y.1 = some .local ∨ (scope.names.lookup y.1 = some .cell ∧ ((cellsFrom (s.heap.objs.size + 1) scope.names []).lookup y.1).isSome = true) := by
    rintro ⟨n, v⟩ hy
    exact (S.par n (List.of_mem_zip hy).1).imp id fun z => ⟨z, PySem.W.cellsFrom_some _ _ _ (.inl z)⟩
  refine codeAny_call_function hr.depth (KX _ _ lk) rfl S.co S.gen rfl (PySem.W.codeRec_of KX hcd) (hb _ _ _ _ (wpAny_newFunctionEnv_cells S.kind par fun env he s1 x => ?_))
  subst he
  refine ⟨(e0.mod.nolimit.keeps kept).keeps x.toInCall.keep, codeAny_func (wpAny_mono (ht.run [] s1 (start N vs) H _ (inv_start S hr.hd e0 (len _ _ _ _ hsp) r x) hq) (fun fl s' hs => ?_) fun e s' hs => hs)⟩
  rcases fl with _ | _ | _ | u
  · obtain ⟨σ', H', J, q⟩ := hs
    exact ⟨V.non, H', J.os, J.bare, J.base, J.hok, rfl, q⟩
  · exact (let ⟨_, _, _, q⟩ := hs; False.elim q)
  · exact (let ⟨_, _, _, q⟩ := hs; False.elim q)
  · obtain ⟨v, σ', H', J, rv, q⟩ := hs
    exact ⟨v, H', J.os, J.bare, J.base, J.hok, rv, q⟩
theorem Fun.okG {x qual : Str} {st : Stmt} {N : List Str} (F : L2.Fun K x qual st f fd) (S : FnScope N ps (defScope st)) (len : ∀ vs H Q E, sp vs H Q E → vs.length = ps.length)
    (hbody : ∀ (cdv : Value) (A : Around), A.guards = some [] → ∀ (outer : List Env) (s : Shared) (H : Hp) (vs : List V) (Q : VK) (E : XK), Room k (A.deeper (envOfC qual (defScope st) s.heap.objs.size f cdv)) → sp vs H Q E →
      ∃ t, PSs (cxOf CX0 P w K mg base N qual (defScope st) f cdv A outer s H E).nox (defBody st) t ∧ t { nx := fun _ H' => Q .non H', rt := Q } (start N vs) H) : FnG P w K mg base CX0 (k + 1) f fd ps sp := by
  obtain ⟨oc, od, kV, doc, pm, an, cdv, ct, osl, rfl, lk, hcd⟩ := F.ex
  exact fnG_of lk hcd S len fun A hgd outer s H vs Q E hr hsp => let ⟨t, h, q⟩ := hbody cdv A hgd outer s H vs Q E hr hsp; ⟨t, h.nox, q⟩
end
section
variable {X : Cx} {CX : CXT} {k : Nat} {f : Addr} {fd : FuncData} {ps : List Str} {sp : Sp} {ds : List Value} {dvs : List V} {E : XK} {x : Str} {p pos : Pos} {e : Expr} {es : List Expr} {t : TA}
theorem pe_callG (F : FnG X.prog X.w X.K X.mg X.base CX k f fd ps sp) (hgd : X.A.guards = some []) (hr : Room k X.A) (hg : Gl X x) (hm : X.mg x = some (.ref f)) (hk : PySem.W.keepIn X.K (.ref f) = true) (hb : Binds X.K fd ps ds) (hd : Vals dvs ds) (hx : Passes CX X E)
    (ha : PA X (e :: es) t) (hdb : (x == ("__debug__" : Str)) = false := by decide) (he : starEach (e :: es) X.env = (false, eval e X.env) :: starEach es X.env := by rfl) (hpl : (backTo pos (starEach es X.env)).any (·.1) = false := by rfl) :
    PE X (.Call (.Name x p) (e :: es) [] pos) (tCall sp dvs E t) := by
  refine ⟨fun pins s σ H Q I h => wpAny_Call_Name_kw (ld_glob I hg hm (PySem.W.callWith_K (h₀ := X.base) I.ok.mod.kin hk (thn (ha.run pos pins s σ H _ I h) fun us s1 ⟨vs, H1, I1, r, q⟩ => ⟨I1.kIn, ?_⟩) he hpl) hdb)⟩
  have r2 : Vals (vs ++ dvs) (us ++ ds) := r.append hd
  have hl : (us ++ ds).length = ps.length := r2.length.symm.trans (F.len _ _ _ _ q)
  refine wpAny_call (codeAny_mono (F.run X.A hgd hr X.stack s1 H1 ⟨us, []⟩ (us ++ ds) (vs ++ dvs) Q E I1.env0 (hb s1 us I1.kIn hl) r2 q) fun res s' hq => ?_)
  rcases res with e | fl
  · exact hx pins σ H1 s1 e s' I1 hq
  · rcases fl with _ | _ | _ | u
    · exact False.elim hq
    · exact False.elim hq
    · exact False.elim hq
    · exact I1.after hq
end

/-! ### repr of plain data -/
def rReprD (K : PySem.W.Frag) : List V → Hp → VK → Prop := fun xs H Q => ∃ (x : V) (d : PyData), xs = [x] ∧ Dp K H x d ∧ d.canLay0 = true ∧ d.showable = true ∧ d.depth ≤ 60 ∧ d.shown.length ≤ sizeLine ∧ Q (.str d.shown) H
theorem call_reprD {X : Cx} (hgd : X.A.guards = some []) (hu : X.A.units + 64 < cLine) : CallR X (.builtin "repr") (rReprD X.K) := by
  intro pins s σ H xs us Q I r h
  obtain ⟨x, d, rfl, hd, hc, hs, hdep, hz, q⟩ := h
  obtain ⟨u, rfl, rx⟩ := vals1 r
  obtain ⟨as, rd⟩ := Dp.reads I d x u hd rx
  have nd := PyData.hasDict_of_canLay d hc
  have fin : ∀ (h' : Heap) (v tk : Tok), (∀ b o, s.heap.get? b = some o → h'.get? b = some o) → EP X pins σ Q (.str d.shown v) { s with heap := h', toks := tk } := fun h' v tk hk => ⟨.str d.shown, H, I.kept hk, ⟨_, rfl⟩, q⟩
  cases rd with
  | none => exact PySem.P.repr_of_none (fin _ _ _ fun _ _ e => e)
  | bool b =>
    refine PySem.P.repr_of_bool ?_
    cases b <;> exact fin s.heap s.toks (s.toks + 1) fun _ _ e => e
  | int i t => exact PySem.P.repr_of_int (by simpa [PyData.showable] using hs) (fin s.heap s.toks (s.toks + 1) fun _ _ e => e)
  | str y t => exact PySem.P.repr_of_str (fin s.heap s.toks (s.toks + 1) fun _ _ e => e) hz
  | list h1 h2 h3 h4 => exact repr_of_reads' (.list h1 h2 h3 h4) hs (PyData.noDict_hsm nd) hgd (by omega) (fun _ _ e => e) fin hz
  | tuple h1 h2 h3 h4 => exact repr_of_reads' (.tuple h1 h2 h3 h4) hs (PyData.noDict_hsm nd) hgd (by omega) (fun _ _ e => e) fin hz
  | dict h1 h2 h3 h4 h5 => simp [PyData.canLay0] at hc

/-! ### the end: a law whose promise asks that no repr is under way -/
theorem law_callG {P : Program} {w : World} {K : PySem.W.Frag} {mg mb : Str → Option Value} {k : Nat} {fa a : Addr} {fd : FuncData} {x : Str} {sp : Sp} {s₁ : Shared} {vs : List Value} {ns : List Int}
    (KX : K.In s₁.heap) (hns : s₁.heap.Ns mainGlobals mg) (hb : s₁.heap.Ns builtinsNs mb) (hbb : ∀ x : Str, x ≠ "__name__" → mb x = bootBuiltins x) (hlim : s₁.heap.NoLimit) (hg : s₁.gens = #[])
    (ha : s₁.heap.get? a = some { cls := .type "list", data := .seq vs.toArray }) (hi : IntsAre vs ns) (hl : ns.length ≤ sizeLine) (hr : Room k callerA)
    (F : ∀ base : Heap, K.In base → base.Ns mainGlobals mg → FnG P w K mg base CX0 k fa fd [x] sp) (hbind : ∀ (s : Shared) (u : Value), BindsTo s fd ⟨[u], []⟩ [(x, u)])
    (hsp : ∀ H : Hp, SqL K H a (ns.map V.int) → sp [.ref a] H (fun v _ => v = .bl true) fun _ _ _ => False) :
    codeAny (model P w) callerA (.call (.ref fa) ⟨[.ref a], []⟩) (fun r s' => r = .ok (.ret (.bool true)) ∧ OldK s₁.heap s'.heap ∧ s'.os = s₁.os ∧ AllBare s'.gens) s₁ := by
  let oS : Obj := { cls := .type "list", data := .seq vs.toArray }
  -- the script is tracked as it stands, unless it is one of the module's own objects
  let H : Hp := fun b => if b = a ∧ K.lookup a = none then some (.frz oS (.lst (ns.map V.int))) else none
  have rv := vals_ints hi
  have Hsome : ∀ {b : Addr} {o : HO}, H b = some o → b = a ∧ K.lookup a = none ∧ o = .frz oS (.lst (ns.map V.int)) := fun {b o} e => by
    by_cases c : b = a ∧ K.lookup a = none
    · have e' := (if_pos c).symm.trans e
      exact ⟨c.1, c.2, (Option.some.inj e').symm⟩
    · have e' := (if_neg c).symm.trans e
      cases e'
  have free : ∀ {b : Addr}, (∀ z : b = a, K.lookup a ≠ none) → H b = none := fun {b} n => if_neg fun c => n c.1 c.2
  have hS : SqL K H a (ns.map V.int) := by
    cases hk : K.lookup a with
    | none => exact .inl (.inr ⟨oS, if_pos ⟨rfl, hk⟩⟩)
    | some o =>
      have e := (KX a o hk).symm.trans ha
      cases e
      exact .inr ⟨_, vs.toArray, _, hk, rfl, rfl, rfl, by rw [List.size_toArray, hi.length]; exact hl, by simpa using rv⟩
  have hok : HOk P w H s₁.heap := fun b o e => by
    obtain ⟨rfl, _, rfl⟩ := Hsome e
    exact ⟨ha, by rw [List.length_map]; exact hl, vs, _, rv, ha⟩
  have noDict : ∀ {b : Addr} {o : Obj} {es : Array DictEntry} {ep : Nat}, s₁.heap.get? b = some o → o.data = .dict es ep → H b = none := fun {b o es ep} e d => free fun z => by
    subst z
    rw [ha] at e
    cases e
    cases d
  have ns_hid : ∀ {b : Addr} {m : Str → Option Value}, s₁.heap.Ns b m → (hidT s₁.heap H).Ns b m := fun {b m} ⟨o, es, ep, e, d, r⟩ => ⟨o, es, ep, hidT_get e (noDict e d), d, r⟩
  have hKb : K.In (hidT s₁.heap H) := fun b o e => hidT_get (KX b o e) (free fun z => by subst z; rw [e]; exact fun y => nomatch y)
  have hM : Mod K mg (hidT s₁.heap H) := ⟨hKb, ns_hid hns, ⟨mb, ns_hid hb, hbb⟩, let ⟨mc, h1, h2⟩ := hlim; ⟨mc, ns_hid h1, h2⟩⟩
  have e0 : Env0 P w K mg (hidT s₁.heap H) callerA [] s₁ H := ⟨rfl, hM, fun b o e => of_hidT e, Nat.le_of_eq (hidT_size _ _), trivial, (fun b hb => absurd (show b ∈ ([] : List Addr) from hb) (by simp)), hok, .of_eq hg⟩
  refine codeAny_mono ((F _ hKb (ns_hid hns)).run callerA rfl hr [] s₁ H ⟨[.ref a], []⟩ [.ref a] [.ref a] _ _ e0 (hbind s₁ (.ref a)) (.cons rfl .nil) (hsp H hS)) fun r s' h => ?_
  rcases r with e | fl
  · exact False.elim h
  rcases fl with _ | _ | _ | u
  · exact False.elim h
  · exact False.elim h
  · exact False.elim h
  obtain ⟨v, H', os, bare, un, hok', r', q⟩ := h
  have q' : v = .bl true := q
  subst q'
  obtain rfl : u = Value.bool true := r'
  refine ⟨rfl, OldK.of_keep fun b o e => ?_, os, bare⟩
  cases hb' : H b with
  | none => exact un.keep b o e hb' (fun z => absurd (show b ∈ ([] : List Addr) from z) (by simp)) (by simp)
  | some u =>
    obtain ⟨rfl, hk, rfl⟩ := Hsome hb'
    have e2 := (hok' _ _ (un.frzs _ oS _ hb')).1
    rw [ha] at e
    cases e
    exact e2
theorem walk_ofG {l : PySem.W.OpenLaw} {n k : Nat} {q : Program} {loose : List Str} {XP : (Str → Option Value) → Heap → Prop} {YP : World → Heap → Prop} {d : DefRec} {K : Params → PySem.W.Frag} {sp : PySem.W.Frag → Sp} {x : Str}
    (hn : l.most = some n) (hn2 : n ≤ sizeLine) (hdf : d.params.defaults = []) (hr : Room k callerA)
    (hY : ∀ (w : World) (h : Heap), YP w h → (K w.params).In h)
    (F : ∀ (w : World) (mg : Str → Option Value) (fa : Addr) (h : Heap), (K w.params).In h → h.Ns mainGlobals mg → mg d.name = some (.ref fa) →
      ∃ fd : FuncData, (∀ (s : Shared) (u : Value), BindsTo s fd ⟨[u], []⟩ [(x, u)]) ∧
        ∀ base : Heap, (K w.params).In base → base.Ns mainGlobals mg → FnG l.prog w (K w.params) mg base CX0 k fa fd [x] (sp (K w.params)))
    (hsp : ∀ (K : PySem.W.Frag) (H : Hp) (a : Addr) (ns : List Int), ns.length ≤ n → SqL K H a (ns.map V.int) → sp K [.ref a] H (fun v _ => v = .bl true) fun _ _ _ => False) :
    PySem.W.WalkO q loose XP YP l.row.toRowW d [] (fun f vs => PySem.call f vs) :=
  Att.attach_call hn hdf fun w s₀ s₁ mg mb fa o pm cd doc a vs ns G Y ho hd hcd hmg hobj hints hlen hg =>
    have KX := hY w _ Y
    let ⟨fd, hb, hF⟩ := F w mg fa _ KX G.T.g hmg
    law_callG KX G.T.g G.T.b G.T.builtins G.T.nolimit hg hobj hints (Nat.le_trans hlen hn2) hr hF hb fun H hS => hsp _ H a ns hlen hS
end MB

set_option maxHeartbeats 4000000
namespace MB
open PySem PySem.Spec PyProof.Rows L2
/-- data whose repr is asked: levels, size -/
structure Rp (k n : Nat) (d : PyData) : Prop where
  sh : Sh k d
  shw : d.showable = true
  short : d.leavesShort 13 = true
  bulk : d.bulk ≤ n
theorem Rp.mono {k n m : Nat} {d : PyData} (h : Rp k n d) (e : n ≤ m) : Rp k m d := ⟨h.sh, h.shw, h.short, Nat.le_trans h.bulk e⟩
theorem Rp.int {i : Int} {k : Nat} (h : i.natAbs < 1000000) : Rp k 0 (.int i) := by
  refine ⟨.int i, ?_, ?_, by simp [PyData.bulk]⟩
  · simp only [PyData.showable]
    refine decide_eq_true ?_
    by_cases h0 : i.natAbs = 0
    · rw [h0]; decide
    · exact Nat.lt_trans ((Nat.log2_lt h0).mpr (show i.natAbs < 2 ^ 20 by omega)) (by decide)
  · simp only [PyData.leavesShort]
    refine decide_eq_true ?_
    have e := int_text_length_le10 (a := i) (k := 6) (by decide) h
    have e2 : (PyData.shown (.int i)).length = (toString i).length := by
      simp only [PyData.shown]
      exact PySem.ofString_length _
    omega
theorem rp_all {k n : Nat} : ∀ {ds : List PyData}, (∀ d, d ∈ ds → Rp k n d) → PyData.showableAll ds = true ∧ PyData.leavesShortAll 13 ds = true ∧ PyData.bulkAll ds ≤ (n + 1) * ds.length
  | [], _ => ⟨by simp [PyData.showableAll], by simp [PyData.leavesShortAll], by simp [PyData.bulkAll]⟩
  | d :: ds, h => by
    have h1 := h d (List.mem_cons_self ..)
    obtain ⟨a, b, c⟩ := rp_all fun e he => h e (List.mem_cons_of_mem _ he)
    refine ⟨by simp only [PyData.showableAll, h1.shw, a, Bool.and_self], by simp only [PyData.leavesShortAll, h1.short, b, Bool.and_self], ?_⟩
    simp only [PyData.bulkAll, List.length_cons]
    have := h1.bulk
    rw [Nat.mul_add]
    omega
theorem Rp.tup {k n m : Nat} {ds : List PyData} (h : ∀ d, d ∈ ds → Rp k n d) (hm : (n + 1) * ds.length ≤ m) : Rp (k + 1) m (.tuple ds) := by
  obtain ⟨a, b, c⟩ := rp_all h
  exact ⟨Sh.tup fun d hd => (h d hd).sh, by simp only [PyData.showable]; exact a, by simp only [PyData.leavesShort]; exact b, by simp only [PyData.bulk]; omega⟩
theorem Rp.lst {k n m : Nat} {ds : List PyData} (h : ∀ d, d ∈ ds → Rp k n d) (hm : (n + 1) * ds.length ≤ m) : Rp (k + 1) m (.list ds) := by
  obtain ⟨a, b, c⟩ := rp_all h
  exact ⟨Sh.lst fun d hd => (h d hd).sh, by simp only [PyData.showable]; exact a, by simp only [PyData.leavesShort]; exact b, by simp only [PyData.bulk]; omega⟩
theorem Rp.ints {ns : List Int} {k m : Nat} (h : ∀ i, i ∈ ns → i.natAbs < 1000000) (hm : ns.length ≤ m) : Rp (k + 1) m (.tuple (ns.map PyData.int)) :=
  Rp.tup (n := 0) (fun d hd => by obtain ⟨i, hi, rfl⟩ := List.mem_map.mp hd; exact .int (h i hi)) (by rw [List.length_map]; omega)
theorem Rp.bool {b : Bool} {k : Nat} : Rp k 0 (.bool b) := ⟨⟨by simp [PyData.canLay0], by simp [PyData.depth]⟩, by simp [PyData.showable], by simp [PyData.leavesShort], by simp [PyData.bulk]⟩
/-- repr(x), by data -/
theorem repr_read {K : PySem.W.Frag} {H : Hp} {x : V} {d : PyData} {Q : VK} {k n : Nat} (hd : Dp K H x d) (hs : Rp k n d) (hk : k ≤ 60) (hn : n ≤ 1048576) (q : Q (.str d.shown) H) : rReprD K [x] H Q :=
  ⟨x, d, rfl, hd, hs.sh.1, hs.shw, Nat.le_trans hs.sh.2 hk, PyData.shown_fits_bulk (B := 13) (by decide) (by decide) hs.short (Nat.le_trans hs.bulk (by omega)), q⟩
theorem Rp.all {k n : Nat} {d : PyData} (hs : Rp k n d) (hk : k ≤ 60) (hn : n ≤ 1048576) : d.canLay0 = true ∧ d.showable = true ∧ d.depth ≤ 60 ∧ d.shown.length ≤ sizeLine :=
  ⟨hs.sh.1, hs.shw, Nat.le_trans hs.sh.2 hk, PyData.shown_fits_bulk (B := 13) (by decide) (by decide) hs.short (Nat.le_trans hs.bulk (by omega))⟩
end MB

set_option maxHeartbeats 4000000
namespace MB
open PySem PySem.Spec PyProof.Rows L2
/-- data whose repr is asked: levels, size -/
structure RpW (k n : Nat) (d : PyData) : Prop where
  sh : Sh k d
  shw : d.showable = true
  short : d.leavesShort  75 = true
  bulk : d.bulk ≤ n
theorem RpW.mono {k n m : Nat} {d : PyData} (h : RpW k n d) (e : n ≤ m) : RpW k m d := ⟨h.sh, h.shw, h.short, Nat.le_trans h.bulk e⟩
theorem RpW.int {i : Int} {k : Nat} (h : i.natAbs < 10 ^ 70) : RpW k 0 (.int i) := by
  refine ⟨.int i, ?_, ?_, by simp [PyData.bulk]⟩
  · simp only [PyData.showable]
    refine decide_eq_true ?_
    by_cases h0 : i.natAbs = 0
    · rw [h0]; decide
    · exact Nat.lt_trans ((Nat.log2_lt h0).mpr (show i.natAbs < 2 ^ 240 by exact Nat.lt_trans h (by decide +kernel))) (by decide)
  · simp only [PyData.leavesShort]
    refine decide_eq_true ?_
    have e := int_text_length_le10 (a := i) (k := 70) (by decide) h
    have e2 : (PyData.shown (.int i)).length = (toString i).length := by
      simp only [PyData.shown]
      exact PySem.ofString_length _
    omega
theorem rpW_all {k n : Nat} : ∀ {ds : List PyData}, (∀ d, d ∈ ds → RpW k n d) → PyData.showableAll ds = true ∧ PyData.leavesShortAll  75 ds = true ∧ PyData.bulkAll ds ≤ (n + 1) * ds.length
  | [], _ => ⟨by simp [PyData.showableAll], by simp [PyData.leavesShortAll], by simp [PyData.bulkAll]⟩
  | d :: ds, h => by
    have h1 := h d (List.mem_cons_self ..)
    obtain ⟨a, b, c⟩ := rpW_all fun e he => h e (List.mem_cons_of_mem _ he)
    refine ⟨by simp only [PyData.showableAll, h1.shw, a, Bool.and_self], by simp only [PyData.leavesShortAll, h1.short, b, Bool.and_self], ?_⟩
    simp only [PyData.bulkAll, List.length_cons]
    have := h1.bulk
    rw [Nat.mul_add]
    omega
theorem RpW.tup {k n m : Nat} {ds : List PyData} (h : ∀ d, d ∈ ds → RpW k n d) (hm : (n + 1) * ds.length ≤ m) : RpW (k + 1) m (.tuple ds) := by
  obtain ⟨a, b, c⟩ := rpW_all h
  exact ⟨Sh.tup fun d hd => (h d hd).sh, by simp only [PyData.showable]; exact a, by simp only [PyData.leavesShort]; exact b, by simp only [PyData.bulk]; omega⟩
theorem RpW.lst {k n m : Nat} {ds : List PyData} (h : ∀ d, d ∈ ds → RpW k n d) (hm : (n + 1) * ds.length ≤ m) : RpW (k + 1) m (.list ds) := by
  obtain ⟨a, b, c⟩ := rpW_all h
  exact ⟨Sh.lst fun d hd => (h d hd).sh, by simp only [PyData.showable]; exact a, by simp only [PyData.leavesShort]; exact b, by simp only [PyData.bulk]; omega⟩
theorem RpW.ints {ns : List Int} {k m : Nat} (h : ∀ i, i ∈ ns → i.natAbs < 10 ^ 70) (hm : ns.length ≤ m) : RpW (k + 1) m (.tuple (ns.map PyData.int)) :=
  RpW.tup (n := 0) (fun d hd => by obtain ⟨i, hi, rfl⟩ := List.mem_map.mp hd; exact .int (h i hi)) (by rw [List.length_map]; omega)
theorem RpW.bool {b : Bool} {k : Nat} : RpW k 0 (.bool b) := ⟨⟨by simp [PyData.canLay0], by simp [PyData.depth]⟩, by simp [PyData.showable], by simp [PyData.leavesShort], by simp [PyData.bulk]⟩
theorem fits75 {d : PyData} (hl : d.leavesShort 75 = true) (hw : d.bulk ≤ 100000) : d.shown.length ≤ sizeLine := by
  have h := PyData.shown_le_bulk 75 (by decide) d hl
  have h2 : (75 + 2) * d.bulk ≤ 77 * 100000 := Nat.mul_le_mul (by omega) (by omega)
  have e : sizeLine = 16777216 := by decide
  omega
/-- repr(x), by data -/
theorem reprW_read {K : PySem.W.Frag} {H : Hp} {x : V} {d : PyData} {Q : VK} {k n : Nat} (hd : Dp K H x d) (hs : RpW k n d) (hk : k ≤ 60) (hn : n ≤ 100000) (q : Q (.str d.shown) H) : rReprD K [x] H Q :=
  ⟨x, d, rfl, hd, hs.sh.1, hs.shw, Nat.le_trans hs.sh.2 hk, fits75 hs.short (Nat.le_trans hs.bulk hn), q⟩
theorem RpW.all {k n : Nat} {d : PyData} (hs : RpW k n d) (hk : k ≤ 60) (hn : n ≤ 100000) : d.canLay0 = true ∧ d.showable = true ∧ d.depth ≤ 60 ∧ d.shown.length ≤ sizeLine :=
  ⟨hs.sh.1, hs.shw, Nat.le_trans hs.sh.2 hk, fits75 hs.short (Nat.le_trans hs.bulk hn)⟩
end MB

set_option maxHeartbeats 4000000
namespace MB
open PySem PySem.Spec PyProof.Rows L2
/-! ### data of any kind, dicts among them -/
def kD : Key → PyData
  | .inl i => .int i
  | .inr x => .str x
mutual
inductive Dq (K : PySem.W.Frag) (H : Hp) : V → PyData → Prop
  | nonq : Dq K H .non .none
  | blq (b : Bool) : Dq K H (.bl b) (.bool b)
  | intq (i : Int) : Dq K H (.int i) (.int i)
  | strq (x : Str) : Dq K H (.str x) (.str x)
  | lstq {a : Addr} {xs : List V} {ds : List PyData} : SqL K H a xs → a ≠ sysModules → DqAll K H xs ds → Dq K H (.ref a) (.list ds)
  | tupq {a : Addr} {xs : List V} {ds : List PyData} : SqT K H a xs → DqAll K H xs ds → Dq K H (.ref a) (.tuple ds)
  | dctq {a : Addr} {kvs : List (Key × V)} {des : List (PyData × PyData)} : H a = some (.dK kvs) → des.map (·.1) = kvs.map (fun p => kD p.1) → DqAll K H (kvs.map (·.2)) (des.map (·.2)) → Dq K H (.ref a) (.dict des)
inductive DqAll (K : PySem.W.Frag) (H : Hp) : List V → List PyData → Prop
  | nil : DqAll K H [] []
  | cons {v : V} {vs : List V} {d : PyData} {ds : List PyData} : Dq K H v d → DqAll K H vs ds → DqAll K H (v :: vs) (d :: ds)
end
section
variable {X : Cx} {pins : List (Addr × Obj)} {σ : L2.St} {H : Hp} {s : Shared}
theorem keys_read {h : Heap} {P : Program} {w : World} {es : List DictEntry} {vs : List (Key × Value)} (hp : Pairs (mixKind P w) es vs) : ∀ {kvs : List (Key × V)}, KV kvs vs →
    ReadsAll h (es.map (·.key)) (kvs.map fun p => kD p.1) [] ∧ Vals (kvs.map (·.2)) (es.map (·.val)) := by
  induction hp with
  | nil => intro kvs r; cases r; exact ⟨.nil, .nil⟩
  | @cons e kv es vs a b c ih =>
    intro kvs r
    cases r with
    | @cons p _ ps _ r t =>
      obtain ⟨h1, h2⟩ := ih t
      obtain ⟨r1, r2⟩ := r
      have r3 : RelV p.2 e.val := by rw [b]; exact r2
      refine ⟨?_, .cons r3 h2⟩
      have e1 : keyIs kv.1 e.key = true := a
      rw [List.map_cons, List.map_cons, r1]
      rcases keyIs_shape e1 with ⟨i, t, h3, h4⟩ | ⟨x, t, h3, h4⟩
      · rw [h3, h4]; exact ReadsAll.cons (as := []) (bs := []) (.int i t) h1
      · rw [h3, h4]; exact ReadsAll.cons (as := []) (bs := []) (.str x t) h1
theorem Dq.reads (I : Inv X pins σ H s) {d : PyData} {v : V} (hq : Dq X.K H v d) : ∀ u : Value, RelV v u → ∃ as, Reads s.heap u d as ∧ sysModules ∉ as := by
  refine Dq.rec (motive_1 := fun v d _ => ∀ u : Value, RelV v u → ∃ as, Reads s.heap u d as ∧ sysModules ∉ as) (motive_2 := fun vs ds _ => ∀ us : List Value, Vals vs us → ∃ as, ReadsAll s.heap us ds as ∧ sysModules ∉ as) ?_ ?_ ?_ ?_ ?_ ?_ ?_ ?_ ?_ hq
  · intro u r; cases r; exact ⟨_, .none, by simp⟩
  · intro b u r; cases r; exact ⟨_, .bool b, by simp⟩
  · intro i u r; obtain ⟨t, rfl⟩ := r; exact ⟨_, .int i t, by simp⟩
  · intro x u r; obtain ⟨t, rfl⟩ := r; exact ⟨_, .str x t, by simp⟩
  · intro a xs ds hs hne _ ih u r
    cases r
    obtain ⟨its, rv, ⟨o, n, h1, h2, h3, h4⟩, _⟩ := I.list hs
    obtain ⟨as, ra, na⟩ := ih _ rv
    refine ⟨_, .list h1 h2 h4 (by simpa using ra), ?_⟩
    intro hm
    rcases List.mem_cons.mp hm with e | e
    · exact hne e.symm
    · exact na e
  · intro a xs ds hs _ ih u r
    cases r
    obtain ⟨its, rv, ⟨o, h1, h2, n, h3⟩, _⟩ := I.tuple hs
    obtain ⟨as, ra, na⟩ := ih _ rv
    exact ⟨_, .tuple h1 h2 h3 (by simpa using ra), na⟩
  · intro a kvs des he hk _ ih u r
    cases r
    obtain ⟨_, hsys, vs, kv, o, es, ep, h1, h2, h3, _, h5, _⟩ := dk_of I.hok he
    obtain ⟨g1, g2⟩ := keys_read (h := s.heap) h5 kv
    obtain ⟨bs, rb, nb⟩ := ih _ g2
    refine ⟨_, .dict h1 h2.1 h3 (by rw [hk]; exact g1) rb, ?_⟩
    intro hm
    rcases List.mem_cons.mp hm with e | e
    · rw [← e] at hsys; simp at hsys
    · exact nb (by simpa using e)
  · intro us t; cases t; exact ⟨_, .nil, by simp⟩
  · intro v vs d ds _ _ h1 h2 us t
    cases t with
    | cons r t =>
      obtain ⟨as, g1, n1⟩ := h1 _ r
      obtain ⟨bs, g2, n2⟩ := h2 _ t
      exact ⟨_, .cons g1 g2, by simp [n1, n2]⟩
end
theorem Dq.same {K : PySem.W.Frag} {H H' : Hp} (e : Same H H') {v : V} {d : PyData} (h : Dq K H v d) : Dq K H' v d := by
  refine Dq.rec (motive_1 := fun v d _ => Dq K H' v d) (motive_2 := fun vs ds _ => DqAll K H' vs ds) ?_ ?_ ?_ ?_ ?_ ?_ ?_ ?_ ?_ h
  · exact .nonq
  · intro b; exact .blq b
  · intro i; exact .intq i
  · intro x; exact .strq x
  · intro a xs ds hs hne _ ih; exact .lstq (e.seq hs) hne ih
  · intro a xs ds hs _ ih; exact .tupq (Same.tup e hs) ih
  · intro a kvs des he hk _ ih; exact .dctq (e _ _ he) hk ih
  · exact .nil
  · intro v vs d ds _ _ h1 h2; exact .cons h1 h2
theorem DqAll.same {K : PySem.W.Frag} {H H' : Hp} (e : Same H H') : ∀ {vs : List V} {ds : List PyData}, DqAll K H vs ds → DqAll K H' vs ds
  | _, _, .nil => .nil
  | _, _, .cons a b => .cons (Dq.same e a) (DqAll.same e b)
/-! ### repr -/
def rReprQ (K : PySem.W.Frag) : List V → Hp → VK → Prop := fun xs H Q => ∃ (x : V) (d : PyData), xs = [x] ∧ Dq K H x d ∧ d.showable = true ∧ d.depth ≤ 60 ∧ d.shown.length ≤ sizeLine ∧ Q (.str d.shown) H
theorem call_reprQ {X : Cx} (hgd : X.A.guards = some []) (hu : X.A.units + 64 < cLine) : CallR X (.builtin "repr") (rReprQ X.K) := by
  intro pins s σ H xs us Q I r h
  obtain ⟨x, d, rfl, hd, hs, hdep, hz, q⟩ := h
  obtain ⟨u, rfl, rx⟩ := vals1 r
  obtain ⟨as, rd, nsys⟩ := Dq.reads I hd u rx
  have fin : ∀ (h' : Heap) (v tk : Tok), (∀ b o, s.heap.get? b = some o → h'.get? b = some o) → EP X pins σ Q (.str d.shown v) { s with heap := h', toks := tk } := fun h' v tk hk => ⟨.str d.shown, H, I.kept hk, ⟨_, rfl⟩, q⟩
  cases rd with
  | none => exact PySem.P.repr_of_none (fin _ _ _ fun _ _ e => e)
  | bool b =>
    refine PySem.P.repr_of_bool ?_
    cases b <;> exact fin s.heap s.toks (s.toks + 1) fun _ _ e => e
  | int i t => exact PySem.P.repr_of_int (by simpa [PyData.showable] using hs) (fin s.heap s.toks (s.toks + 1) fun _ _ e => e)
  | str y t => exact PySem.P.repr_of_str (fin s.heap s.toks (s.toks + 1) fun _ _ e => e) hz
  | list h1 h2 h3 h4 => exact repr_of_reads' (.list h1 h2 h3 h4) hs (fun _ => nsys) hgd (by omega) (fun _ _ e => e) fin hz
  | tuple h1 h2 h3 h4 => exact repr_of_reads' (.tuple h1 h2 h3 h4) hs (fun _ => nsys) hgd (by omega) (fun _ _ e => e) fin hz
  | dict h1 h2 h3 h4 h5 => exact repr_of_reads' (.dict h1 h2 h3 h4 h5) hs (fun _ => nsys) hgd (by omega) (fun _ _ e => e) fin hz
theorem k_reprQ {X : Cx} {K : PySem.W.Frag} (e : X.K = K) (hgd : X.A.guards = some []) (hu : X.A.units + 64 < cLine) : CallR X (.builtin "repr") (rReprQ K) := by
  rw [← e]; exact call_reprQ hgd hu
end MB

set_option maxHeartbeats 4000000
namespace MB
open PySem PySem.Spec PyProof.Rows L2

/-! ### f(p = v), no value by position -/
def gK {α : Type} (us ws : List α) : List α := match us with
  | [] => ws
  | _ :: _ => []
section
variable {X : Cx} {CX : CXT} {k : Nat} {f : Addr} {fd : FuncData} {ps ks : List Str} {sp : Sp} {E : XK} {x : Str} {p pos : Pos} {kws : List Keyword} {tk : TA} {g : List Value → List Value → List Value} {gV : List V → List V → List V}
theorem pe_callK0 (F : FnOk X.prog X.w X.K X.mg X.base CX k f fd ps sp) (hr : Room k X.A) (hg : Gl X x) (hm : X.mg x = some (.ref f)) (hk : PySem.W.keepIn X.K (.ref f) = true) (hb : KBinds X.K fd ps ks g gV) (hx : Passes CX X E)
    (hkw : PK X kws tk) (hall : (backToKw pos (keywordEach kws X.env)).all (·.1.isSome) = true := by rfl) (hks : (backToKw pos (keywordEach kws X.env)).filterMap (·.1) = ks := by rfl)
    (hdb : (x == ("__debug__" : Str)) = false := by decide)
    (hpl : ((backTo pos (starEach [] X.env)).any (·.1) || (backToKw pos (keywordEach kws X.env)).any (·.1.isNone)) = false := by rfl) :
    PE X (.Call (.Name x p) [] kws pos) (tCallK sp gV E tNil tk) := by
  refine ⟨fun pins s σ H Q I h => ?_⟩
  refine wpAny_Call_Name_kw (ld_glob I hg hm ?_ hdb)
  refine PySem.W.callWith_KW0 (h₀ := X.base) I.ok.mod.kin hk hall ?_ hpl
  refine thn (hkw.run pos pins s σ H _ I h) fun ws s2 ⟨zs, H2, I2, rz, q2⟩ => ⟨I2.kIn, ?_⟩
  rw [hks]
  exact run_fnk (us := []) (vs := []) F hr hb hx I2 .nil rz q2
end
theorem kb1 {K : PySem.W.Frag} {x qual : Str} {st : Stmt} {f : Addr} {fd : FuncData} {q : Str} (F : L2.Fun K x qual st f fd)
    (h : ∀ (kV doc pm : Value) (an : Option Addr) (cdv ct u : Value), bindArgs (PySem.W.fnOf x qual (defArgs st) (defBody st) (defScope st) .none kV doc pm an cdv ct) ⟨[], [(q, u)]⟩ = pure [(q, u)]) : KBinds K fd [q] [q] gK gK := by
  obtain ⟨oc, od, kV, doc, pm, an, cdv, ct, osl, rfl, lk, hcd⟩ := F.ex
  refine ⟨fun s us ws _ hl => ?_, fun {vs us zs ws} r1 r2 => ?_⟩
  · cases us with
    | cons u us => exact nomatch hl
    | nil =>
      match ws, hl with
      | [u], _ => exact .of_eq (h kV doc pm an cdv ct u)
  · cases r1 with
    | nil => exact r2
    | cons _ _ => exact .nil

/-! ### a comprehension with a test -/
theorem lc_sel {K : PySem.W.Frag} {J : It} {n : Nat} {G : Hp → Prop} {Y : Nat → Hp → V → Hp → Prop} (w : Walk J n G Y) {g : TG} {tt : TT} {te : TE} {vs : List Nat} {σ : L2.St} {H1 : Hp} {D : Addr} {Qd : Hp → Prop}
    (f : Nat → Bool) (d : Nat → PyData) (ht : ∀ i, i < n → Tf (d i)) (hn : n ≤ 1000) (hD : H1 D = none) (hG : ∀ H, Same H1 H → G H)
    (hs : ∀ i x H H', i < n → Same H1 H → Y i H x H' → ∀ R : V → Hp → Prop, (∀ y H4, Same H H4 → Dp K H4 y (d i) → R y H4) →
      g x (wipe σ vs) H' fun σ2 H2 => wipe σ2 vs = wipe σ vs ∧ tt σ2 H2 fun b H3 => b = f i ∧ Same H H3 ∧ (b = true → te σ2 H3 R))
    (hd : ∀ H acc, Same H1 H → H D = some (.lst acc) → DpAll K H acc (((List.range n).filter f).map d) → Qd H)
    (mg : ∀ x σ' H' (Q Q' : L2.St → Hp → Prop), (∀ a b, Q a b → Q' a b) → g x σ' H' Q → g x σ' H' Q') (mt : ∀ σ' H' (Q Q' : Bool → Hp → Prop), (∀ a b, Q a b → Q' a b) → tt σ' H' Q → tt σ' H' Q') :
    ∃ W : Nat → Nat → Hp → Prop, (∃ m, W 0 m (upd H1 D (.lst []))) ∧ ∀ i m H, W i m H →
      (J.stop i H ∧ Qd H) ∨ (J.go i H ∧ ∃ Nx : Hp → Prop, (∀ H', Nx H' → ∃ m', m' < m ∧ W (i + 1) m' H') ∧ ∀ x H', J.yld i H x H' → g x (wipe σ vs) H' fun σ2 H2 => wipe σ2 vs = wipe σ vs ∧ tt σ2 H2 fun b H3 =>
        if b = true then te σ2 H3 fun y H4 => ∃ acc, H4 D = some (.lst acc) ∧ acc.length < sizeLine ∧ Nx (upd H4 D (.lst (acc ++ [y]))) else Nx H3) := by
  refine lc_it w (fun i H => Same H1 H ∧ ∃ acc, H D = some (.lst acc) ∧ DpAll K H acc (((List.range i).filter f).map d)) ⟨same_upd hD, [], upd_same, .nil⟩ (fun i H _ h => hG H h.1) ?_ ?_
  · rintro i x H H' hi ⟨s1, acc, ha, hA⟩ hy
    have hlen := DpAll.len hA
    have hle : acc.length ≤ i := by
      rw [hlen, List.length_map]
      have := List.length_filter_le f (List.range i)
      rw [List.length_range] at this
      exact this
    refine mg _ _ _ _ _ ?_ (hs i x H H' hi s1 hy (fun y H4 => ∃ acc, H4 D = some (.lst acc) ∧ acc.length < sizeLine ∧ (f i = true → Same H1 (upd H4 D (.lst (acc ++ [y]))) ∧ ∃ acc', (upd H4 D (.lst (acc ++ [y]))) D = some (.lst acc') ∧ DpAll K (upd H4 D (.lst (acc ++ [y]))) acc' (((List.range (i + 1)).filter f).map d))) ?_)
    · rintro σ2 H2 ⟨h1, h2⟩
      refine ⟨h1, mt _ _ _ _ ?_ h2⟩
      rintro b H3 ⟨hb, s3, h3⟩
      cases b with
      | true =>
        refine iteT ?_
        have h4 := h3 rfl
        have hb' := hb.symm
        simp only [hb', true_implies] at h4
        exact h4
      | false =>
        refine iteF ⟨s1.trans s3, acc, s3 _ _ ha, ?_⟩
        rw [List.range_succ, List.filter_append, List.map_append]
        have e : List.filter f [i] = [] := by rw [List.filter_cons, if_neg (by rw [← hb]; decide)]; rfl
        rw [e, List.map_nil, List.append_nil]
        exact DpAll.same s3 hA
    · intro y H4 s4 hy4
      refine ⟨acc, s4 _ _ ha, sz61 (by omega), fun hf => ⟨Same.mut (s1.trans s4) hD, acc ++ [y], upd_same, ?_⟩⟩
      have kp : Keep K H4 (upd H4 D (.lst (acc ++ [y]))) := But.keep But.upd (s4 _ _ ha)
      have e : List.filter f [i] = [i] := by rw [List.filter_cons, if_pos hf]; rfl
      rw [List.range_succ, List.filter_append, List.map_append, e]
      refine DpAll.keep kp (fun d' h => ?_) (DpAll.append (DpAll.same s4 hA) (.cons hy4 .nil))
      rcases List.mem_append.mp h with h | h
      · obtain ⟨j, hj, rfl⟩ := List.mem_map.mp h
        have := List.mem_range.mp (List.mem_filter.mp hj).1
        exact ht j (by omega)
      · have e : d' = d i := by simpa using h
        rw [e]; exact ht i hi
  · rintro H ⟨s1, acc, ha, hA⟩
    exact hd H acc s1 ha hA
end MB

set_option maxHeartbeats 4000000
namespace MB
open PySem PySem.Spec PyProof.Rows L2
/-! ### x *= e -/
theorem ip_mulW {X : Cx} : PIp X .Mult (fun x y H Q => ∃ i j, x = .int i ∧ y = .int j ∧ CMulW i j ∧ Q (.int (i * j)) H) := by
  intro pins s σ H x y v u Q I r1 r2 h
  obtain ⟨i, j, e1, e2, hc, q⟩ := h
  subst e1; subst e2
  obtain ⟨t, rfl⟩ := r1
  obtain ⟨t', rfl⟩ := r2
  exact imul_int ⟨.int _, H, I.tok _, ⟨_, rfl⟩, q⟩ hc.ok
/-! ### f(q = v, p = w): by keywords in any order -/
def gP {α : Type} (idx : List Nat) (us ws : List α) : List α := match us with
  | [] => idx.filterMap fun i => ws[i]?
  | _ :: _ => []
theorem gP_take {α : Type} {n : Nat} {ws : List α} : ∀ {idx : List Nat}, (∀ i, i ∈ idx → i < n) → (idx.filterMap fun i => (ws.take n)[i]?) = idx.filterMap fun i => ws[i]?
  | [], _ => rfl
  | i :: idx, h => by
    have h1 := h i (List.mem_cons_self ..)
    have h2 := gP_take (α := α) (n := n) (ws := ws) (idx := idx) fun j hj => h j (List.mem_cons_of_mem _ hj)
    rw [List.filterMap_cons, List.filterMap_cons, h2, List.getElem?_take, if_pos h1]
theorem gP_len {α : Type} {ws : List α} : ∀ {idx : List Nat}, (idx.filterMap fun i => ws[i]?).length = idx.length → ∀ i, i ∈ idx → i < ws.length
  | [], _, i, h => nomatch h
  | j :: idx, hl, i, h => by
    cases e : ws[j]? with
    | none =>
      simp only [List.filterMap_cons, e] at hl
      have := List.length_filterMap_le (fun i => ws[i]?) idx
      simp only [List.length_cons] at hl
      omega
    | some x =>
      simp only [List.filterMap_cons, e, List.length_cons, Nat.add_right_cancel_iff] at hl
      rcases List.mem_cons.mp h with h | h
      · subst h
        exact (List.getElem?_eq_some_iff.mp e).1
      · exact gP_len hl i h
theorem gP_rel {zs : List V} {ws : List Value} (r : Vals zs ws) : ∀ idx : List Nat, Vals (idx.filterMap fun i => zs[i]?) (idx.filterMap fun i => ws[i]?)
  | [] => .nil
  | i :: idx => by
    have ih := gP_rel r idx
    cases e : zs[i]? with
    | none =>
      have e2 : ws[i]? = none := List.getElem?_eq_none (by rw [← r.length]; exact List.getElem?_eq_none_iff.mp e)
      simp only [List.filterMap_cons, e, e2]; exact ih
    | some x =>
      obtain ⟨u, e2, ru⟩ := r.get e
      simp only [List.filterMap_cons, e, e2]; exact .cons ru ih
theorem zip_take {α β : Type} : ∀ (ks : List α) (ws : List β), ks.zip (ws.take ks.length) = ks.zip ws
  | [], _ => rfl
  | _ :: _, [] => rfl
  | k :: ks, w :: ws => by simp [zip_take ks ws]
theorem kbP {K : PySem.W.Frag} {x qual : Str} {st : Stmt} {f : Addr} {fd : FuncData} {ps ks : List Str} {idx : List Nat} (F : L2.Fun K x qual st f fd) (hi : idx.length = ps.length) (hk : ks.length = ps.length) (hp : 0 < ps.length)
    (hall : (∀ i, i ∈ idx → i < ps.length) ∧ ps.length - 1 ∈ idx)
    (h : ∀ (kV doc pm : Value) (an : Option Addr) (cdv ct : Value) (ws : List Value), ws.length = ps.length → bindArgs (PySem.W.fnOf x qual (defArgs st) (defBody st) (defScope st) .none kV doc pm an cdv ct) ⟨[], ks.zip ws⟩ = pure (ps.zip (gP idx [] ws))) : KBinds K fd ps ks (gP idx) (gP idx) := by
  obtain ⟨oc, od, kV, doc, pm, an, cdv, ct, osl, rfl, lk, hcd⟩ := F.ex
  refine ⟨fun s us ws _ hl => ?_, fun {vs us zs ws} r1 r2 => ?_⟩
  · cases us with
    | cons u us =>
      have : 0 = ps.length := hl
      omega
    | nil =>
      have hl' : (idx.filterMap fun i => ws[i]?).length = idx.length := by rw [hi]; exact hl
      have h2 := gP_len hl' _ hall.2
      have h3 := h kV doc pm an cdv ct (ws.take ps.length) (by rw [List.length_take]; omega)
      have e1 : gP idx [] (ws.take ps.length) = gP idx [] ws := gP_take hall.1
      have e2 : ks.zip (ws.take ps.length) = ks.zip ws := by
        rw [← hk]
        exact zip_take ks ws
      rw [e1, e2] at h3
      exact .of_eq h3
  · cases r1 with
    | nil => exact gP_rel r2 idx
    | cons _ _ => exact .nil
section
variable {X : Cx} {CX : CXT} {k : Nat} {f : Addr} {fd : FuncData} {ps ks : List Str} {sp : Sp} {E : XK} {x : Str} {p pos : Pos} {kws : List Keyword} {tk : TA} {g : List Value → List Value → List Value} {gV : List V → List V → List V}
end
end MB

set_option maxHeartbeats 4000000
namespace MB
open PySem PySem.Spec PyProof.Rows L2
def clsDef (s : Stmt) : Stmt := match s with
  | .ClassDef _ _ _ b _ _ _ _ _ _ _ => b.getD 0 (.Pass ⟨0, 0, 0, 0⟩)
  | t => t
/-! ### own exceptions as values -/
/-- at a: a caught exception, of the class cls, its dict at d -/
def KeO (a : Addr) (cls : Value) (d : Option Addr) : HO := .ext fun h => ∃ oe vs, h.get? a = some oe ∧ oe.cls = cls ∧ oe.dict = d ∧ oe.data = .fields vs
theorem keO_ok {P : Program} {w : World} {H : Hp} {h : Heap} {a : Addr} {cls : Value} {d : Option Addr} {oe : Obj} {vs : Array Value} (e : h.get? a = some oe) (hc : oe.cls = cls) (hd : oe.dict = d) (hf : oe.data = .fields vs) : ObjOk P w H h a (KeO a cls d) :=
  ⟨⟨oe, vs, e, hc, hd, hf⟩, ⟨oe, e⟩, fun h1 h2 ⟨o1, v1, q1, q2⟩ k => ⟨o1, v1, k _ q1, q2⟩⟩
/-- at a: an own exception of the class at C; with a dict that holds fs, or with none -/
inductive XAt (H : Hp) (a C : Addr) : Option (List (Str × V)) → Prop
  | full {d : Addr} {fs : List (Str × V)} : H a = some (exo a C (some d)) → H d = some (exd d fs) → XAt H a C (some fs)
  | bare : H a = some (ExO (.ref C) a) → XAt H a C none
  | kept {d : Addr} {fs : List (Str × V)} : H a = some (KeO a (.ref C) (some d)) → H d = some (exd d fs) → XAt H a C (some fs)
  | keptd {d : Addr} {fs : List (Str × V)} : H a = some (KeO a (.ref C) (some d)) → H d = some (.xd fs) → XAt H a C (some fs)
theorem XAt.same {H H' : Hp} {a C : Addr} {o : Option (List (Str × V))} (e : Same H H') (h : XAt H a C o) : XAt H' a C o := by
  cases h with
  | full h1 h2 => exact .full (e _ _ h1) (e _ _ h2)
  | bare h1 => exact .bare (e _ _ h1)
  | kept h1 h2 => exact .kept (e _ _ h1) (e _ _ h2)
  | keptd h1 h2 => exact .keptd (e _ _ h1) (e _ _ h2)
theorem keO_at {P : Program} {w : World} {H : Hp} {h : Heap} {a C : Addr} {d : Option Addr} (k : HOk P w H h) (e : H a = some (KeO a (.ref C) d)) : ∃ o vs, h.get? a = some o ∧ o.cls = .ref C ∧ o.dict = d ∧ o.data = .fields vs := by
  obtain ⟨⟨o, vs, q1, q2, q3, q4⟩, _⟩ := k a _ e
  exact ⟨o, vs, q1, q2, q3, q4⟩
section
variable {X : Cx} {pins : List (Addr × Obj)} {σ : L2.St} {H : Hp} {s : Shared}
/-- x.f -/
def tXv (K : PySem.W.Frag) (f : Str) (te : TE) : TE := fun σ H Q => te σ H fun x H1 => ∃ (a C : Addr) (fs : List (Str × V)) (v : V), x = .ref a ∧ XAt H1 a C (some fs) ∧ XfC K C ∧ PySem.W.findIn K (.ref C) f = some none ∧ fs.lookup f = some v ∧ Q v H1
theorem pe_xv {e : Expr} {te : TE} {pos : Pos} {n : Str} (he : PE X e te) (hb : attributeBase e n X.env (eval e X.env) = eval e X.env := by rfl) : PE X (.Attribute e n pos) (tXv X.K n te) := by
  refine ⟨fun pins s σ H Q I h => ?_⟩
  refine attr_of hb (thn (he.run pins s σ H _ I h) fun u s1 hh => ?_)
  obtain ⟨x, H1, I1, rx, a, C, fs, v, ex, hx, T, hno, l, q⟩ := hh
  subst ex
  obtain rfl : u = Value.ref a := rx
  cases hx with
  | @full d _ ea ed =>
    obtain ⟨t1, ho⟩ := exo_at I1.hok ea
    obtain ⟨mA, hns, hr⟩ := exd_at I1.hok ed
    obtain ⟨od, hod, hl⟩ := lookIn_ns hns
    obtain ⟨z, hz, rz⟩ := RelO.some_of (v := v) (o := mA n) (by rw [← l]; exact hr n)
    have J : PySem.W.InstAt s1.heap a _ C (some od) := ⟨ho, rfl, rfl, hod⟩
    exact HandSPX.exc_get I1.kIn J T.ga T.gg T.exC (PySem.W.findObj_own T.hdC hno rfl (by rw [hl, hz])) (handed_of rz) ⟨v, H1, I1.tok _, rz, q⟩
  | @kept d _ ea ed =>
    obtain ⟨o, vs, ho, hcl, hdc, hfd⟩ := keO_at I1.hok ea
    obtain ⟨mA, hns, hr⟩ := exd_at I1.hok ed
    obtain ⟨od, hod, hl⟩ := lookIn_ns hns
    obtain ⟨z, hz, rz⟩ := RelO.some_of (v := v) (o := mA n) (by rw [← l]; exact hr n)
    obtain ⟨oc, odc, oda, osl⟩ := o
    dsimp only at hcl hdc hfd
    subst hcl hdc hfd
    have J : PySem.W.InstAt s1.heap a _ C (some od) := ⟨ho, rfl, rfl, hod⟩
    exact HandSPX.exc_get I1.kIn J T.ga T.gg T.exC (PySem.W.findObj_own T.hdC hno rfl (by rw [hl, hz])) (handed_of rz) ⟨v, H1, I1.tok _, rz, q⟩
  | @keptd d _ ea ed =>
    obtain ⟨o, vs, ho, hcl, hdc, hfd⟩ := keO_at I1.hok ea
    obtain ⟨mA, hns, hr⟩ := (show ObjOk X.prog X.w H1 s1.heap d (.xd _) from I1.hok d _ ed)
    obtain ⟨od, hod, hl⟩ := lookIn_ns hns
    obtain ⟨z, hz, rz⟩ := RelO.some_of (v := v) (o := mA n) (by rw [← l]; exact hr n)
    obtain ⟨oc, odc, oda, osl⟩ := o
    dsimp only at hcl hdc hfd
    subst hcl hdc hfd
    have J : PySem.W.InstAt s1.heap a _ C (some od) := ⟨ho, rfl, rfl, hod⟩
    exact HandSPX.exc_get I1.kIn J T.ga T.gg T.exC (PySem.W.findObj_own T.hdC hno rfl (by rw [hl, hz])) (handed_of rz) ⟨v, H1, I1.tok _, rz, q⟩
/-- isinstance(x, c) -/
def rIsX (K : PySem.W.Frag) : List V → Hp → VK → Prop := fun xs H Q => ∃ (a C : Addr) (o : Option (List (Str × V))) (c : V) (u : Value) (b : Bool), xs = [.ref a, c] ∧ ClsV c u ∧ XAt H a C o ∧ ExcC K C ∧ PySem.W.kitOne K (.ref C) u = some b ∧ Q (.bl b) H
theorem call_isX : CallR X (.builtin "isinstance") (rIsX X.K) := by
  intro pins s σ H xs us Q I r h
  obtain ⟨a, C, o, c, u, b, rfl, k, hx, T, e, q⟩ := h
  obtain ⟨u1, u2, rfl, r1, r2⟩ := vals2 r
  have e2 := k.eq r2
  subst e2
  cases r1
  have hcl : (PySem.W.clsIn X.K C).isSome = true := by
    obtain ⟨cd, hc, _⟩ := PySem.W.any_some T.hd
    rw [hc]; rfl
  have fin : ∀ tk, EP X pins σ Q (.bool b) { s with toks := tk } := fun tk => ⟨.bl b, H, I.tok tk, rfl, q⟩
  cases hx with
  | @full d fs ea ed =>
    obtain ⟨t1, ho⟩ := exo_at I.hok ea
    obtain ⟨mA, hns, hr⟩ := exd_at I.hok ed
    obtain ⟨od, hod, hl⟩ := lookIn_ns hns
    have J : PySem.W.InstAt s.heap a _ C (some od) := ⟨ho, rfl, rfl, hod⟩
    exact PySem.W.kia_one (PySem.W.kitx_exc hcl T.hg T.hk T.hs T.ha T.hn T.ht T.hm) I.kIn J e (fun z => nomatch z) fin
  | @kept d fs ea ed =>
    obtain ⟨o, vs, ho, hc1, hdc, hfd⟩ := keO_at I.hok ea
    obtain ⟨mA, hns, hr⟩ := exd_at I.hok ed
    obtain ⟨od, hod, hl⟩ := lookIn_ns hns
    obtain ⟨oc, odc, oda, osl⟩ := o
    dsimp only at hc1 hdc hfd
    subst hc1 hdc hfd
    have J : PySem.W.InstAt s.heap a _ C (some od) := ⟨ho, rfl, rfl, hod⟩
    exact PySem.W.kia_one (PySem.W.kitx_exc hcl T.hg T.hk T.hs T.ha T.hn T.ht T.hm) I.kIn J e (fun z => nomatch z) fin
  | @keptd d fs ea ed =>
    obtain ⟨o, vs, ho, hc1, hdc, hfd⟩ := keO_at I.hok ea
    obtain ⟨mA, hns, hr⟩ := (show ObjOk X.prog X.w H s.heap d (.xd fs) from I.hok d _ ed)
    obtain ⟨od, hod, hl⟩ := lookIn_ns hns
    obtain ⟨oc, odc, oda, osl⟩ := o
    dsimp only at hc1 hdc hfd
    subst hc1 hdc hfd
    have J : PySem.W.InstAt s.heap a _ C (some od) := ⟨ho, rfl, rfl, hod⟩
    exact PySem.W.kia_one (PySem.W.kitx_exc hcl T.hg T.hk T.hs T.ha T.hn T.ht T.hm) I.kIn J e (fun z => nomatch z) fin
  | bare ea =>
    obtain ⟨⟨oe, vs, ho, hz, hd, _⟩, _⟩ := I.hok a _ ea
    have J : PySem.W.InstAt s.heap a oe C none := by
      obtain ⟨oc, od, oda, osl⟩ := oe
      obtain ⟨z1, z2⟩ := hz
      dsimp only at z1 z2 hd
      subst z1 z2 hd
      exact ⟨ho, rfl, rfl, trivial⟩
    exact PySem.W.kia_one (PySem.W.kitx_exc hcl T.hg T.hk T.hs T.ha T.hn T.ht T.hm) I.kIn J e (fun z => nomatch z) fin
/-- C(e), the class's own __init__ keeping sp: the object stands -/
def tMkX (C : Addr) (sp : Sp) (ta : TA) : TE := fun σ H Q => ta σ H fun vs H1 => vs.length ≤ 1000 ∧ ∀ a, H1 a = none → sp (.ref a :: vs) (upd H1 a (exo a C none)) (fun v H2 => v = .non ∧ Q (.ref a) H2) E0
theorem pe_mkX {x : Str} {C fI : Addr} {k : Nat} {fd : FuncData} {ps : List Str} {sp : Sp} {e : Expr} {es : List Expr} {ta : TA} {p pos : Pos} (T : OexC X.K C) (iC : PySem.W.findIn X.K (.ref C) "__init__" = some (some (.ref fI))) (tI : PySem.W.typeIn X.K (.ref fI) = some (.type "function"))
    (F1 : FnOk X.prog X.w X.K X.mg X.base CX0 k fI fd ps sp) (hr : Room (k + 1) X.A) (hb : Binds X.K fd ps []) (hg : Gl X x) (hm : X.mg x = some (.ref C)) (ha : PA X (e :: es) ta) (hx : Passes CX0 X E0)
    (hdb : (x == ("__debug__" : Str)) = false := by decide) (he : starEach (e :: es) X.env = (false, eval e X.env) :: starEach es X.env := by rfl) (hpl : (backTo pos (starEach es X.env)).any (·.1) = false := by rfl) :
    PE X (.Call (.Name x p) (e :: es) [] pos) (tMkX C sp ta) := by
  refine ⟨fun pins s σ H Q I h => ?_⟩
  obtain ⟨nm, qn, N, bs, bm, sn, sub, ab, col, dd, k0, k1, k2, k3, k5, hC, hbm⟩ := T.cls
  refine wpAny_Call_Name_kw (ld_glob I hg hm ?_ hdb)
  refine PySem.W.callWith_K (h₀ := X.base) I.ok.mod.kin T.kC (thn (ha.run pos pins s σ H _ I h) fun us s1 ⟨vs, H1, I1, r1, hz, q1⟩ => ⟨I1.kIn, ?_⟩) he hpl
  show wpAny _ _ (call (.ref C) us) _ _ _
  obtain ⟨hp, gs, dr, tk, os⟩ := s1
  have fresh : H1 (hp.objs.size + 1) = none := I1.hok.fresh (Nat.le_succ _)
  have hq := q1 _ fresh
  have there : ((hp.push (PySem.W.kdv_tup us)).push (PySem.HandSPX.excO C hp.objs.size)).get? (hp.objs.size + 1) = some (PySem.HandSPX.excO C hp.objs.size) := by heap_get
  have J : Inv X pins σ (upd H1 (hp.objs.size + 1) (exo (hp.objs.size + 1) C none)) ⟨(hp.push (PySem.W.kdv_tup us)).push (PySem.HandSPX.excO C hp.objs.size), gs, dr, tk, os⟩ :=
    I1.laid (t' := tk) (fun b o z => Heap.get?_push_of_some _ (Heap.get?_push_of_some _ z)) (Nat.le_succ _) (exo_ok there)
  have r2 : Vals (V.ref (hp.objs.size + 1) :: vs) (Value.ref (hp.objs.size + 1) :: us) := .cons rfl r1
  have hl : (Value.ref (hp.objs.size + 1) :: us).length = ps.length := r2.length.symm.trans (F1.len _ _ _ _ hq)
  have hus : us.length ≤ sizeLine := by rw [← Paired.length r1, sizeLine_eq]; omega
  have bnd := hb ⟨(hp.push (PySem.W.kdv_tup us)).push (PySem.HandSPX.excO C hp.objs.size), gs, dr, tk, os⟩ (Value.ref (hp.objs.size + 1) :: us) J.kIn (by rw [List.append_nil]; exact hl)
  rw [List.append_nil] at bnd
  refine wpAny_call (PySem.HandSPX.call_own F.excBase_ValueError (fun Y => PySem.HandSPX.refsVE_contains Y bm hbm) (I1.kIn _ _ hC) (PySem.W.looks_findIn I1.kIn iC) (fun self => PySem.W.bind_fn I1.kIn self tI) hus
    (codeAny_mono (F1.run _ X.stack _ _ ⟨Value.ref (hp.objs.size + 1) :: us, []⟩ (Value.ref (hp.objs.size + 1) :: us) _ _ E0 (hr.make C us []) (J.env0.make C us []) bnd r2 hq) fun res s' back => ?_))
  rcases res with er | fl
  · exact hx pins σ _ _ er s' J back
  · rcases fl with _ | _ | _ | u
    · exact False.elim back
    · exact False.elim back
    · exact False.elim back
    · obtain ⟨v, H2, J2, rv, ev, q2⟩ := J.after back
      subst ev
      exact ⟨rv, ⟨V.ref (hp.objs.size + 1), H2, J2, rfl, q2⟩⟩
/-- C(), a class without own __init__ -/
theorem pe_exc0 {C : Addr} {bmB : List Value} {B newId initId : String} {x : Str} {p pos : Pos} (F : ExcBaseFacts B newId initId bmB) (hi : PySem.W.excIn X.K C bmB newId = true) (gC : X.mg x = some (.ref C)) (kC : PySem.W.keepIn X.K (.ref C) = true) (hg : Gl X x) (hdb : (x == ("__debug__" : Str)) = false := by decide) :
    PE X (.Call (.Name x p) [] [] pos) (fun _ H Q => ∀ a, H a = none → Q (.ref a) (upd H a (ExO (.ref C) a))) := by
  refine ⟨fun pins s σ H Q I h => ?_⟩
  refine wpAny_Call_Name_kw (ld_glob I hg gC ?_ hdb)
  refine PySem.W.callWith_K0 I.kIn kC ?_
  show wpAny _ _ (call (.ref C) []) _ _ _
  obtain ⟨bm, N, nm, qn, bs, hdct, sn, sub, ab, col, dd, k0, k1, k2, k3, k5, mN, hC, hN, hni, T⟩ := exc_obj I.kIn hi
  refine wpAny_call_exc_subT F T hC hN hni (fun h' a hm => ?_) (by show 0 ≤ sizeLine; exact Nat.zero_le _)
  have gone : H a = none := I.hok.gone hm.new
  obtain ⟨t, ht, _, _⟩ := hm.there
  exact ⟨.ref a, upd H a (ExO (.ref C) a), I.laidN hm.keeps hm.new gone (exO_ok ht ⟨rfl, rfl⟩ rfl rfl rfl (by simp)), rfl, h a gone⟩
/-- self.value = value, the whole of an __init__ -/
def sp_init (K : PySem.W.Frag) (C : Addr) (f : Str) : Sp := fun vs H Q _ => ∃ (a : Addr) (y : V), vs = [.ref a, y] ∧ H a = some (exo a C none) ∧ ∀ dx, H dx = none → dx ≠ a → Q .non (upd (upd H dx (exd dx [(f, y)])) a (exo a C (some dx)))
/-- C(e) read by what stands behind it -/
theorem mkX_read {K : PySem.W.Frag} {C : Addr} {f : Str} {ta : TA} {σ : L2.St} {H : Hp} {Q : VK} (h : ta σ H fun vs H1 => ∃ y, vs = [y] ∧ ∀ a H2, Same H1 H2 → H1 a = none → XAt H2 a C (some [(f, y)]) → Q (.ref a) H2)
    (mono : ∀ (R R' : List V → Hp → Prop), (∀ vs H1, R vs H1 → R' vs H1) → ta σ H R → ta σ H R') : tMkX C (sp_init K C f) ta σ H Q := by
  refine mono _ _ ?_ h
  rintro vs H1 ⟨y, rfl, q⟩
  refine ⟨by simp, fun a na => ⟨a, y, rfl, upd_same, fun dx ndx ne => ⟨rfl, q a _ ?_ na (.full upd_same ?_)⟩⟩⟩
  · intro b o eb
    have h1 : b ≠ a := ne_of_none eb na
    have h2 : (upd H1 a (exo a C none)) b = some o := by rw [upd_ne h1]; exact eb
    rw [upd_ne h1, upd_ne (ne_of_none h2 ndx), upd_ne h1]
    exact eb
  · rw [upd_ne ne]; exact upd_same
end
end MB

set_option maxHeartbeats 4000000
namespace MB
open PySem PySem.Spec PyProof.Rows L2
/-- the thing at sysModules, tracked as it stands: a new thing then stands elsewhere -/
def sysO (oY : Obj) : HO := .frz oY (.ext fun h => h.get? sysModules = some oY)
theorem law_callS {P : Program} {w : World} {K : PySem.W.Frag} {mg mb : Str → Option Value} {k : Nat} {fa a : Addr} {fd : FuncData} {x : Str} {sp : Sp} {s₁ : Shared} {vs : List Value} {ns : List Int} {oY : Obj}
    (hKs : K.lookup sysModules = none) (hsy : s₁.heap.get? sysModules = some oY) (hna : a ≠ sysModules) (KX : K.In s₁.heap) (hns : s₁.heap.Ns mainGlobals mg) (hb : s₁.heap.Ns builtinsNs mb)
    (hbb : ∀ x : Str, x ≠ "__name__" → mb x = bootBuiltins x) (hlim : s₁.heap.NoLimit) (hg : s₁.gens = #[])
    (ha : s₁.heap.get? a = some { cls := .type "list", data := .seq vs.toArray }) (hi : IntsAre vs ns) (hl : ns.length ≤ sizeLine) (hr : Room k callerA)
    (F : ∀ base : Heap, K.In base → base.Ns mainGlobals mg → FnG P w K mg base CX0 k fa fd [x] sp) (hbind : ∀ (s : Shared) (u : Value), BindsTo s fd ⟨[u], []⟩ [(x, u)])
    (hsp : ∀ (H : Hp) (o : HO), SqL K H a (ns.map V.int) → H sysModules = some o → sp [.ref a] H (fun v _ => v = .bl true) fun _ _ _ => False) :
    codeAny (model P w) callerA (.call (.ref fa) ⟨[.ref a], []⟩) (fun r s' => r = .ok (.ret (.bool true)) ∧ OldK s₁.heap s'.heap ∧ s'.os = s₁.os ∧ AllBare s'.gens) s₁ := by
  let oS : Obj := { cls := .type "list", data := .seq vs.toArray }
  let H : Hp := fun b => if b = a ∧ K.lookup a = none then some (.frz oS (.lst (ns.map V.int))) else if b = sysModules then some (sysO oY) else none
  have Ha : K.lookup a = none → H a = some (.frz oS (.lst (ns.map V.int))) := fun hk => if_pos ⟨rfl, hk⟩
  have Hy : H sysModules = some (sysO oY) := (if_neg fun z => hna z.1.symm).trans (if_pos rfl)
  have rv := vals_ints hi
  have Hsome : ∀ {b : Addr} {o : HO}, H b = some o → (b = a ∧ o = .frz oS (.lst (ns.map V.int))) ∨ (b = sysModules ∧ o = sysO oY) := fun {b o} e => by
    by_cases c : b = a ∧ K.lookup a = none
    · have e' := (if_pos c).symm.trans e
      exact .inl ⟨c.1, (Option.some.inj e').symm⟩
    · by_cases c2 : b = sysModules
      · rw [c2, Hy] at e; exact .inr ⟨c2, (Option.some.inj e).symm⟩
      · have e' : H b = none := (if_neg c).trans (if_neg c2)
        rw [e'] at e; cases e
  have hfree : ∀ {b : Addr}, (b = a → K.lookup a ≠ none) → b ≠ sysModules → H b = none := fun {b} c c2 => (if_neg fun z => c z.1 z.2).trans (if_neg c2)
  have hS : SqL K H a (ns.map V.int) := by
    cases hk : K.lookup a with
    | none => exact .inl (.inr ⟨oS, Ha hk⟩)
    | some o =>
      have e := (KX a o hk).symm.trans ha
      cases e
      exact .inr ⟨_, vs.toArray, _, hk, rfl, rfl, rfl, by rw [List.size_toArray, hi.length]; exact hl, by simpa using rv⟩
  have hok : HOk P w H s₁.heap := fun b o e => by
    rcases Hsome e with ⟨rfl, rfl⟩ | ⟨rfl, rfl⟩
    · exact ⟨ha, by rw [List.length_map]; exact hl, vs, _, rv, ha⟩
    · exact ⟨hsy, hsy, ⟨_, hsy⟩, fun h1 h2 z kk => kk _ z⟩
  have notA : ∀ {b : Addr} {m : Str → Option Value}, s₁.heap.Ns b m → b ≠ a := fun {b m} ⟨o, es, ep, e, d, r⟩ z => by
    rw [z, ha] at e; cases e; cases d
  have ns_hid : ∀ {b : Addr} {m : Str → Option Value}, b ≠ sysModules → s₁.heap.Ns b m → (hidT s₁.heap H).Ns b m := fun {b m} hb x => by
    have h1 := notA x
    obtain ⟨o, es, ep, e, d, r⟩ := x
    exact ⟨o, es, ep, hidT_get e (hfree (fun z => absurd z h1) hb), d, r⟩
  have hKb : K.In (hidT s₁.heap H) := fun b o e => hidT_get (KX b o e) (hfree (fun z => by rw [z] at e; rw [e]; exact fun y => nomatch y) (fun z => by rw [z, hKs] at e; cases e))
  have hM : Mod K mg (hidT s₁.heap H) := ⟨hKb, ns_hid (by decide) hns, ⟨mb, ns_hid (by decide) hb, hbb⟩, let ⟨mc, h1, h2⟩ := hlim; ⟨mc, ns_hid (by decide) h1, h2⟩⟩
  have e0 : Env0 P w K mg (hidT s₁.heap H) callerA [] s₁ H := ⟨rfl, hM, fun b o e => of_hidT e, Nat.le_of_eq (hidT_size _ _), trivial, (fun b hb => absurd (show b ∈ ([] : List Addr) from hb) (by simp)), hok, .of_eq hg⟩
  refine codeAny_mono ((F _ hKb (ns_hid (by decide) hns)).run callerA rfl hr [] s₁ H ⟨[.ref a], []⟩ [.ref a] [.ref a] _ _ e0 (hbind s₁ (.ref a)) (.cons rfl .nil) (hsp H _ hS Hy)) fun r s' h => ?_
  rcases r with e | fl
  · exact False.elim h
  rcases fl with _ | _ | _ | u
  · exact False.elim h
  · exact False.elim h
  · exact False.elim h
  obtain ⟨v, H', os, bare, un, hok', r', q⟩ := h
  have q' : v = .bl true := q
  subst q'
  obtain rfl : u = Value.bool true := r'
  refine ⟨rfl, OldK.of_keep fun b o e => ?_, os, bare⟩
  cases hb' : H b with
  | none => exact un.keep b o e hb' (fun z => absurd (show b ∈ ([] : List Addr) from z) (by simp)) (by simp)
  | some u =>
    rcases Hsome hb' with ⟨rfl, rfl⟩ | ⟨rfl, rfl⟩
    · have e2 := (hok' _ _ (un.frzs _ oS _ hb')).1
      rw [ha] at e
      cases e
      exact e2
    · have e2 := (hok' _ _ (un.frzs _ oY _ hb')).1
      rw [hsy] at e
      cases e
      exact e2
theorem walk_ofS {l : PySem.W.OpenLaw} {n k : Nat} {q : Program} {loose : List Str} {XP : (Str → Option Value) → Heap → Prop} {YP : World → Heap → Prop} {d : DefRec} {K : Params → PySem.W.Frag} {sp : PySem.W.Frag → Sp} {x : Str}
    (hn : l.most = some n) (hn2 : n ≤ sizeLine) (hdf : d.params.defaults = []) (hr : Room k callerA) (him : importsNone q = true) (hKs : ∀ p, (K p).lookup sysModules = none)
    (hY : ∀ (w : World) (h : Heap), YP w h → (K w.params).In h)
    (F : ∀ (w : World) (mg : Str → Option Value) (fa : Addr) (h : Heap), (K w.params).In h → h.Ns mainGlobals mg → mg d.name = some (.ref fa) →
      ∃ fd : FuncData, (∀ (s : Shared) (u : Value), BindsTo s fd ⟨[u], []⟩ [(x, u)]) ∧
        ∀ base : Heap, (K w.params).In base → base.Ns mainGlobals mg → FnG l.prog w (K w.params) mg base CX0 k fa fd [x] (sp (K w.params)))
    (hsp : ∀ (K : PySem.W.Frag) (H : Hp) (a : Addr) (ns : List Int) (o : HO), ns.length ≤ n → SqL K H a (ns.map V.int) → H sysModules = some o → sp K [.ref a] H (fun v _ => v = .bl true) fun _ _ _ => False) :
    PySem.W.WalkO q loose XP YP l.row.toRowW d [] (fun f vs => PySem.call f vs) :=
  Att.attach_call hn hdf fun w s₀ s₁ mg mb fa o pm cd doc a vs ns G Y ho hd hcd hmg hobj hints hlen hg =>
    have KX := hY w _ Y
    let ⟨fd, hb, hF⟩ := F w mg fa _ KX G.T.g hmg
    let ⟨mm, hmm, _⟩ := (G.T.seer him).mods
    let ⟨oY, es, ep, eY, dY, _⟩ := hmm
    law_callS (hKs w.params) eY (fun z => by rw [z, eY] at hobj; cases hobj; cases dY) KX G.T.g G.T.b G.T.builtins G.T.nolimit hg hobj hints (Nat.le_trans hlen hn2) hr hF hb fun H o hS hy => hsp _ H a ns o hlen hS hy
end MB

set_option maxHeartbeats 4000000
namespace MB
open PySem PySem.Spec PyProof.Rows L2
/-! ### facts of own exception classes, each as one truth value -/
def excB (K : PySem.W.Frag) (D : Addr) : Bool :=
  decide (PySem.W.findIn K (.ref D) "__getattribute__" = some (some (.builtin "BaseException.__getattribute__"))) && (decide (PySem.W.findIn K (.ref D) "__getattr__" = some none) && (decide (PySem.W.subIn K (.ref D) (.type "BaseException") = some true) && (PySem.W.hasDictIn K D &&
  (decide (PySem.W.findIn K (.ref D) "__class__" = some (some (.builtin "object.__class__"))) && (decide (PySem.W.specialIn K (.builtin "object.__class__") "__get__" = some (some (.builtin "getset_descriptor.__get__"))) && (decide (PySem.W.takesIn K (.builtin "object.__class__") = some true) && decide (PySem.W.mroIn K D (.type "object") = some true)))))))
theorem excB_ok {K : PySem.W.Frag} {D : Addr} (h : excB K D = true) : ExcC K D ∧ XfC K D := by
  unfold excB at h
  simp only [Bool.and_eq_true, decide_eq_true_eq] at h
  obtain ⟨h1, h2, h3, h4, h5, h6, h7, h8⟩ := h
  exact ⟨⟨h1, h2, h3, h4, h5, h6, h7, h8⟩, ⟨h1, h2, h3, h4⟩⟩
def oexB (K : PySem.W.Frag) (C fI : Addr) (f : Str) : Bool :=
  decide (PySem.W.findIn K (.ref C) "__setattr__" = some (some (.builtin "object.__setattr__"))) && (decide (PySem.W.subIn K (.ref C) (.type "BaseException") = some true) && (decide (PySem.W.typeIn K (.ref C) = some (.type "type")) && (PySem.W.keepIn K (.ref C) &&
  (decide (PySem.W.findIn K (.ref C) f = some none) && (decide (PySem.W.typeIn K (.ref fI) = some (.type "function")))))))
theorem oexB_ok {K : PySem.W.Frag} {C fI : Addr} {f : Str} (h : oexB K C fI f = true) : PySem.W.findIn K (.ref C) "__setattr__" = some (some (.builtin "object.__setattr__")) ∧ PySem.W.subIn K (.ref C) (.type "BaseException") = some true ∧ PySem.W.typeIn K (.ref C) = some (.type "type") ∧ PySem.W.keepIn K (.ref C) = true ∧ PySem.W.findIn K (.ref C) f = some none ∧ PySem.W.typeIn K (.ref fI) = some (.type "function") := by
  unfold oexB at h
  simpa only [Bool.and_eq_true, decide_eq_true_eq] using h
/-- each is an instance of itself alone among them, of the base m, and of ValueError -/
def kitB (K : PySem.W.Frag) (cs : List Addr) (m : Addr) : Bool :=
  cs.all fun c => (cs.all fun d => decide (PySem.W.kitOne K (.ref c) (.ref d) = some (c == d))) && (decide (PySem.W.kitOne K (.ref c) (.ref m) = some true) && decide (PySem.W.kitOne K (.ref c) (.type "ValueError") = some true))
theorem kitB_ok {K : PySem.W.Frag} {cs : List Addr} {m : Addr} (h : kitB K cs m = true) {c : Addr} (hc : c ∈ cs) : (∀ d, d ∈ cs → PySem.W.kitOne K (.ref c) (.ref d) = some (c == d)) ∧ PySem.W.kitOne K (.ref c) (.ref m) = some true ∧ PySem.W.kitOne K (.ref c) (.type "ValueError") = some true := by
  unfold kitB at h
  have h1 := List.all_eq_true.mp h c hc
  simp only [Bool.and_eq_true, decide_eq_true_eq, List.all_eq_true] at h1
  exact h1
def nodupB (cs : List Addr) : Bool := decide cs.Nodup

/-- the same from the lines of ancestors alone -/
def kitT (l : List (Addr × List Value)) (m : Addr) : Bool :=
  l.all fun c => !c.2.isEmpty && ((l.all fun d => decide ((c.1 = d.1 ∨ c.2.contains (.ref d.1) = false))) && (c.2.contains (.ref m) && c.2.contains (.type "ValueError")))
theorem kitOne_self {K : PySem.W.Frag} {v : Value} : PySem.W.kitOne K v v = some true := by
  unfold PySem.W.kitOne
  rw [if_pos (beq_self_eq_true v)]
theorem kitOne_ref {K : PySem.W.Frag} {c d : Addr} {cd dd : ClassData} (hn : c ≠ d) (h : PySem.W.clsIn K c = some cd) (he : cd.mro.isEmpty = false) (g : PySem.W.clsIn K d = some dd) (gt : PySem.W.typeIn K (.ref d) = some (.type "type")) :
    PySem.W.kitOne K (.ref c) (.ref d) = some (cd.mro.contains (.ref d)) := by
  unfold PySem.W.kitOne
  have e : ¬ ((Value.ref c == Value.ref d) = true) := fun z => by
    have z2 : Value.ref c = Value.ref d := beq_iff_eq.mp z
    cases z2; exact hn rfl
  rw [if_neg e]
  unfold PySem.W.kitCls
  dsimp only
  rw [g, gt, if_pos (by simp)]
  show PySem.W.mroIn K c (.ref d) = _
  unfold PySem.W.mroIn
  rw [h]
  show (if cd.mro.isEmpty = true then none else some (cd.mro.contains (.ref d))) = _
  rw [he]; rfl
theorem kitOne_ve {K : PySem.W.Frag} {c : Addr} {cd : ClassData} (h : PySem.W.clsIn K c = some cd) (he : cd.mro.isEmpty = false) :
    PySem.W.kitOne K (.ref c) (.type "ValueError") = some (cd.mro.contains (.type "ValueError")) := by
  unfold PySem.W.kitOne
  have e : ¬ ((Value.ref c == Value.type "ValueError") = true) := fun z => by
    have z2 : Value.ref c = Value.type "ValueError" := beq_iff_eq.mp z
    cases z2
  rw [if_neg e]
  unfold PySem.W.kitCls
  dsimp only
  rw [if_pos (by decide +kernel)]
  show PySem.W.mroIn K c (.type "ValueError") = _
  unfold PySem.W.mroIn
  rw [h]
  show (if cd.mro.isEmpty = true then none else some (cd.mro.contains (.type "ValueError"))) = _
  rw [he]; rfl
theorem kitB_mk {K : PySem.W.Frag} {m : Addr} {md : ClassData} (l : List (Addr × ClassData)) (h : ∀ p, p ∈ l → PySem.W.clsIn K p.1 = some p.2 ∧ PySem.W.typeIn K (.ref p.1) = some (.type "type"))
    (hm : PySem.W.clsIn K m = some md) (tm : PySem.W.typeIn K (.ref m) = some (.type "type")) (t : kitT (l.map fun p => (p.1, p.2.mro)) m = true) : kitB K (l.map (·.1)) m = true := by
  unfold kitB
  unfold kitT at t
  rw [List.all_eq_true] at t ⊢
  intro c hc
  obtain ⟨p, hp, rfl⟩ := List.mem_map.mp hc
  have tp := t _ (List.mem_map.mpr ⟨p, hp, rfl⟩)
  simp only [Bool.and_eq_true, decide_eq_true_eq, List.all_eq_true] at tp
  obtain ⟨t1, t2, t3, t4⟩ := tp
  have t1' : p.2.mro.isEmpty = false := by simpa using t1
  simp only [Bool.and_eq_true, decide_eq_true_eq, List.all_eq_true]
  refine ⟨fun d hd => ?_, ?_, ?_⟩
  · obtain ⟨q, hq, rfl⟩ := List.mem_map.mp hd
    by_cases z : p.1 = q.1
    · rw [z, kitOne_self]; simp
    · have := t2 _ (List.mem_map.mpr ⟨q, hq, rfl⟩)
      rcases this with e | e
      · exact absurd e z
      · rw [kitOne_ref z (h p hp).1 t1' (h q hq).1 (h q hq).2, e]
        have : (p.1 == q.1) = false := by simpa using z
        rw [this]
  · by_cases z : p.1 = m
    · rw [z, kitOne_self]
    · rw [kitOne_ref z (h p hp).1 t1' hm tm, t3]
  · rw [kitOne_ve (h p hp).1 t1', t4]
end MB

set_option maxHeartbeats 4000000
namespace MB
open PySem PySem.Spec PyProof.Rows L2
/-! ### a caught exception is kept: its object comes among what is tracked -/
theorem inv_adopt {X : Cx} {pins : List (Addr × Obj)} {σ : L2.St} {H : Hp} {s : Shared} {a : Addr} {o : HO} (I : Inv X pins σ H s)
    (na : H a = none) (n0 : a ∉ X.ex → X.s_0.heap.get? a = none) (nL : a ≠ X.env.locals) (nC : ∀ x c, X.env.cells.lookup x = some c → c ≠ a) (nP : ∀ p ∈ X.pn ++ pins, p.1 ≠ a)
    (new : ObjOk X.prog X.w (upd H a o) s.heap a o) : Inv X pins σ (upd H a o) s := by
  have ne : ∀ b u, H b = some u → b ≠ a := fun b u q z => by rw [z, na] at q; cases q
  have up : ∀ b u, H b = some u → upd H a o b = some u := fun b u q => by rw [upd_ne (ne b u q)]; exact q
  have no : ∀ b, b ≠ a → H b = none → upd H a o b = none := fun b z q => by rw [upd_ne z]; exact q
  have B := I.base
  refine ⟨I.ok, I.os, I.bare, ⟨B.keep, B.slot, fun b ob q n x => ?_, B.there, fun b xs q => up _ _ (B.tups b xs q), fun b ob u q => up _ _ (B.frzs b ob u q), fun b ps q => ?_⟩, I.loc, I.cell, no _ (Ne.symm nL) I.free, fun x c q => no _ (nC x c q) (I.freeC x c q), fun p hp => ?_, fun b u q => ?_, I.len⟩
  · refine no _ (fun z => ?_) (B.free b ob q n x)
    rw [z] at q x
    rw [n0 x] at q; cases q
  · obtain ⟨more, e⟩ := B.tbls b ps q
    exact ⟨more, up _ _ e⟩
  · obtain ⟨p1, p2, p3⟩ := I.pin p hp
    exact ⟨p1, no _ (nP p hp) p2, p3⟩
  · by_cases z : b = a
    · rw [z, upd_same] at q
      cases q
      rw [z]
      exact new
    · rw [upd_ne z] at q
      exact (I.hok b u q).stay (fun c v _ e => e) (fun c e => up c _ e) fun c _ e => up c _ e

/-- what the catch wishes: the class is one that is caught; behind the suite the error stays, tracked -/
def wKept (K : PySem.W.Frag) (c : Value) (i : Nat) (ts : Addr → Value → Option Addr → TS) (D : Ends) : WX := fun cls d σ H =>
  PySem.W.exmOne K cls c = some true ∧ ∀ a, H a = none →
    ts a cls d { nx := fun σ' H' => D.nx (σ'.set i none) (upd H' a (KeO a cls d)), rt := fun _ _ => False, bk := fun _ _ => False, ct := fun _ _ => False } (σ.set i (some (.ref a))) H
section
variable {X : Cx} {x n : Str} {c : Value} {i : Nat} {body more : List Stmt} {st : Stmt} {np pos pos' : Pos} {tb : WX → TS} {ts : Addr → Value → Option Addr → TS}
theorem ps_try_kept (hst : X.stack = X.env :: X.outer) (hfm : X.env.frame = some X.env.locals)
    (hN : X.N.Nodup) (hi : X.N[i]? = some n)
    (hln : X.env.kindOf n = some .local) (hc : Names X x c)
    (hb : ∀ (W : WX) (pn : List (Addr × Obj)) (xe : Value → Shared → Prop), Takes (X.tr pn xe) W →
      PassesOwn (model X.prog X.w) X.A X.env xe → PSs (X.tr pn xe) body (tb W))
    (hsu : ∀ (a : Addr) (oe : Obj) (cls : Value) (d : Option Addr) (pn : List (Addr × Obj)), Zc cls d oe →
      (∃ vs, oe.data = .fields vs) → PSs (X.suite a ((a, oe) :: pn)) (st :: more) (ts a cls d)) :
    PS X (.Try body [.ExceptHandler (some (.Name x np)) (some n) (st :: more) pos'] [] [] pos)
      (fun D σ H => tb (wKept X.K c i ts D) D σ H) := by
  refine ⟨fun pins s σ H D I h => ?_⟩
  have okX := I.ok
  have frm : X.A.frames = some (X.env :: X.outer) := by rw [okX.frames, hst]
  refine wpAny_Try_except (wpAny_mono ((hb (wKept X.K c i ts D) (X.pn ++ pins) _ (fun u s1 xx => ?_) PassesOwn.looking).run [] s σ H D (I.toTry _) h) (fun f s1 q => ?_) (fun e s1 q => q))
  · obtain ⟨a, B, sI, pins', σ1, H1, cls, d, rfl, Jt, nb, up, sky, na, os, ag, hyes, hts⟩ := xx
    have J : Inv X pins σ1 H1 sI := Jt.ofTry okX
    rw [show (X.tr (X.pn ++ pins) _).stack = X.env :: X.outer from hst] at sky
    show wpAny (model X.prog X.w) X.A (noteFrame (.ref a) X.env) _ _ _
    refine Sky.land Zc.steady frm hfm sky fun h2 fl up2 => ?_
    have J2 : Inv X pins σ1 H1 { s1 with heap := h2 } := J.landed nb fl.1 (up.trans up2) os ag
    have Bn : B.get? a = none := fl.2.1
    obtain ⟨o2, vs2, g2, z2, d2⟩ := fl.there
    have offF : a ∉ frs (X.env :: X.outer) := fun hm => by
      obtain ⟨_, o', e', hnf⟩ := fl.2.2.1.mem hm
      rw [g2] at e'; cases e'
      exact hnf _ d2
    have offL : a ≠ X.env.locals := fun z => offF (List.mem_filterMap.mpr ⟨X.env, List.mem_cons_self, by rw [hfm, z]⟩)
    have offO : a ∉ X.fs := fun hm => by
      obtain ⟨e, he, q⟩ := List.mem_filterMap.mp hm
      exact offF (List.mem_filterMap.mpr ⟨e, List.mem_cons_of_mem _ he, q⟩)
    have offI : ∀ o, sI.heap.get? a = some o → False := fun o e => by
      have := nb a o e (by show a ∉ frs X.stack; rw [hst]; exact offF)
      rw [Bn] at this; cases this
    have n0 : a ∉ X.ex → X.s_0.heap.get? a = none := fun hx => by
      cases e : X.s_0.heap.get? a with
      | none => rfl
      | some o =>
        obtain ⟨o', e'⟩ := J.base.there a o e hx
        exact (offI _ e').elim
    have nC : ∀ x c, X.env.cells.lookup x = some c → c ≠ a := fun x c e z => by
      obtain ⟨v, q⟩ := J.cell x c e
      rw [z] at q
      obtain ⟨o, q1, _⟩ := q
      exact offI _ q1
    have nP : ∀ p ∈ X.pn ++ pins, p.1 ≠ a := fun p hp z => by
      have q := (J.pin p hp).1
      rw [z] at q
      exact offI _ q
    have S2 := J2.suite g2 d2 na offL offO
    refine wpAny_handleBy_cons (codeAny_handlers_test ?_) (by intro q; cases q)
    have ty : PySem.W.Looks (model X.prog X.w) h2 (typeOf (.ref a)) cls := fun _ _ _ _ k q =>
      wpAny_typeOf_ref (k _ _ g2) (by rw [z2.1]; exact q)
    have look := PySem.W.exm_one (M := model X.prog X.w) J2.kIn ty hyes
    have nam : ∀ {Q E : Value → Shared → Prop}, Q c { s1 with heap := h2 } →
        wpAny (model X.prog X.w) (X.A.mark (some (.ref a))) (eval (.Name x np) X.env) Q E { s1 with heap := h2 } := fun {Q E} q => by
      rcases hc with ⟨hg, hdb, hm | ⟨hm, hv, hnn⟩⟩
      · exact ld_glob (X := X.suite a ((a, o2) :: (X.pn ++ pins))) S2 hg hm q hdb
      · exact ld_blt (X := X.suite a ((a, o2) :: (X.pn ++ pins))) S2 hg hm hv q hnn hdb
    refine nam (look.here (codeAny_handlers_suite_as (HandSPX.lands_againZ fl fun h3 fl3 up3 => ?_)))
    have J3 : Inv X pins σ1 H1 { s1 with heap := h3 } := J.landed nb fl3.1 ((up.trans up2).trans up3) os ag
    obtain ⟨o3, vs3, g3, z3, d3⟩ := fl3.there
    have S3 := J3.suite g3 d3 na offL offO
    refine store_ok (X := X.suite a ((a, o3) :: (X.pn ++ pins))) (v := .ref a) S3 hN hi (.inl hln) rfl (fun s4 S4 => ?_) (.inr hln)
    refine wpAny_mono ((hsu a o3 cls d (X.pn ++ pins) z3 ⟨_, d3⟩).run [] s4 _ H1 _ S4 (hts a na)) (fun f s5 q => ?_) (fun _ _ z => z.elim)
    cases f with
    | next =>
      obtain ⟨σ5, H5, S5, q5⟩ := q
      obtain ⟨g5, n5, _⟩ := S5.pin (a, o3) (by simp [Cx.suite])
      exact gone_ok (inv_adopt (S5.unsuite okX) n5 n0 offL nC nP (keO_ok g5 z3.1 z3.2 d3)) hN hi hln fun s6 J6 => ⟨_, _, J6, q5⟩
    | brk => obtain ⟨_, _, _, z⟩ := q; exact z.elim
    | cont => obtain ⟨_, _, _, z⟩ := q; exact z.elim
    | ret u => obtain ⟨_, _, _, _, _, z⟩ := q; exact z.elim
  · cases f with
    | next => obtain ⟨_, _, J, z⟩ := q; exact wpAny_execs_nil ⟨_, _, J.ofTry okX, z⟩
    | brk => obtain ⟨_, _, J, z⟩ := q; exact ⟨_, _, J.ofTry okX, z⟩
    | cont => obtain ⟨_, _, J, z⟩ := q; exact ⟨_, _, J.ofTry okX, z⟩
    | ret u => obtain ⟨_, _, _, J, r, z⟩ := q; exact ⟨_, _, _, J.ofTry okX, r, z⟩
end
end MB

set_option maxHeartbeats 4000000
namespace MB
open PySem PySem.Spec PyProof.Rows L2
/-- a law's call: no repr is under way, sysModules is tracked, and so are the tables ts of code objects (cs: code object and table) -/
theorem law_callT {P : Program} {w : World} {K : PySem.W.Frag} {mg mb : Str → Option Value} {k : Nat} {fa a : Addr} {fd : FuncData} {x : Str} {sp : Sp} {s₁ : Shared} {vs : List Value} {ns : List Int} {oY : Obj} {cs : List (Addr × Addr)}
    (hKs : K.lookup sysModules = none) (hsy : s₁.heap.get? sysModules = some oY) (hyT : ∀ p ∈ cs, p.2 ≠ sysModules) (hna : a ≠ sysModules) (KX : K.In s₁.heap) (hns : s₁.heap.Ns mainGlobals mg) (hb : s₁.heap.Ns builtinsNs mb)
    (hbb : ∀ x : Str, x ≠ "__name__" → mb x = bootBuiltins x) (hlim : s₁.heap.NoLimit) (hg : s₁.gens = #[])
    (hT : ∀ p ∈ cs, s₁.heap.get? p.2 = some { cls := .none, data := .fields #[] }) (nT : ∀ p ∈ cs, K.lookup p.2 = none) (hC : ∀ p ∈ cs, PySem.W.CodeHd s₁.heap p.1 p.2) (hCy : ∀ p ∈ cs, p.1 ≠ sysModules)
    (hbm : ∃ (bm : Addr) (ob : Obj), mg "__builtins__" = some (.ref bm) ∧ bm ≠ builtinsNs ∧ s₁.heap.get? bm = some ob ∧ ob.cls = .type "module" ∧ ob.dict = some builtinsNs ∧ ob.data = .plain)
    (hyd : ∃ es ep, oY.data = .dict es ep)
    (ha : s₁.heap.get? a = some { cls := .type "list", data := .seq vs.toArray }) (hi : IntsAre vs ns) (hl : ns.length ≤ sizeLine) (hr : Room k callerA)
    (F : ∀ base : Heap, K.In base → base.Ns mainGlobals mg → (∀ p ∈ cs, LamX.TabB base mg p.1 p.2) → FnG P w K mg base CX0 k fa fd [x] sp) (hbind : ∀ (s : Shared) (u : Value), BindsTo s fd ⟨[u], []⟩ [(x, u)])
    (hsp : ∀ (H : Hp) (o : HO), SqL K H a (ns.map V.int) → H sysModules = some o → (∀ ps, o ≠ .tbl ps) → (∀ p ∈ cs, H p.2 = some (.tbl #[])) → sp [.ref a] H (fun v _ => v = .bl true) fun _ _ _ => False) :
    codeAny (model P w) callerA (.call (.ref fa) ⟨[.ref a], []⟩) (fun r s' => r = .ok (.ret (.bool true)) ∧ OldK s₁.heap s'.heap ∧ s'.os = s₁.os ∧ AllBare s'.gens) s₁ := by
  let oS : Obj := { cls := .type "list", data := .seq vs.toArray }
  let H : Hp := fun b => if b = a ∧ K.lookup a = none then some (.frz oS (.lst (ns.map V.int))) else if b = sysModules then some (sysO oY) else if b ∈ cs.map (·.2) then some (.tbl #[]) else none
  have isT : ∀ b : Addr, b ∈ cs.map (·.2) → s₁.heap.get? b = some { cls := .none, data := .fields #[] } ∧ K.lookup b = none ∧ b ≠ sysModules := fun b hb => by
    obtain ⟨p, hp, rfl⟩ := List.mem_map.mp hb
    exact ⟨hT p hp, nT p hp, hyT p hp⟩
  have aT : a ∉ cs.map (·.2) := fun z => by
    have q := (isT a z).1
    rw [ha] at q
    cases q
  have Ha : K.lookup a = none → H a = some (.frz oS (.lst (ns.map V.int))) := fun hk => if_pos ⟨rfl, hk⟩
  have Hy : H sysModules = some (sysO oY) := (if_neg fun z => hna z.1.symm).trans (if_pos rfl)
  have Ht : ∀ b, b ∈ cs.map (·.2) → H b = some (.tbl #[]) := fun b hb => (if_neg fun z => aT (by rw [← z.1]; exact hb)).trans ((if_neg (isT b hb).2.2).trans (if_pos hb))
  have rv := vals_ints hi
  have Hsome : ∀ {b : Addr} {o : HO}, H b = some o → (b = a ∧ o = .frz oS (.lst (ns.map V.int))) ∨ (b = sysModules ∧ o = sysO oY) ∨ (b ∈ cs.map (·.2) ∧ o = .tbl #[]) := fun {b o} e => by
    by_cases c : b = a ∧ K.lookup a = none
    · have e' := (if_pos c).symm.trans e
      exact .inl ⟨c.1, (Option.some.inj e').symm⟩
    · by_cases c2 : b = sysModules
      · rw [c2, Hy] at e; exact .inr (.inl ⟨c2, (Option.some.inj e).symm⟩)
      · by_cases c3 : b ∈ cs.map (·.2)
        · rw [Ht b c3] at e; exact .inr (.inr ⟨c3, (Option.some.inj e).symm⟩)
        · have e' : H b = none := (if_neg c).trans ((if_neg c2).trans (if_neg c3))
          rw [e'] at e; cases e
  have hfree : ∀ {b : Addr}, (b = a → K.lookup a ≠ none) → b ≠ sysModules → b ∉ cs.map (·.2) → H b = none := fun {b} c c2 c3 => (if_neg fun z => c z.1 z.2).trans ((if_neg c2).trans (if_neg c3))
  have hS : SqL K H a (ns.map V.int) := by
    cases hk : K.lookup a with
    | none => exact .inl (.inr ⟨oS, Ha hk⟩)
    | some o =>
      have e := (KX a o hk).symm.trans ha
      cases e
      exact .inr ⟨_, vs.toArray, _, hk, rfl, rfl, rfl, by rw [List.size_toArray, hi.length]; exact hl, by simpa using rv⟩
  have hok : HOk P w H s₁.heap := fun b o e => by
    rcases Hsome e with ⟨rfl, rfl⟩ | ⟨rfl, rfl⟩ | ⟨h1, rfl⟩
    · exact ⟨ha, by rw [List.length_map]; exact hl, vs, _, rv, ha⟩
    · exact ⟨hsy, hsy, ⟨_, hsy⟩, fun h1 h2 z kk => kk _ z⟩
    · exact (isT b h1).1
  have noD : ∀ {b : Addr} {o : Obj}, s₁.heap.get? b = some o → b ≠ sysModules → (∀ us n, o.data ≠ .seq us n) → o.data ≠ .fields #[] → H b = none := fun {b o} e c h1 h2 => hfree (fun z => by
      rw [z, ha] at e
      cases e
      exact (h1 _ _ rfl).elim) c fun z => by
      rw [(isT b z).1] at e
      cases e
      exact h2 rfl
  have ns_hid : ∀ {b : Addr} {m : Str → Option Value}, b ≠ sysModules → s₁.heap.Ns b m → (hidT s₁.heap H).Ns b m := fun {b m} hb x => by
    obtain ⟨o, es, ep, e, d, r⟩ := x
    exact ⟨o, es, ep, hidT_get e (noD e hb (fun us n z => by rw [d] at z; cases z) fun z => by rw [d] at z; cases z), d, r⟩
  have hKb : K.In (hidT s₁.heap H) := fun b o e => hidT_get (KX b o e) (hfree (fun z => by rw [z] at e; rw [e]; exact fun y => nomatch y) (fun z => by rw [z, hKs] at e; cases e) fun z => by rw [(isT b z).2.1] at e; cases e)
  have hM : Mod K mg (hidT s₁.heap H) := ⟨hKb, ns_hid (by decide) hns, ⟨mb, ns_hid (by decide) hb, hbb⟩, let ⟨mc, h1, h2⟩ := hlim; ⟨mc, ns_hid (by decide) h1, h2⟩⟩
  have TB : ∀ p ∈ cs, LamX.TabB (hidT s₁.heap H) mg p.1 p.2 := fun p hp => by
    have hTp := hT p hp
    refine ⟨?_, ?_, fun z => ?_⟩
    · obtain ⟨o, us, file, tf, flags, tg, inF, text, tt, e1, r1, r2, r3, r4⟩ := hC p hp
      refine ⟨o, us, file, tf, flags, tg, inF, text, tt, hidT_get e1 (noD e1 (hCy p hp) (fun us' n z => ?_) fun z => ?_), r1, r2, r3, r4⟩
      · rw [r2] at z; cases z
      · rw [r2] at z; cases z; simp at r3
    · obtain ⟨bm, ob, b1, b2, b3, b4, b5, b6⟩ := hbm
      have nY : bm ≠ sysModules := fun q => by
        obtain ⟨es, ep, hd⟩ := hyd
        rw [q, hsy] at b3
        cases b3
        rw [hd] at b6; cases b6
      have nG : bm ≠ mainGlobals := fun q => by
        obtain ⟨o, es, ep, e, hd, _⟩ := hns
        rw [q, e] at b3
        cases b3
        rw [hd] at b6; cases b6
      have nP : bm ≠ p.2 := fun q => by rw [q, hTp] at b3; cases b3; cases b6
      exact ⟨bm, ob, b1, b2, nG, nP, hidT_get b3 (noD b3 nY (fun us' n z => by rw [b6] at z; cases z) fun z => by rw [b6] at z; cases z), b4, b5, b6⟩
    · obtain ⟨o, es, ep, e, hd, _⟩ := hns
      rw [z, hTp] at e
      cases e
      cases hd
  have e0 : Env0 P w K mg (hidT s₁.heap H) callerA [] s₁ H := ⟨rfl, hM, fun b o e => of_hidT e, Nat.le_of_eq (hidT_size _ _), trivial, (fun b hb => absurd (show b ∈ ([] : List Addr) from hb) (by simp)), hok, .of_eq hg⟩
  refine codeAny_mono ((F _ hKb (ns_hid (by decide) hns) TB).run callerA rfl hr [] s₁ H ⟨[.ref a], []⟩ [.ref a] [.ref a] _ _ e0 (hbind s₁ (.ref a)) (.cons rfl .nil) (hsp H _ hS Hy (fun ps z => by unfold sysO at z; cases z) fun p hp => Ht _ (List.mem_map.mpr ⟨p, hp, rfl⟩))) fun r s' h => ?_
  rcases r with e | fl
  · exact False.elim h
  rcases fl with _ | _ | _ | u
  · exact False.elim h
  · exact False.elim h
  · exact False.elim h
  obtain ⟨v, H', os, bare, un, hok', r', q⟩ := h
  have q' : v = .bl true := q
  subst q'
  obtain rfl : u = Value.bool true := r'
  have key : ∀ b o, b ∉ cs.map (·.2) → s₁.heap.get? b = some o → s'.heap.get? b = some o := fun b o nb e => by
    cases hb' : H b with
    | none => exact un.keep b o e hb' (fun z => absurd (show b ∈ ([] : List Addr) from z) (by simp)) (by simp)
    | some u =>
      rcases Hsome hb' with ⟨rfl, rfl⟩ | ⟨rfl, rfl⟩ | ⟨h1, _⟩
      · have e2 := (hok' _ _ (un.frzs _ oS _ hb')).1
        rw [ha] at e
        cases e
        exact e2
      · have e2 := (hok' _ _ (un.frzs _ oY _ hb')).1
        rw [hsy] at e
        cases e
        exact e2
      · exact absurd h1 nb
  have grown : ∀ p ∈ cs, ∃ more : Array Value, s'.heap.get? p.2 = some { cls := .none, data := .fields more } := fun p hp => by
    obtain ⟨more, z⟩ := un.tbls p.2 #[] (Ht _ (List.mem_map.mpr ⟨p, hp, rfl⟩))
    exact ⟨_, hok' p.2 _ z⟩
  refine ⟨rfl, ⟨fun b o e => ?_, fun b o e => ?_⟩, os, bare⟩
  · by_cases hb : b ∈ cs.map (·.2)
    · obtain ⟨p, hp, rfl⟩ := List.mem_map.mp hb
      obtain ⟨more, hm⟩ := grown p hp
      rw [hT p hp] at e
      cases e
      exact .inr (.inl ⟨((hC p hp).tab (hT p hp)).isCodeTable, rfl, #[], more, rfl, by rw [Array.empty_append]; exact hm⟩)
    · exact .inl (key b o hb e)
  · by_cases hb : b ∈ cs.map (·.2)
    · obtain ⟨p, hp, rfl⟩ := List.mem_map.mp hb
      obtain ⟨more, hm⟩ := grown p hp
      exact ⟨_, hm⟩
    · exact ⟨o, key b o hb e⟩
theorem walk_ofT {l : PySem.W.OpenLaw} {n k : Nat} {q : Program} {loose : List Str} {XP : (Str → Option Value) → Heap → Prop} {YP : World → Heap → Prop} {d : DefRec} {K : Params → PySem.W.Frag} {sp : PySem.W.Frag → List (Addr × Addr) → Sp} {x : Str}
    (hn : l.most = some n) (hn2 : n ≤ sizeLine) (hdf : d.params.defaults = []) (hr : Room k callerA) (him : importsNone q = true) (hKs : ∀ p, (K p).lookup sysModules = none)
    (hY : ∀ (w : World) (h : Heap), YP w h → (K w.params).In h)
    (F : ∀ (w : World) (mg : Str → Option Value) (fa : Addr) (h : Heap), YP w h → (K w.params).In h → h.Ns mainGlobals mg → mg d.name = some (.ref fa) →
      ∃ (fd : FuncData) (cs : List (Addr × Addr)), (∀ p ∈ cs, h.get? p.2 = some { cls := .none, data := .fields #[] }) ∧ (∀ p ∈ cs, (K w.params).lookup p.2 = none) ∧ (∀ p ∈ cs, PySem.W.CodeHd h p.1 p.2) ∧ (∀ p ∈ cs, p.1 ≠ sysModules ∧ p.2 ≠ sysModules) ∧ (∀ (s : Shared) (u : Value), BindsTo s fd ⟨[u], []⟩ [(x, u)]) ∧
        (∀ base : Heap, (K w.params).In base → base.Ns mainGlobals mg → (∀ p ∈ cs, LamX.TabB base mg p.1 p.2) → FnG l.prog w (K w.params) mg base CX0 k fa fd [x] (sp (K w.params) cs)) ∧
        ∀ (H : Hp) (a : Addr) (ns : List Int) (o : HO), ns.length ≤ n → SqL (K w.params) H a (ns.map V.int) → H sysModules = some o → (∀ ps, o ≠ .tbl ps) → (∀ p ∈ cs, H p.2 = some (.tbl #[])) → sp (K w.params) cs [.ref a] H (fun v _ => v = .bl true) fun _ _ _ => False) :
    PySem.W.WalkO q loose XP YP l.row.toRowW d [] (fun f vs => PySem.call f vs) :=
  Att.attach_call hn hdf fun w s₀ s₁ mg mb fa o pm cd doc a vs ns G Y ho hd hcd hmg hobj hints hlen hg =>
    have KX := hY w _ Y
    let ⟨fd, cs, hT, nT, hC, hy, hb, hF, hsp⟩ := F w mg fa _ Y KX G.T.g hmg
    let ⟨mm, hmm, _⟩ := (G.T.seer him).mods
    let ⟨oY, es, ep, eY, dY, _⟩ := hmm
    law_callT (hKs w.params) eY (fun p hp => (hy p hp).2) (fun z => by rw [z, eY] at hobj; cases hobj; cases dY) KX G.T.g G.T.b G.T.builtins G.T.nolimit hg hT nT hC (fun p hp => (hy p hp).1) G.T.bmain ⟨es, ep, dY⟩ hobj hints (Nat.le_trans hlen hn2) hr hF hb fun H o hS hyy hoo hTT => hsp H a ns o hlen hS hyy hoo hTT
end MB

set_option maxHeartbeats 4000000
namespace MB
open PySem PySem.Spec PyProof.Rows L2
/-! ### what a def or a lambda lets out, its caller takes -/
theorem takesX {P : Program} {w : World} {K : PySem.W.Frag} {mg : Str → Option Value} {base : Heap} {N : List Str} {qual : Str} {scope : Scope} {f : Addr} {cd : Value} {A : Around} {outer : List Env} {s : Shared} {H : Hp} {E : XK} :
    Takes (cxOf (L2.CX P w) P w K mg base N qual scope f cd A outer s H E) (fun cls d _ H => E cls d H) := takes_of rfl rfl rfl rfl
theorem passX {P : Program} {w : World} {K : PySem.W.Frag} {mg : Str → Option Value} {base : Heap} {N : List Str} {qual : Str} {scope : Scope} {f : Addr} {cd : Value} {A : Around} {outer : List Env} {s : Shared} {H : Hp} {E : XK} :
    Passes (L2.CX P w) (cxOf (L2.CX P w) P w K mg base N qual scope f cd A outer s H E) E := passes_call takesX fun _ _ _ _ h => h
theorem takesL {X : Cx} {A : Around} {outer : List Env} {s : Shared} {H : Hp} {E : XK} {scope : Scope} {f c' : Addr} : Takes (LamX.lamCx X A outer s H E scope f c') (fun cls d _ H => E cls d H) := takes_of rfl rfl rfl rfl
theorem passL' {X : Cx} {A : Around} {outer : List Env} {s : Shared} {H : Hp} {E : XK} {scope : Scope} {f c' : Addr} : Passes (L2.CX X.prog X.w) (LamX.lamCx X A outer s H E scope f c') E := passes_call takesL fun _ _ _ _ h => h
/-- a def that may raise, called where it does not -/
theorem passN {P : Program} {w : World} {X : Cx} : Passes (L2.CX P w) X E0 := fun _ _ _ _ _ _ _ ⟨_, _, _, _, _, _, _, _, _, _, _, _, h⟩ => h.elim
/-! ### raise C(value) -/
theorem raise_read {K : PySem.W.Frag} {C : Addr} {ta : TA} {σ : L2.St} {H : Hp} {W : XK} (h : ta σ H fun vs H1 => ∃ y, vs = [y] ∧ ∀ d H2, Same H1 H2 → H1 d = none → H2 d = some (.xd [("value", y)]) → W (.ref C) (some d) H2)
    (mono : ∀ (R R' : List V → Hp → Prop), (∀ vs H1, R vs H1 → R' vs H1) → ta σ H R → ta σ H R') : tMkO C (sp_init K C "value") [] ta σ H W := by
  refine mono _ _ ?_ h
  rintro vs H1 ⟨y, rfl, q⟩
  refine ⟨by simp, fun a na => ⟨a, y, rfl, upd_same, fun dx ndx ne => ⟨rfl, dx, [("value", y)], upd_same, ?_, ?_, ?_⟩⟩⟩
  · rw [upd_ne ne]; exact upd_same
  · by_cases e : dx = a
    · exact absurd e ne
    · rw [upd_ne e] at ndx; exact ndx
  · have nd : H1 dx = none := by rw [upd_ne ne] at ndx; exact ndx
    refine q dx _ (fun b o eb => ?_) nd upd_same
    have h1 : b ≠ a := ne_of_none eb na
    have h2 : b ≠ dx := ne_of_none eb nd
    rw [upd_ne h2]
    unfold del
    rw [if_neg h1, upd_ne h1, upd_ne h2, upd_ne h1]
    exact eb
/-! ### what stays when a lambda is made -/
theorem extN_seq {K : PySem.W.Frag} {H H' : Hp} (e : LamX.ExtN H H') {a : Addr} {xs : List V} (h : SqL K H a xs) : SqL K H' a xs := by
  rcases h with (h | ⟨o, h⟩) | h
  · exact .inl (.inl (e _ _ h fun _ z => nomatch z))
  · exact .inl (.inr ⟨o, e _ _ h fun _ z => nomatch z⟩)
  · exact .inr h
theorem extN_tup {K : PySem.W.Frag} {H H' : Hp} (e : LamX.ExtN H H') {a : Addr} {xs : List V} (h : SqT K H a xs) : SqT K H' a xs := by
  rcases h with (h | ⟨o, h⟩) | h
  · exact .inl (.inl (e _ _ h fun _ z => nomatch z))
  · exact .inl (.inr ⟨o, e _ _ h fun _ z => nomatch z⟩)
  · exact .inr h
theorem Dq.extN {K : PySem.W.Frag} {H H' : Hp} (e : LamX.ExtN H H') {v : V} {d : PyData} (h : Dq K H v d) : Dq K H' v d := by
  refine Dq.rec (motive_1 := fun v d _ => Dq K H' v d) (motive_2 := fun vs ds _ => DqAll K H' vs ds) ?_ ?_ ?_ ?_ ?_ ?_ ?_ ?_ ?_ h
  · exact .nonq
  · intro b; exact .blq b
  · intro i; exact .intq i
  · intro x; exact .strq x
  · intro a xs ds hs hne _ ih; exact .lstq (extN_seq e hs) hne ih
  · intro a xs ds hs _ ih; exact .tupq (extN_tup e hs) ih
  · intro a kvs des he hk _ ih; exact .dctq (e _ _ he fun _ z => nomatch z) hk ih
  · exact .nil
  · intro v vs d ds _ _ h1 h2; exact .cons h1 h2
theorem tabs_but {T : List (Addr × Str)} {H H' : Hp} {a : Addr} {xs : List V} (t : LamX.Tabs T H) (b : But a H H') (h : H a = some (.lst xs)) : LamX.Tabs T H' := fun p hp => by
  obtain ⟨ps, h1, h2, h3⟩ := t p hp
  refine ⟨ps, b _ _ (fun z => by rw [z, h] at h1; cases h1) h1, h2, fun pos cv hc => ?_⟩
  obtain ⟨c, e1, e2⟩ := h3 pos cv hc
  refine ⟨c, e1, b _ _ (fun z => ?_) e2⟩
  rw [z, h] at e2
  have e3 := Option.some.inj e2
  unfold LamX.CodeO at e3
  cases e3
theorem Tabs.same {T : List (Addr × Str)} {H H' : Hp} (t : LamX.Tabs T H) (s : Same H H') : LamX.Tabs T H' := LamX.Tabs.ext t s
/-! ### bs.count(True) -/
theorem dpBs {K : PySem.W.Frag} {H : Hp} : ∀ (bs : List Bool), DpAll K H (bs.map V.bl) (bs.map PyData.bool)
  | [] => .nil
  | b :: bs => .cons (.bl b) (dpBs bs)
def rCountB (K : PySem.W.Frag) : V → List V → Hp → VK → Prop := fun x xs H Q => ∃ (a : Addr) (bs : List Bool), x = .ref a ∧ xs = [.bl true] ∧ SqL K H a (bs.map V.bl) ∧ Q (.int (bs.countP id : Nat)) H
theorem mt_countB {X : Cx} (hu : X.A.units + 65 < cLine) : MtR X "list.count" (rCountB X.K) := by
  intro pins s σ H x xs v us Q I rx rxs h
  obtain ⟨a, bs, rfl, rfl, hs, q⟩ := h
  cases rx
  cases rxs with
  | cons ry rt =>
    rename_i uy ut
    cases rt
    cases ry
    obtain ⟨its, rv, ⟨o, n, ho, hc, hdn, hdt⟩, hlen⟩ := I.list hs
    obtain ⟨as, h4⟩ := Dp.readsAll I (bs.map PyData.bool) _ its (dpBs bs) rv
    have pl : ∀ l : List Bool, PyData.plainAll (l.map PyData.bool) = true := fun l => by
      induction l with
      | nil => rfl
      | cons b l ih => simp [PyData.plainAll, PyData.plain, ih]
    have dp : ∀ l : List Bool, PyData.depthAll (l.map PyData.bool) = 0 := fun l => by
      induction l with
      | nil => rfl
      | cons b l ih => simp [PyData.depthAll, PyData.depth, ih]
    refine SeqAt.count_list_data (xs := bs.map PyData.bool) (vs := its.toArray) (d := .bool true) ⟨o, ho, hc, n, hdt⟩ (by simpa using h4) (.bool true) (pl bs) rfl (by rw [dp]; omega) ?_
    have e : (bs.map PyData.bool).countP (fun y => PyData.eqv y (.bool true)) = bs.countP id := by
      rw [List.countP_map]
      congr 1
      funext b
      cases b <;> rfl
    rw [e]
    exact ⟨.int (bs.countP id : Nat), H, I.tok _, ⟨_, rfl⟩, q⟩
end MB

set_option maxHeartbeats 4000000
namespace MB
open PySem PySem.Spec PyProof.Rows L2
/-! ### a lambda handed to a def, whose handler reads the def's own names: what the call lets out is told at the slots of the call -/
section
variable {X : Cx} {pins : List (Addr × Obj)} {σ : L2.St} {H : Hp} {s : Shared}
theorem pe_actE {CXg : CXT} {Eg : XK} {Ng : List Str} {qg : Str} {sg : Scope} {g f c' : Addr} {cdg pm ctv : Value} {params : Arguments} {body : Expr} {scope : Scope} {k i : Nat} {a : Str} {pn : List (Addr × Obj)} {xe : Value → Shared → Prop} {W : WX} {E : XK} {tb : TE} {p1 p2 : Pos}
    (I : Inv X pins σ H s) (L : LamX.LamS X.env.scope scope) (hf : s.heap.get? f = some (PySem.W.kla_obj "<lambda>" (X.env.qual ++ "<lambda>") params body scope (cloFrom X.env.cells scope.names []) pm c' ctv)) (hfn : H f = none) (hfr : f ∉ frs X.stack)
    (bnd : bindArgs (PySem.W.kla_fn "<lambda>" (X.env.qual ++ "<lambda>") params body scope (cloFrom X.env.cells scope.names []) pm (.ref c') ctv) ⟨[], []⟩ = pure [])
    (tk : Takes ((cxOf CXg X.prog X.w X.K X.mg X.base Ng qg sg g cdg X.A X.stack s H Eg).tr pn xe) W) (hr : Room (k + 1) (X.A.deeper (envOfC qg sg s.heap.objs.size g cdg)))
    (bodyOk : ∀ (A : Around) (outer : List Env) (s : Shared) (H : Hp), Room k (A.deeper (LamX.lamEnv X scope s.heap.objs.size f c')) → PE (LamX.lamCx X A outer s H E scope f c') body tb)
    (hN : Ng[i]? = some a) (vis : Vis sg a) (hd : (a == ("__debug__" : Str)) = false := by decide) (hcd : (a == ("__classdict__" : Str)) = false := by decide) :
    PE ((cxOf CXg X.prog X.w X.K X.mg X.base Ng qg sg g cdg X.A X.stack s H Eg).tr pn xe) (.Call (.Name a p1) [] [] p2)
      (fun σ2 H2 Q => σ2[i]? = some (some (.ref f)) ∧ H2 c' = some (LamX.CodeO c' (X.env.qual ++ "<lambda>")) ∧ (∀ cls d H', E cls d H' → W cls d σ2 H') ∧ tb σ H2 Q) :=
  ⟨fun pins2 s2 σ2 H2 Q J ⟨hs, hc, hW, ht⟩ => wpAny_Call_Name_kw (thn ((pe_var (pos := p1) (i := i) hN vis hd hcd).run pins2 s2 σ2 H2 (fun v G => v = .ref f ∧ G = H2) J ⟨.ref f, hs, rfl, rfl⟩) fun u s1 ⟨v, H1, J1, r1, ev, eH⟩ => by
    subst ev eH
    obtain rfl : u = Value.ref f := r1
    have kf := J1.base.keep f _ hf hfn hfr (fun z => nomatch (show f ∈ ([] : List Addr) from z))
    have un : Un (frs X.stack) [] H H1 s.heap s1.heap := J1.base
    obtain ⟨⟨oc, vs, t, q1, q2, q3⟩, _, _⟩ := J1.hok c' _ hc
    have run : codeAny (model X.prog X.w) (X.A.deeper (envOfC qg sg s.heap.objs.size g cdg)) (.call (.ref f) ⟨[], []⟩) (CR (L2.CX X.prog X.w) (envOfC qg sg s.heap.objs.size g cdg :: X.stack) X.prog X.w H1 s1 Q E) s1 := by
      refine PySem.W.kla_callFunE hr.depth kf rfl L.co L.gen rfl ⟨c', oc, vs, t, rfl, q1, q2, q3⟩ ?_
      rw [bnd]
      refine wpAny_pure (wpAny_newFunctionEnv (fun y hy => (L.own y hy).2) (fun y hy => absurd hy (by simp)) (fun h₁ n1 n2 => ⟨J1.nolimit.fresh _ n2, show codeAny _ _ (.expr body (LamX.lamEnv X scope s1.heap.objs.size f c')) _ _ from ?_⟩) L.kind)
      have st : Inv (LamX.lamCx X (X.A.deeper (envOfC qg sg s.heap.objs.size g cdg)) (envOfC qg sg s.heap.objs.size g cdg :: X.stack) s1 H1 E scope f c') [] σ H1 { s1 with heap := h₁, toks := s1.toks + ([] : List (Str × Value)).length } :=
        LamX.lam_start2 I L J1.env0 hr.hd un n1 fun b o e => n2.extBut b o (Nat.ne_of_lt (Heap.lt_size e)) (Heap.get?_push_of_some _ e)
      exact PySem.W.kla_codeExpr (wpAny_mono ((bodyOk _ _ s1 H1 (hr.deeper _)).run [] _ _ H1 Q st ht) (fun v s' ⟨y, H', J', rv, z⟩ => ⟨y, H', J'.os, J'.bare, J'.base, J'.hok, rv, z⟩) fun e s' z => z)
    refine PySem.W.callWith_F0 ⟨_, _, _, _, kf⟩ (wpAny_call (codeAny_mono run fun r s' z => ?_))
    rcases r with e | fl
    · exact tk e s' (XE.of_call J1 (fun cls d H' h => hW cls d H' h) z)
    · rcases fl with _ | _ | _ | u
      · exact False.elim z
      · exact False.elim z
      · exact False.elim z
      · exact J1.after z)⟩
end
/-- the def that calls what it got, TT: what it makes of the lambda's reading -/
def GivesE (X : Cx) (Ng : List Str) (x : Str) (sg : Scope) (g : Addr) (cdg : Value) (bg : List Stmt) (a : Str) (q : Str) (TT : (XK → Hp → VK → Prop) → Hp → VK → Prop) : Prop :=
  ∀ (f c' : Addr) (s : Shared) (H : Hp) (Q : VK) (tl : XK → Hp → VK → Prop),
    (∀ (W : WX) (pn : List (Addr × Obj)) (xe : Value → Shared → Prop) (E : XK) (p1 p2 : Pos), Takes ((cxOf CX0 X.prog X.w X.K X.mg X.base Ng x sg g cdg X.A X.stack s H E0).tr pn xe) W →
      PE ((cxOf CX0 X.prog X.w X.K X.mg X.base Ng x sg g cdg X.A X.stack s H E0).tr pn xe) (.Call (.Name a p1) [] [] p2) (fun σ2 H2 Q => σ2[0]? = some (some (.ref f)) ∧ H2 c' = some (LamX.CodeO c' q) ∧ (∀ cls d H', E cls d H' → W cls d σ2 H') ∧ tl E H2 Q)) →
    H c' = some (LamX.CodeO c' q) → TT tl H Q →
    ∃ t, PSs (cxOf CX0 X.prog X.w X.K X.mg X.base Ng x sg g cdg X.A X.stack s H E0).nox bg t ∧ t { nx := fun _ H' => Q .non H', rt := Q } (L2.start Ng [.ref f]) H
section
variable {X : Cx}
/-- x(lambda: body) -/
theorem pe_lamE {T : List (Addr × Str)} {TT : (XK → Hp → VK → Prop) → Hp → VK → Prop} {x a : Str} {g c P : Addr} {k : Nat} {pg : Arguments} {bg : List Stmt} {sg : Scope} {dV kV doc pm cdv ct oc : Value} {an od : Option Addr} {osl : Array (Option Value)} {Ng : List Str}
    {params : Arguments} {body : Expr} {scope : Scope} {t : XK → TE} {p lpos pos : Pos} (hg : Gl X x) (hm : X.mg x = some (.ref g)) (hk : PySem.W.keepIn X.K (.ref g) = true)
    (lk : X.K.lookup g = some ⟨oc, od, .func (PySem.W.fnOf x x pg bg sg dV kV doc pm an cdv ct), osl⟩) (hcg : PySem.W.codeIn X.K cdv x = true) (hb : L2.Binds X.K (PySem.W.fnOf x x pg bg sg dV kV doc pm an cdv ct) [a] []) (Sg : FnScope Ng [a] sg) (hNg : Ng[0]? = some a) (hva : Vis sg a)
    (hG : GivesE X Ng x sg g cdv bg a (X.env.qual ++ "<lambda>") TT)
    (TB : LamX.TabB X.base X.mg c P) (hcode : X.env.code = .ref c) (hmT : (P, X.env.qual ++ "<lambda>") ∈ T) (hu : ∀ p ∈ T, p.1 = P → p.2 = X.env.qual ++ "<lambda>") (hr : Room (k + 2) X.A) (L : LamX.LamS X.env.scope scope) (hdef : defaultsOf params X.env = ([], []))
    (hbind : ∀ (q : Str) (cl : List (Str × Addr)) (pm cv ctv : Value), bindArgs (PySem.W.kla_fn "<lambda>" q params body scope cl pm cv ctv) ⟨[], []⟩ = pure [])
    (hbody : ∀ (A : Around) (outer : List Env) (s : Shared) (H : Hp) (E : XK) (f c' : Addr), Room k (A.deeper (LamX.lamEnv X scope s.heap.objs.size f c')) → PE (LamX.lamCx X A outer s H E scope f c') body (t E))
    (hdb : (x == ("__debug__" : Str)) = false := by decide) (hd : (a == ("__debug__" : Str)) = false := by decide) (hcd : (a == ("__classdict__" : Str)) = false := by decide) :
    PE X (.Call (.Name x p) [.Lambda params body scope lpos] [] pos) (LamX.tLam T TT t) :=
  ⟨fun pins s σ H Q I ⟨hT, h⟩ => wpAny_Call_Name_kw (ld_glob I hg hm (PySem.W.callWith_K (h₀ := X.base) I.ok.mod.kin hk
      (show wpAny _ _ (spliced ((false, eval (.Lambda params body scope lpos) X.env) :: backTo pos (starEach [] X.env))) _ _ s from Calls.spliced_cons (LamX.lam_make2 I TB hcode hmT hu hT hdef (L.has I.ok) fun f c' pm' ctv H1 s1 J eN T1 hf hfn hfr hco => Calls.spliced_nil ⟨J.kIn, by
        have run : codeAny (model X.prog X.w) X.A (.call (.ref g) ⟨[.ref f], []⟩) (CR CX0 X.stack X.prog X.w H1 s1 Q E0) s1 := by
          refine LamX.run_ofS (N := Ng) (ps := [a]) (us := [.ref f]) (vs := [.ref f]) lk hcg Sg hr J.env0 (hb s1 [.ref f] J.kIn rfl) (.cons rfl .nil) rfl fun hr' => ?_
          obtain ⟨t', g1, g2⟩ := hG f c' s1 H1 Q (fun E H' Q' => t E σ H' Q') (fun W pn xe E p1 p2 tk => pe_actE (i := 0) J L hf hfn hfr (hbind _ _ _ _ _) tk hr' (fun A outer s H hr2 => hbody A outer s H E f c' hr2) hNg hva hd hcd) hco (h H1 eN T1)
          exact ⟨t', g1.nox, g2⟩
        refine wpAny_call (codeAny_mono run fun r s2 z => ?_)
        rcases r with e | fl
        · exact (show False from z).elim
        · rcases fl with _ | _ | _ | u
          · exact False.elim z
          · exact False.elim z
          · exact False.elim z
          · exact J.after z⟩)) (by rfl) (by rfl)) hdb)⟩
end
end MB

set_option maxHeartbeats 4000000
namespace MB
open PySem PySem.Spec PyProof.Rows L2
/-! ### a lambda as a value: made, kept, called in a comprehension's block by a def that it is handed to -/
/-- what stands at f: a lambda made where the cells are cl, its code object at c' -/
def LamO (q : Str) (cl : List (Str × Addr)) (ar : Arguments) (bd : Expr) (sc : Scope) (f c' : Addr) : HO :=
  .ext fun h => ∃ pm ctv, h.get? f = some (PySem.W.kla_obj "<lambda>" q ar bd sc (cloFrom cl sc.names []) pm c' ctv)
theorem lamO_tbl {q : Str} {cl : List (Str × Addr)} {ar : Arguments} {bd : Expr} {sc : Scope} {f c' : Addr} (ps : Array Value) : LamO q cl ar bd sc f c' ≠ .tbl ps := fun z => by
  cases (show HO.ext _ = HO.tbl ps from z)
theorem lamO_lst {q : Str} {cl : List (Str × Addr)} {ar : Arguments} {bd : Expr} {sc : Scope} {f c' : Addr} (xs : List V) : LamO q cl ar bd sc f c' ≠ .lst xs := fun z => by
  cases (show HO.ext _ = HO.lst xs from z)
theorem lamO_ok {P : Program} {w : World} {H : Hp} {h : Heap} {q : Str} {cl : List (Str × Addr)} {ar : Arguments} {bd : Expr} {sc : Scope} {f c' : Addr} {pm ctv : Value}
    (e : h.get? f = some (PySem.W.kla_obj "<lambda>" q ar bd sc (cloFrom cl sc.names []) pm c' ctv)) : ObjOk P w H h f (LamO q cl ar bd sc f c') :=
  ⟨⟨pm, ctv, e⟩, ⟨_, e⟩, fun _ _ ⟨pm, ctv, e⟩ st => ⟨pm, ctv, st _ e⟩⟩
/-- a table with one row more -/
theorem tabs_more {T : List (Addr × Str)} {H : Hp} {P c' : Addr} {q : Str} {ps : Array Value} {ps' : Array Value} {pos : Pos} (hT : LamX.Tabs T H) (hm : (P, q) ∈ T) (hu : ∀ p ∈ T, p.1 = P → p.2 = q) (hP : H P = some (.tbl ps)) (nC : H c' = none)
    (e : ps'.toList = ps.toList ++ [rawInt pos.line, rawInt pos.col, .ref c']) : LamX.ExtN H (upd (upd H P (.tbl ps')) c' (LamX.CodeO c' q)) ∧ LamX.Tabs T (upd (upd H P (.tbl ps')) c' (LamX.CodeO c' q)) := by
  have ex : LamX.ExtN H (upd (upd H P (.tbl ps')) c' (LamX.CodeO c' q)) := fun b o eb nt => by
    have h1 : b ≠ c' := ne_of_none eb nC
    have h2 : b ≠ P := fun z => nt ps (by rw [z, hP] at eb; exact (Option.some.inj eb).symm)
    rw [upd_ne h1, upd_ne h2]; exact eb
  refine ⟨ex, fun p hp => ?_⟩
  have hPc : P ≠ c' := ne_of_none hP nC
  by_cases hb : p.1 = P
  · obtain ⟨ps0, a1, a2, a3⟩ := hT p hp
    rw [hb, hP] at a1
    cases a1
    rw [hu p hp hb] at a3 ⊢
    rw [hb]
    refine ⟨ps', by rw [upd_ne hPc, upd_same], by rw [e]; exact PySem.TriplesOk_snoc _ _ _ _ a2, fun p' cv hcv => ?_⟩
    rw [e] at hcv
    rcases LamX.among_app _ a2 hcv with z | z
    · obtain ⟨c0, e1, e2⟩ := a3 p' cv z
      exact ⟨c0, e1, ex _ _ e2 LamX.codeO_ne⟩
    · exact ⟨c', z, upd_same⟩
  · obtain ⟨ps0, a1, a2, a3⟩ := hT p hp
    refine ⟨ps0, by rw [upd_ne (ne_of_none a1 nC), upd_ne hb]; exact a1, a2, fun p' cv hcv => ?_⟩
    obtain ⟨cw, k1, k2⟩ := a3 p' cv hcv
    exact ⟨cw, k1, ex _ _ k2 LamX.codeO_ne⟩
section
variable {X : Cx} {σ : L2.St} {H : Hp} {s : Shared} {pins : List (Addr × Obj)}
/-- (lambda: body), known from now on -/
theorem lam_mk {T : List (Addr × Str)} {c P : Addr} {ar : Arguments} {bd : Expr} {sc : Scope} {pos : Pos} {E : Value → Shared → Prop} {Q : Value → Shared → Prop} (I : Inv X pins σ H s) (TB : LamX.TabB X.base X.mg c P) (hcode : X.env.code = .ref c)
    (hm : (P, X.env.qual ++ "<lambda>") ∈ T) (hu : ∀ p ∈ T, p.1 = P → p.2 = X.env.qual ++ "<lambda>") (hT : LamX.Tabs T H) (hdef : defaultsOf ar X.env = ([], [])) (hfree : ∀ y ∈ sc.names, y.2 = .free → ∃ c, X.env.cells.lookup y.1 = some c)
    (h : ∀ (f c' : Addr) (H1 : Hp) (s' : Shared), Inv X pins σ H1 s' → LamX.ExtN H H1 → LamX.Tabs T H1 → (∀ b, H1 b = none → H b = none) → H f = none → H1 f = some (LamO (X.env.qual ++ "<lambda>") X.env.cells ar bd sc f c') → H1 c' = some (LamX.CodeO c' (X.env.qual ++ "<lambda>")) → Q (.ref f) s') :
    wpAny (model X.prog X.w) X.A (eval (.Lambda ar bd sc pos) X.env) Q E s := by
  obtain ⟨ps, hP, okT, inT⟩ := hT _ hm
  have hP : H P = some (.tbl ps) := hP
  have oP : s.heap.get? P = some { cls := .none, data := .fields ps } := I.hok P _ hP
  have fin : ∀ (f c' : Addr) (H1 : Hp) (s' : Shared) (pm ctv : Value), Inv X pins σ H1 s' → LamX.ExtN H H1 → LamX.Tabs T H1 → (∀ b, H1 b = none → H b = none) → s.heap.objs.size ≤ s'.heap.objs.size → f = s'.heap.objs.size → H1 c' = some (LamX.CodeO c' (X.env.qual ++ "<lambda>")) →
      Q (.ref f) { s' with heap := s'.heap.push (PySem.W.kla_obj "<lambda>" (X.env.qual ++ "<lambda>") ar bd sc (cloFrom X.env.cells sc.names []) pm c' ctv) } := by
    rintro f c' H1 s' pm ctv J ex t1 dn hle rfl hco
    have n1 : H1 s'.heap.objs.size = none := J.hok.fresh (Nat.le_refl _)
    have sm := same_upd (o := LamO (X.env.qual ++ "<lambda>") X.env.cells ar bd sc s'.heap.objs.size c') n1
    exact h _ c' _ _ (J.laid (t' := s'.toks) (fun b o e => Heap.get?_push_of_some _ e) (Nat.le_refl _) (lamO_ok (Heap.get?_push_size _ rfl))) (ex.trans (.of sm)) (Tabs.same t1 sm) (fun b hb => dn b (sm.free hb)) (I.hok.fresh hle) upd_same (sm _ _ hco)
  apply PySem.W.kla_eval hdef
  rcases hc : codeAmong pos ps.toList with _ | cv
  · refine PySem.W.kla_makeFunction (c := c) (P := P) (mg := X.mg) (ps := ps) (closure_ok hfree) I.ok.glob (I.mod.glob.keeps I.bk) hcode (TB.code.keeps I.bk) oP okT hc TB.gP (TB.bm.keeps I.bk) fun c' ctv h' tk hx hge hlt hrec htb => ?_
    rcases hrec with ⟨c2, oc, vs, t, e2, hoc, hd, hv⟩; cases e2
    obtain ⟨ex, t1⟩ := tabs_more (pos := pos) (ps' := ps ++ #[rawInt pos.line, rawInt pos.col, .ref c']) hT hm hu hP (I.hok.fresh hge) (by simp)
    exact fin _ c' _ { s with heap := h', toks := tk } _ ctv (LamX.inv_table (t' := tk) (h' := h') (more := #[rawInt pos.line, rawInt pos.col, .ref c']) I hP (fun b o hb e => hx b o hb e) htb hge ⟨oc, vs, t, hoc, hd, hv⟩) ex t1 (fun b hb => by
      by_cases h1 : b = c'
      · rw [h1, upd_same] at hb; cases hb
      · rw [upd_ne h1] at hb
        by_cases h2 : b = P
        · rw [h2, upd_same] at hb; cases hb
        · rw [upd_ne h2] at hb; exact hb) (Nat.le_trans hge (Nat.le_of_lt hlt)) rfl upd_same
  · obtain ⟨c', e, hco⟩ := inT pos cv hc
    subst e
    exact PySem.W.kla_makeFunctionHit (c := c) (P := P) (mg := X.mg) (ps := ps) (closure_ok hfree) I.ok.glob (I.mod.glob.keeps I.bk) hcode (TB.code.keeps I.bk) oP okT hc (TB.bm.keeps I.bk) fun ctv h' tk hx hsz =>
      fin _ c' H { s with heap := h', toks := tk } _ ctv (I.kept fun b o e => hx b o e) (LamX.ExtN.refl H) hT (fun _ h => h) hsz rfl hco
end
/-- a lambda whose body is told by t -/
structure LamP (X : Cx) (k : Nat) (t : XK → TE) (ar : Arguments) (bd : Expr) (sc : Scope) : Prop where
  ls : LamX.LamS X.env.scope sc
  bnd : ∀ (q : Str) (cl : List (Str × Addr)) (pm cv ctv : Value), bindArgs (PySem.W.kla_fn "<lambda>" q ar bd sc cl pm cv ctv) ⟨[], []⟩ = pure []
  body : ∀ (A : Around) (outer : List Env) (s : Shared) (H : Hp) (E : XK) (f c' : Addr), Room k (A.deeper (LamX.lamEnv X sc s.heap.objs.size f c')) → PE (LamX.lamCx X A outer s H E sc f c') bd (t E)
def Lam (X : Cx) (k : Nat) (t : XK → TE) (f : Addr) (H : Hp) : Prop := ∃ c' ar bd sc, LamP X k t ar bd sc ∧ H f = some (LamO (X.env.qual ++ "<lambda>") X.env.cells ar bd sc f c') ∧ H c' = some (LamX.CodeO c' (X.env.qual ++ "<lambda>"))
theorem Lam.ext {X : Cx} {k : Nat} {t : XK → TE} {f : Addr} {H H' : Hp} (l : Lam X k t f H) (e : LamX.ExtN H H') : Lam X k t f H' :=
  let ⟨c', ar, bd, sc, p, h1, h2⟩ := l
  ⟨c', ar, bd, sc, p, e _ _ h1 lamO_tbl, e _ _ h2 LamX.codeO_ne⟩
theorem Lam.put {X : Cx} {k : Nat} {t : XK → TE} {f l : Addr} {H : Hp} {xs ys : List V} (g : Lam X k t f H) (e : H l = some (.lst xs)) : Lam X k t f (upd H l (.lst ys)) :=
  let ⟨c', ar, bd, sc, p, h1, h2⟩ := g
  ⟨c', ar, bd, sc, p, by rw [upd_ne (fun z => by rw [z, e] at h1; exact lamO_lst xs (Option.some.inj h1).symm)]; exact h1, by
    rw [upd_ne (fun z => by
      rw [z, e] at h2
      have e3 := Option.some.inj h2
      unfold LamX.CodeO at e3
      cases e3)]
    exact h2⟩
def tLamV (X : Cx) (k : Nat) (T : List (Addr × Str)) (t : XK → TE) : TE := fun σ H Q => LamX.Tabs T H ∧ ∀ f H1, LamX.ExtN H H1 → LamX.Tabs T H1 → (∀ b, H1 b = none → H b = none) → H f = none → Lam X k t f H1 → Q (.ref f) H1
theorem pe_lamV {X : Cx} {T : List (Addr × Str)} {c P : Addr} {k : Nat} {t : XK → TE} {ar : Arguments} {bd : Expr} {sc : Scope} {pos : Pos} (TB : LamX.TabB X.base X.mg c P) (hcode : X.env.code = .ref c)
    (hm : (P, X.env.qual ++ "<lambda>") ∈ T) (hu : ∀ p ∈ T, p.1 = P → p.2 = X.env.qual ++ "<lambda>") (hdef : defaultsOf ar X.env = ([], [])) (L : LamP X k t ar bd sc) : PE X (.Lambda ar bd sc pos) (tLamV X k T t) :=
  ⟨fun pins s σ H Q I ⟨hT, h⟩ => lam_mk I TB hcode hm hu hT hdef (L.ls.has I.ok) fun f c' H1 s' J ex t1 dn nf h1 h2 => ⟨.ref f, H1, J, rfl, h f H1 ex t1 dn nf ⟨c', ar, bd, sc, L, h1, h2⟩⟩⟩
section
variable {X : Cx} {σ : L2.St} {H : Hp} {s : Shared} {pins : List (Addr × Obj)}
/-- x(), in the def that was handed a lambda that is known -/
theorem pe_actV {CXg : CXT} {Eg : XK} {Ng : List Str} {qg : Str} {sg : Scope} {g f c' : Addr} {cdg : Value} {ar : Arguments} {bd : Expr} {sc : Scope} {k i : Nat} {a : Str} {pn : List (Addr × Obj)} {xe : Value → Shared → Prop} {W : WX} {E : XK} {t : XK → TE} {p1 p2 : Pos}
    (I : Inv X pins σ H s) (L : LamP X k t ar bd sc) (tk : Takes ((cxOf CXg X.prog X.w X.K X.mg X.base Ng qg sg g cdg X.A X.stack s H Eg).tr pn xe) W) (hr : Room (k + 1) (X.A.deeper (envOfC qg sg s.heap.objs.size g cdg)))
    (hN : Ng[i]? = some a) (vis : Vis sg a) (hd : (a == ("__debug__" : Str)) = false := by decide) (hcd : (a == ("__classdict__" : Str)) = false := by decide) :
    PE ((cxOf CXg X.prog X.w X.K X.mg X.base Ng qg sg g cdg X.A X.stack s H Eg).tr pn xe) (.Call (.Name a p1) [] [] p2) (fun σ2 H2 Q => σ2[i]? = some (some (.ref f)) ∧ H2 c' = some (LamX.CodeO c' (X.env.qual ++ "<lambda>")) ∧ (∀ cls d H', E cls d H' → W cls d σ2 H') ∧ H2 f = some (LamO (X.env.qual ++ "<lambda>") X.env.cells ar bd sc f c') ∧ t E σ H2 Q) :=
  ⟨fun pins2 s2 σ2 H2 Q J ⟨hs, hc, hW, hf, ht⟩ => wpAny_Call_Name_kw (thn ((pe_var (pos := p1) (i := i) hN vis hd hcd).run pins2 s2 σ2 H2 (fun v G => v = .ref f ∧ G = H2) J ⟨.ref f, hs, rfl, rfl⟩) fun u s1 ⟨v, H1, J1, r1, ev, eH⟩ => by
    subst ev eH
    have r2 : u = Value.ref f := r1
    subst r2
    obtain ⟨⟨pm, ctv, kf⟩, _, _⟩ := J1.hok f _ hf
    have un : Un (frs X.stack) [] H H1 s.heap s1.heap := J1.base
    obtain ⟨⟨oc, vs, tk', q1, q2, q3⟩, _, _⟩ := J1.hok c' _ hc
    have run : codeAny (model X.prog X.w) (X.A.deeper (envOfC qg sg s.heap.objs.size g cdg)) (.call (.ref f) ⟨[], []⟩) (CR (L2.CX X.prog X.w) (envOfC qg sg s.heap.objs.size g cdg :: X.stack) X.prog X.w H1 s1 Q E) s1 := by
      refine PySem.W.kla_callFunE hr.depth kf rfl L.ls.co L.ls.gen rfl ⟨c', oc, vs, tk', rfl, q1, q2, q3⟩ ?_
      rw [L.bnd]
      refine wpAny_pure (wpAny_newFunctionEnv (fun y hy => (L.ls.own y hy).2) (fun y hy => absurd hy (by simp)) (fun h₁ n1 n2 => ⟨J1.nolimit.fresh _ n2, show codeAny _ _ (.expr bd (LamX.lamEnv X sc s1.heap.objs.size f c')) _ _ from ?_⟩) L.ls.kind)
      have st : Inv (LamX.lamCx X (X.A.deeper (envOfC qg sg s.heap.objs.size g cdg)) (envOfC qg sg s.heap.objs.size g cdg :: X.stack) s1 H1 E sc f c') [] σ H1 { s1 with heap := h₁, toks := s1.toks + ([] : List (Str × Value)).length } :=
        LamX.lam_start2 I L.ls J1.env0 hr.hd un n1 fun b o e => n2.extBut b o (Nat.ne_of_lt (Heap.lt_size e)) (Heap.get?_push_of_some _ e)
      exact PySem.W.kla_codeExpr (wpAny_mono ((L.body _ _ s1 H1 E f c' (hr.deeper _)).run [] _ _ H1 Q st ht) (fun v s' ⟨y, H', J', rv, z⟩ => ⟨y, H', J'.os, J'.bare, J'.base, J'.hok, rv, z⟩) fun e s' z => z)
    refine PySem.W.callWith_F0 ⟨_, _, _, _, kf⟩ (wpAny_call (codeAny_mono run fun r s' z => ?_))
    rcases r with e | fl
    · exact tk e s' (XE.of_call J1 (fun cls d H' h => hW cls d H' h) z)
    · rcases fl with _ | _ | _ | u
      · exact False.elim z
      · exact False.elim z
      · exact False.elim z
      · exact J1.after z)⟩
end
/-- x(y) in a comprehension's block, y a lambda of the def around it -/
def tMetV (X : Cx) (k : Nat) (TT : (XK → Hp → VK → Prop) → Hp → VK → Prop) (i : Nat) (σ0 : L2.St) : TE := fun σ H Q => ∃ (f c' : Addr) (t : XK → TE) (ar : Arguments) (bd : Expr) (sc : Scope), σ[i]? = some (some (.ref f)) ∧ LamP X k t ar bd sc ∧
  H f = some (LamO (X.env.qual ++ "<lambda>") X.env.cells ar bd sc f c') ∧ H c' = some (LamX.CodeO c' (X.env.qual ++ "<lambda>")) ∧ TT (fun E H' Q' => H' f = some (LamO (X.env.qual ++ "<lambda>") X.env.cells ar bd sc f c') ∧ t E σ0 H' Q') H Q
section
variable {X : Cx} {pins : List (Addr × Obj)} {σ0 : L2.St} {H0 : Hp} {s0 : Shared}
theorem pe_metV {TT : (XK → Hp → VK → Prop) → Hp → VK → Prop} {x a y : Str} {g C : Addr} {k i : Nat} {pg : Arguments} {bg : List Stmt} {sg scope : Scope} {cl : List (Str × Addr)} {fp : List Addr} {dV kV doc pm cdv ct oc : Value} {an od : Option Addr} {osl : Array (Option Value)} {Ng : List Str} {p p' pos : Pos}
    (I : Inv X pins σ0 H0 s0) (hfp : ∀ b ∈ fp, FpOk X pins H0 b) (hg : Gl (X.blk s0 H0 scope (compEnvC scope cl C X.env) fp) x) (hm : X.mg x = some (.ref g)) (hk : PySem.W.keepIn X.K (.ref g) = true)
    (hcg : PySem.W.codeIn X.K cdv x = true) (lk : X.K.lookup g = some ⟨oc, od, .func (PySem.W.fnOf x x pg bg sg dV kV doc pm an cdv ct), osl⟩) (hb : L2.Binds X.K (PySem.W.fnOf x x pg bg sg dV kV doc pm an cdv ct) [a] []) (Sg : FnScope Ng [a] sg) (hNg : Ng[0]? = some a) (hva : Vis sg a)
    (hG : GivesE X Ng x sg g cdv bg a (X.env.qual ++ "<lambda>") TT) (hr : Room (k + 2) X.A) (hi : X.N[i]? = some y) (vis : Vis (compEnvC scope cl C X.env).scope y)
    (hdb : (x == ("__debug__" : Str)) = false := by decide) (hd : (a == ("__debug__" : Str)) = false := by decide) (hcd : (a == ("__classdict__" : Str)) = false := by decide) (hyd : (y == ("__debug__" : Str)) = false := by decide) (hyc : (y == ("__classdict__" : Str)) = false := by decide) :
    PE (X.blk s0 H0 scope (compEnvC scope cl C X.env) fp) (.Call (.Name x p) [.Name y p'] [] pos) (tMetV X k TT i σ0) :=
  ⟨fun pb s σ H Q Ib ⟨f, c', t, ar, bd, sc, hs, L, hf, hc, hT⟩ => wpAny_Call_Name_kw (ld_glob Ib hg hm (PySem.W.callWith_K (h₀ := X.base) Ib.ok.mod.kin hk
      (show wpAny _ _ (spliced ((false, eval (.Name y p') (compEnvC scope cl C X.env)) :: backTo pos (starEach [] (compEnvC scope cl C X.env)))) _ _ s from Calls.spliced_cons (thn ((pe_var (X := X.blk s0 H0 scope (compEnvC scope cl C X.env) fp) (pos := p') (i := i) hi vis hyd hyc).run pb s σ H (fun v G => v = .ref f ∧ G = H) Ib ⟨.ref f, hs, rfl, rfl⟩) fun u s1 ⟨v, H1, J, rv, ev, eH⟩ => by
        subst ev eH
        obtain rfl : u = Value.ref f := rv
        refine Calls.spliced_nil ⟨J.kIn, ?_⟩
        have IX : Inv X pins σ0 H1 s1 := I.call' (ch := fp) J.os J.base J.hok J.bare fun b hb => ⟨(hfp b hb).2.2.2.1, (hfp b hb).2.1, (hfp b hb).2.2.2.2.1, (hfp b hb).2.2.2.2.2⟩
        have run : codeAny (model X.prog X.w) X.A (.call (.ref g) ⟨[.ref f], []⟩) (CR CX0 X.stack X.prog X.w H1 s1 Q E0) s1 := by
          refine LamX.run_ofS (N := Ng) (ps := [a]) (us := [.ref f]) (vs := [.ref f]) lk hcg Sg hr IX.env0 (hb s1 [.ref f] IX.kIn rfl) (.cons rfl .nil) rfl fun hr' => ?_
          obtain ⟨t', g1, g2⟩ := hG f c' s1 H1 Q (fun E H' Q' => H' f = some (LamO (X.env.qual ++ "<lambda>") X.env.cells ar bd sc f c') ∧ t E σ0 H' Q') (fun W pn xe E p1 p2 tk => pe_actV (i := 0) IX L tk hr' hNg hva hd hcd) hc hT
          exact ⟨t', g1.nox, g2⟩
        refine wpAny_call (codeAny_mono run fun r s2 z => ?_)
        rcases r with e | fl
        · exact (show False from z).elim
        · rcases fl with _ | _ | _ | u
          · exact False.elim z
          · exact False.elim z
          · exact False.elim z
          · exact J.after z)) (by rfl) (by rfl)) hdb)⟩
end
section
variable {X : Cx}
/-- a comprehension whose block may ask for the def's own cells: what is told of its element may name the slots at its start -/
theorem pe_lcI {elt tg iter : Expr} {scope : Scope} {own : List (Str × Nat)} {pos : Pos} {wi : TI} {g : TG} {te : L2.St → TE} (hc : X.calm = true) (hN : X.N.Nodup) (hi : PI X tg iter wi) (ok : BlkOk X.N X.env.scope scope own)
    (hg : ∀ (s : Shared) (H : Hp) (C : Addr) (cl : List (Str × Addr)) (fp : List Addr), PG (X.blk s H scope (compEnvC scope cl C X.env) fp) tg g)
    (he : ∀ (pins : List (Addr × Obj)) (σ : L2.St) (s : Shared) (H : Hp) (C : Addr) (cl : List (Str × Addr)) (fp : List Addr), Inv X pins σ H s → (∀ b ∈ fp, FpOk X pins H b) → PE (X.blk s H scope (compEnvC scope cl C X.env) fp) elt (te σ)) (hs : ∀ x, foldedSetIterable iter X.env x = pure x := by intro _; rfl) :
    PE X (.ListComp elt [⟨tg, iter, [], 0⟩] scope pos) (fun σ H Q => tLc wi g tYes (te σ) (own.map (·.2)) σ H Q) := by
  constructor
  intro pins s σ H Q I h
  have cells : ∀ y ∈ scope.names, y.2 = .free → ∃ c, X.env.cells.lookup y.1 = some c := fun y hy e => (ok.free y hy e).elim (fun k => I.ok.has _ (.inl k)) (fun k => I.ok.has _ (.inr k))
  rw [eval_ListComp]
  refine wpAny_comprehension_free rfl hs (closure_ok cells) ok.kind (fun y hy e => by rw [ok.uniq y hy, e]) (thn (hi.run pins s σ H _ I h) fun xv sa hx => thn hx ?_)
  rintro itv sb ⟨it, fp, tn, J, Hb, rfl, Ib, Tn, st, fpo, q⟩
  refine wpAny_newObj_type (newEnv_comp ?_) (show 0 ≤ sizeLine by decide)
  have nD : Hb sb.heap.objs.size = none := Ib.hok.fresh (Nat.le_refl _)
  obtain ⟨W, ⟨m0, w0⟩, turn⟩ := q _ nD
  generalize eD : sb.heap.objs.size = D at nD w0 turn
  have pk : ∀ b o, sb.heap.get? b = some o → (sb.heap.push { cls := .type "list", data := .seq ([] : List Value).toArray }).get? b = some o := fun b o e => Heap.get?_push_of_some _ e
  have I3 : Inv X pins σ (upd Hb D (.lst [])) { sb with heap := sb.heap.push { cls := .type "list", data := .seq ([] : List Value).toArray } } :=
    Ib.laid (t' := sb.toks) pk (Nat.le_of_eq eD) ⟨Nat.zero_le _, [], 0, .nil, by rw [← eD]; exact Heap.get?_push_size _ rfl⟩
  have lt : ∀ b ∈ fp, b < sb.heap.objs.size := fun b hb => let ⟨o, e, _⟩ := Tn.obj _ _ st b hb; Heap.lt_size e
  have fp3 : ∀ b ∈ fp, FpOk X pins (upd Hb D (.lst [])) b ∧ b < (sb.heap.push { cls := .type "list", data := .seq ([] : List Value).toArray }).objs.size := fun b hb =>
    ⟨⟨by rw [upd_ne (by rw [← eD]; exact Nat.ne_of_lt (lt b hb))]; exact (fpo b hb).1, (fpo b hb).2⟩, by rw [Heap.size_push]; exact Nat.lt_succ_of_lt (lt b hb)⟩
  have st3 : tn 0 (sb.heap.push { cls := .type "list", data := .seq ([] : List Value).toArray }) := Tn.keep _ _ _ st fun b _ o e => pk b o e
  generalize hs3 : ({ sb with heap := sb.heap.push { cls := .type "list", data := .seq ([] : List Value).toArray } } : Shared) = s3 at I3
  have eh : sb.heap.push { cls := .type "list", data := .seq ([] : List Value).toArray } = s3.heap := by rw [← hs3]
  rw [eh] at fp3 st3
  generalize upd Hb D (.lst []) = H3 at I3 w0 fp3
  have I4 := block_start I3 ok hN fp3
  have PGt := hg s3 H3 s3.heap.objs.size (cellsFrom (s3.heap.objs.size + 1) scope.names (cloFrom X.env.cells scope.names [])) fp
  have PEt := he pins σ s3 H3 s3.heap.objs.size (cellsFrom (s3.heap.objs.size + 1) scope.names (cloFrom X.env.cells scope.names [])) fp I3 fun b hb => (fp3 b hb).1
  show codeAny _ _ (.compStart (.ListComp elt [⟨tg, iter, [], 0⟩] scope pos) 0 (.ref it) (.ref D) (compEnvC scope (cellsFrom (s3.heap.objs.size + 1) scope.names (cloFrom X.env.cells scope.names [])) s3.heap.objs.size X.env)) (compPost (model X.prog X.w) X.A X.xe none _ (.ref D) s3.heap.objs.size) { s3 with heap := pushCells (s3.heap.push { cls := .type "dict", data := .dict #[] }) scope.names }
  have st4 : tn 0 (pushCells (s3.heap.push { cls := .type "dict", data := .dict #[] }) scope.names) := Tn.keep _ _ _ st3 fun b _ o e => pushCells_keeps _ _ _ _ (Heap.get?_push_of_some _ e)
  generalize eE : compEnvC scope (cellsFrom (s3.heap.objs.size + 1) scope.names (cloFrom X.env.cells scope.names [])) s3.heap.objs.size X.env = ce at I4 PGt PEt ⊢
  have loc : ce.locals = s3.heap.objs.size := by rw [← eE]; rfl
  generalize h4 : ({ s3 with heap := pushCells (s3.heap.push { cls := .type "dict", data := .dict #[] }) scope.names } : Shared) = s4 at I4 ⊢
  have st4 : tn 0 s4.heap := by rw [← h4]; exact st4
  have n4 : ∀ b ∈ fp, H3 b = none := fun b hb => (fp3 b hb).1.1
  have fpk : ∀ {σ' : L2.St} {H' : Hp} {s' : Shared}, Inv (X.blk s3 H3 scope ce fp) [] σ' H' s' → (∀ b ∈ fp, H' b = none) → ∀ b ∈ fp, FpOk (X.blk s3 H3 scope ce fp) [] H' b := fun {σ' H' s'} J hn b hb =>
    ⟨hn b hb, (J.ok.exf b hb).1, J.ok.exfs b hb, .inl hb, fun x c e => (J.ok.exf b hb).2 x c e, fun p hp => absurd (show p ∈ ([] : List (Addr × Obj)) ++ [] from hp) (by simp)⟩
  have walk : codeAny (model X.prog X.w) X.A (.compLoop (.ListComp elt [⟨tg, iter, [], 0⟩] scope pos) 0 (.ref it) (.ref D) ce) (compPost (model X.prog X.w) X.A X.xe none (EP X pins σ Q) (.ref D) s3.heap.objs.size) s4 := by
    refine compLoop_any (fun n s' => ∃ i H', Inv (X.blk s3 H3 scope ce fp) [] (wipe σ (own.map (·.2))) H' s' ∧ tn i s'.heap ∧ (∀ b ∈ fp, H' b = none) ∧ W i n H') ?_ m0 ⟨0, H3, I4, st4, n4, w0⟩
    rintro n s5 ⟨i, H5, J5, t5, e5, w5⟩
    rcases turn i n H5 w5 with ⟨stop, qe⟩ | ⟨go, Nx, hNx, step⟩
    · refine thnF (Tn.done (X.blk s3 H3 scope ce fp) rfl rfl rfl hc i [] s5 _ H5 (fun _ _ => False) J5 (fpk J5 e5) t5 stop) ?_
      rintro r s6 ⟨rfl, J6⟩
      obtain ⟨m, hn, _⟩ := J6.loc
      have hn : Heap.Ns s6.heap ce.locals m := hn
      have nC : H5 s3.heap.objs.size = none := by rw [← loc]; exact J6.free
      have J7 : Inv X pins σ H5 s6 := I3.call' (ch := fp) J6.os J6.base J6.hok J6.bare fun b hb => ⟨(fp3 b hb).1.2.2.2.1, (fp3 b hb).1.2.1, (fp3 b hb).1.2.2.2.2.1, (fp3 b hb).1.2.2.2.2.2⟩
      obtain ⟨f0, f1, f2, f3, f4, f5⟩ := I3.fpOk (Nat.le_refl _) nC
      rw [loc] at hn
      exact ⟨m, hn, fun h'' same => ⟨.ref D, H5, J7.turned (t' := s6.toks) (fun b o hb e => (same.2 b hb).trans e) f0 f1 f3 f4 f5, rfl, qe⟩⟩
    · refine thnF (Tn.item (X.blk s3 H3 scope ce fp) rfl rfl rfl hc i [] s5 _ H5 (fun _ _ => False) J5 (fpk J5 e5) t5 go) ?_
      rintro r s6 ⟨u, rfl, h6⟩
      refine thnF h6 ?_
      rintro _ s7 ⟨x, H7, J7, r7, y7, t7, e7⟩
      refine thnF (PGt.run _ s7 _ H7 x u _ (J7.pinned (fpk J7 e7) (Tn.obj _ _ t7)) r7 (step x H7 y7)) ?_
      rintro _ s8 ⟨σ8, H8, J8, ew, q8⟩
      refine thnF ((pts_nil (X := X.blk s3 H3 scope ce fp)).run _ s8 σ8 H8 _ J8 q8) ?_
      rintro b s9 ⟨H9, J9, q9⟩
      have turned : ∀ {s' : Shared} {H' : Hp}, Inv (X.blk s3 H3 scope ce fp) ([] ++ pinsAt fp s7.heap) σ8 H' s' → Nx H' → ∃ m, m < n ∧ ∃ i H', Inv (X.blk s3 H3 scope ce fp) [] (wipe σ (own.map (·.2))) H' s' ∧ tn i s'.heap ∧ (∀ b ∈ fp, H' b = none) ∧ W i m H' := fun {s' H'} J nx => by
        obtain ⟨m', lt', w'⟩ := hNx H' nx
        have kept : ∀ b ∈ fp, ∀ o, s7.heap.get? b = some o → s'.heap.get? b = some o ∧ H' b = none := fun b hb o e =>
          have z := J.pin (b, o) (List.mem_append_right _ (List.mem_append_right _ (mem_pinsAt hb e)))
          ⟨z.1, z.2.1⟩
        refine ⟨m', lt', i + 1, H', (J.unpinned (pins := [])).weak (by rw [← ew, wipe_length]) (fun j v e => ?_), Tn.keep _ _ _ t7 fun b hb o e => (kept b hb o e).1, fun b hb => ?_, w'⟩
        · rw [← ew] at e
          exact (wipe_some e).1
        · obtain ⟨o, e, _⟩ := Tn.obj _ _ t7 b hb
          exact (kept b hb o e).2
      cases b with
      | false => simp only [Bool.false_eq_true, if_false] at q9 ⊢; exact turned J9 q9
      | true =>
        simp only [if_true] at q9 ⊢
        refine thnF (PEt.run _ s9 σ8 H9 _ J9 q9) ?_
        rintro z s10 ⟨yv, H10, J10, r10, acc, hD, hz, nx⟩
        exact app_ok (X := X.blk s3 H3 scope ce fp) J10 hD hz r10 fun s11 J11 => turned J11 nx
  exact codeAny_compStart_list walk (Tn.self X.A 0 _ _ _ st4 walk)
end
end MB

set_option maxHeartbeats 4000000
namespace MB
open PySem PySem.Spec PyProof.Rows L2
theorem blT {c : Prop} [Decidable c] (h : c) : V.bl (decide c) = V.bl true := by rw [decide_eq_true h]
theorem blF {c : Prop} [Decidable c] (h : ¬ c) : V.bl (decide c) = V.bl false := by rw [decide_eq_false h]
theorem nblF {c : Prop} [Decidable c] (h : c) : V.bl (!decide c) = V.bl false := by rw [decide_eq_true h]; rfl
theorem nblT {c : Prop} [Decidable c] (h : ¬ c) : V.bl (!decide c) = V.bl true := by rw [decide_eq_false h]; rfl
theorem int_ne {i j : Int} (h : i ≠ j) : ¬ V.int i = V.int j := fun e => h (by injection e)
theorem dp_bls_inv {K : PySem.W.Frag} {H : Hp} : ∀ {ns : List Bool} {vs : List V}, DpAll K H vs (ns.map PyData.bool) → vs = ns.map V.bl
  | [], _, .nil => rfl
  | n :: ns, _, .cons a b => by
    cases a
    rw [dp_bls_inv b]
    rfl
/-- a comprehension whose items are truth values -/
theorem lc_bools {K : PySem.W.Frag} {J : It} {n : Nat} {G : Hp → Prop} {Y : Nat → Hp → V → Hp → Prop} (w : Walk J n G Y) {g : TG} {tt : TT} {te : TE} {vs : List Nat} {σ : L2.St} {H1 : Hp} {D : Addr} {Qd : Hp → Prop}
    (bs : List Bool) (hl : bs.length = n) (hn : n ≤ 1000) (hD : H1 D = none) (hG : ∀ H, Same H1 H → G H)
    (hs : ∀ i x H H', i < n → Same H1 H → Y i H x H' → ∀ b, bs[i]? = some b → ∀ R : V → Hp → Prop, (∀ H4, Same H H4 → R (.bl b) H4) →
      g x (wipe σ vs) H' fun σ2 H2 => wipe σ2 vs = wipe σ vs ∧ tt σ2 H2 fun b H3 => b = true ∧ te σ2 H3 R)
    (hd : ∀ H, Same H1 H → H D = some (.lst (bs.map V.bl)) → Qd H)
    (mg : ∀ x σ' H' (Q Q' : L2.St → Hp → Prop), (∀ a b, Q a b → Q' a b) → g x σ' H' Q → g x σ' H' Q') (mt : ∀ σ' H' (Q Q' : Bool → Hp → Prop), (∀ a b, Q a b → Q' a b) → tt σ' H' Q → tt σ' H' Q') :
    ∃ W : Nat → Nat → Hp → Prop, (∃ m, W 0 m (upd H1 D (.lst []))) ∧ ∀ i m H, W i m H →
      (J.stop i H ∧ Qd H) ∨ (J.go i H ∧ ∃ Nx : Hp → Prop, (∀ H', Nx H' → ∃ m', m' < m ∧ W (i + 1) m' H') ∧ ∀ x H', J.yld i H x H' → g x (wipe σ vs) H' fun σ2 H2 => wipe σ2 vs = wipe σ vs ∧ tt σ2 H2 fun b H3 =>
        if b = true then te σ2 H3 fun y H4 => ∃ acc, H4 D = some (.lst acc) ∧ acc.length < sizeLine ∧ Nx (upd H4 D (.lst (acc ++ [y]))) else Nx H3) := by
  refine lc_all (K := K) w (bs.map PyData.bool) (by rw [List.length_map, hl]) (fun d h => ?_) hn hD hG ?_ ?_ mg mt
  · obtain ⟨b, _, rfl⟩ := List.mem_map.mp h
    exact .bl b
  · intro i x H H' hi s y d hd' R hR
    rw [List.getElem?_map] at hd'
    cases e : bs[i]? with
    | none => rw [e] at hd'; cases hd'
    | some b =>
      rw [e] at hd'
      cases hd'
      exact hs i x H H' hi s y b e R fun H4 s4 => hR _ _ s4 (.bl b)
  · intro H acc s ha hA
    rw [dp_bls_inv hA] at ha
    exact hd H s ha
/-- a comprehension whose items are numbers -/
theorem lc_ints {K : PySem.W.Frag} {J : It} {n : Nat} {G : Hp → Prop} {Y : Nat → Hp → V → Hp → Prop} (w : Walk J n G Y) {g : TG} {tt : TT} {te : TE} {vs : List Nat} {σ : L2.St} {H1 : Hp} {D : Addr} {Qd : Hp → Prop}
    (bs : List Int) (hl : bs.length = n) (hn : n ≤ 1000) (hD : H1 D = none) (hG : ∀ H, Same H1 H → G H)
    (hs : ∀ i x H H', i < n → Same H1 H → Y i H x H' → ∀ b, bs[i]? = some b → ∀ R : V → Hp → Prop, (∀ H4, Same H H4 → R (.int b) H4) →
      g x (wipe σ vs) H' fun σ2 H2 => wipe σ2 vs = wipe σ vs ∧ tt σ2 H2 fun b H3 => b = true ∧ te σ2 H3 R)
    (hd : ∀ H, Same H1 H → H D = some (.lst (bs.map V.int)) → Qd H)
    (mg : ∀ x σ' H' (Q Q' : L2.St → Hp → Prop), (∀ a b, Q a b → Q' a b) → g x σ' H' Q → g x σ' H' Q') (mt : ∀ σ' H' (Q Q' : Bool → Hp → Prop), (∀ a b, Q a b → Q' a b) → tt σ' H' Q → tt σ' H' Q') :
    ∃ W : Nat → Nat → Hp → Prop, (∃ m, W 0 m (upd H1 D (.lst []))) ∧ ∀ i m H, W i m H →
      (J.stop i H ∧ Qd H) ∨ (J.go i H ∧ ∃ Nx : Hp → Prop, (∀ H', Nx H' → ∃ m', m' < m ∧ W (i + 1) m' H') ∧ ∀ x H', J.yld i H x H' → g x (wipe σ vs) H' fun σ2 H2 => wipe σ2 vs = wipe σ vs ∧ tt σ2 H2 fun b H3 =>
        if b = true then te σ2 H3 fun y H4 => ∃ acc, H4 D = some (.lst acc) ∧ acc.length < sizeLine ∧ Nx (upd H4 D (.lst (acc ++ [y]))) else Nx H3) := by
  refine lc_all (K := K) w (bs.map PyData.int) (by rw [List.length_map, hl]) (tf_ints _) hn hD hG ?_ ?_ mg mt
  · intro i x H H' hi s y d hd' R hR
    rw [List.getElem?_map] at hd'
    cases e : bs[i]? with
    | none => rw [e] at hd'; cases hd'
    | some b =>
      rw [e] at hd'
      cases hd'
      exact hs i x H H' hi s y b e R fun H4 s4 => hR _ _ s4 (.int b)
  · intro H acc s ha hA
    rw [dp_ints_inv hA] at ha
    exact hd H s ha
theorem k_pgTN {X : Cx} {K : PySem.W.Frag} {x y z : Str} {px py pz p1 : Pos} {k k1 : Nat} {pos : Pos} {t1 t2 : TG} (hK : X.K = K) (hc : X.calm = true) (h1 : PG X (.Tuple [.Name x px, .Name y py] k1 p1) t1) (h2 : PG X (.Name z pz) t2) : PG X (.Tuple [.Tuple [.Name x px, .Name y py] k1 p1, .Name z pz] k pos) (gTup K 2 (gCons t1 (gCons t2 gNil))) := by
  subst hK
  exact pg_tup hc (pgs_cons h1 (pgs_cons h2 pgs_nil))
theorem mono_pair2 {K : PySem.W.Frag} {n n' i j l : Nat} (x : V) (σ' : L2.St) (H' : Hp) (Q Q' : L2.St → Hp → Prop) (h : ∀ a b, Q a b → Q' a b) (e : gTup K n (gCons (gTup K n' (gCons (gName i) (gCons (gName j) gNil))) (gCons (gName l) gNil)) x σ' H' Q) : gTup K n (gCons (gTup K n' (gCons (gName i) (gCons (gName j) gNil))) (gCons (gName l) gNil)) x σ' H' Q' := by
  obtain ⟨a, xs, e1, e2, e3, v, r, e4, b, ys, f1, f2, f3, v1, r1, f4, v2, r2, f5, f6, v', r', e5, e6, q⟩ := e
  exact ⟨a, xs, e1, e2, e3, v, r, e4, b, ys, f1, f2, f3, v1, r1, f4, v2, r2, f5, f6, v', r', e5, e6, h _ _ q⟩
theorem ci_sum : ∀ p : List Nat, (ci p).sum = ((p.sum : Nat) : Int)
  | [] => rfl
  | x :: p => by
    have := ci_sum p
    simp only [ci, List.map_cons, List.sum_cons, Int.natCast_add] at this ⊢
    rw [this]
theorem cutV_to {p : List Nat} {m : Nat} (h : m ≤ p.length) : cutV (vi p) none (some (m : Int)) = vi (p.take m) := by
  rw [cut_to (by rw [vi_len]; exact h)]; simp [vi, List.map_take]
theorem cutV_from {p : List Nat} {m : Nat} (h : m ≤ p.length) : cutV (vi p) (some (m : Int)) none = vi (p.drop m) := by
  rw [cut_from (by rw [vi_len]; exact h)]; simp [vi, List.map_drop]
theorem cut_drop {p : List Nat} {m : Nat} (h : m ≤ p.length) : cutV (vi p) (some (m : Int)) none = (ci (p.drop m)).map V.int := by
  rw [cutV_from h, vi_ci]
theorem isi_int {K : PySem.W.Frag} {H : Hp} {i : Int} {Q : VK} (q : Q (.bl true) H) : rIsi K [.int i, .ty "int"] H Q :=
  ⟨.int i, .ty "int", .type "int", .type "int", true, rfl, .ty _, .base (.int i), kit_ty (by decide +kernel), q⟩
theorem isi_bool {K : PySem.W.Frag} {H : Hp} {i : Int} {Q : VK} (q : Q (.bl false) H) : rIsi K [.int i, .ty "bool"] H Q :=
  ⟨.int i, .ty "bool", .type "int", .type "bool", false, rfl, .ty _, .base (.int i), kit_ty (by decide +kernel), q⟩
theorem nth3 {n : Nat} (x : List V) (h : x.length = n) (i : Nat) (hi : i < (if (if (x.length : Int) < 3 then (x.length : Int) else 3) > 1 then (if (x.length : Int) < 3 then (x.length : Int) else 3) else 1 : Int).toNat) : i ≤ 62 := by
  have : (if (if (x.length : Int) < 3 then (x.length : Int) else 3) > 1 then (if (x.length : Int) < 3 then (x.length : Int) else 3) else 1) ≤ 3 := by split <;> split <;> omega
  omega
end MB

set_option maxHeartbeats 4000000
namespace MB
/-! ### binomial coefficients -/
def bin : Nat → Nat → Nat
  | _, 0 => 1
  | 0, _ + 1 => 0
  | n + 1, k + 1 => bin n k + bin n (k + 1)
theorem bin_zero (n : Nat) : bin n 0 = 1 := by cases n <;> rfl
theorem bin_succ (n k : Nat) : bin (n + 1) (k + 1) = bin n k + bin n (k + 1) := rfl
theorem bin_lt : ∀ {n k : Nat}, n < k → bin n k = 0
  | 0, k + 1, _ => rfl
  | n + 1, k + 1, h => by rw [bin_succ, bin_lt (n := n) (by omega), bin_lt (n := n) (by omega)]
theorem bin_self : ∀ n : Nat, bin n n = 1
  | 0 => rfl
  | n + 1 => by rw [bin_succ, bin_self n, bin_lt (by omega)]
theorem bin_one : ∀ n : Nat, bin n 1 = n
  | 0 => rfl
  | n + 1 => by rw [bin_succ, bin_zero, bin_one n]; omega
theorem bin_pos : ∀ {n k : Nat}, k ≤ n → 0 < bin n k
  | n, 0, _ => by rw [bin_zero]; decide
  | n + 1, k + 1, h => by rw [bin_succ]; have := bin_pos (n := n) (k := k) (by omega); omega
theorem bin_mul : ∀ n k : Nat, bin (n + 1) (k + 1) * (k + 1) = (n + 1) * bin n k
  | 0, 0 => by decide
  | 0, k + 1 => by simp [bin]
  | n + 1, 0 => by rw [bin_one, bin_zero]
  | n + 1, k + 1 => by
    have h1 := bin_mul n k
    have h2 := bin_mul n (k + 1)
    rw [bin_succ (n + 1) (k + 1), Nat.add_mul, h2]
    have e1 : bin (n + 1) (k + 1) * (k + 1 + 1) = bin (n + 1) (k + 1) * (k + 1) + bin (n + 1) (k + 1) := by rw [Nat.mul_add, Nat.mul_one]
    rw [e1, h1, bin_succ n k]
    grind
/-- the next one in a row -/
theorem bin_step {n j : Nat} (h : j ≤ n) : bin n (j + 1) * (j + 1) = bin n j * (n - j) := by
  have h1 := bin_mul n j
  rw [bin_succ, Nat.add_mul] at h1
  have e : (n + 1) * bin n j = bin n j * (n - j) + bin n j * (j + 1) := by rw [← Nat.mul_add, Nat.mul_comm]; congr 1; omega
  omega
theorem bin_div {n j : Nat} (h : j ≤ n) : bin n j * (n - j) / (j + 1) = bin n (j + 1) := by
  rw [← bin_step h, Nat.mul_div_cancel _ (by omega)]
theorem bin_sym : ∀ a b : Nat, bin (a + b) a = bin (a + b) b
  | 0, b => by rw [Nat.zero_add, bin_zero, bin_self]
  | a + 1, 0 => by rw [Nat.add_zero, bin_zero, bin_self]
  | a + 1, b + 1 => by
    have e : a + 1 + (b + 1) = (a + b + 1) + 1 := by omega
    rw [e, bin_succ (a + b + 1) a, bin_succ (a + b + 1) b]
    have h1 := bin_sym a (b + 1)
    have h2 := bin_sym (a + 1) b
    have e1 : a + (b + 1) = a + b + 1 := by omega
    have e2 : a + 1 + b = a + b + 1 := by omega
    rw [e1] at h1; rw [e2] at h2
    omega
theorem bin_sub {n k : Nat} (h : k ≤ n) : bin n (n - k) = bin n k := by
  have := bin_sym k (n - k)
  rw [show k + (n - k) = n by omega] at this
  exact this.symm
theorem bin_min {n k : Nat} (h : k ≤ n) : bin n (min k (n - k)) = bin n k := by
  by_cases c : k ≤ n - k
  · rw [Nat.min_eq_left c]
  · rw [Nat.min_eq_right (by omega), bin_sub h]
theorem bin_mono1 : ∀ n k : Nat, bin n k ≤ bin (n + 1) k
  | n, 0 => by rw [bin_zero, bin_zero]; exact Nat.le_refl _
  | n, k + 1 => by rw [bin_succ]; omega
theorem bin_mono {n m : Nat} (k : Nat) (h : n ≤ m) : bin n k ≤ bin m k := by
  induction h with
  | refl => exact Nat.le_refl _
  | step _ ih => exact Nat.le_trans ih (bin_mono1 _ _)
theorem bin_strict1 {n k : Nat} (h : k ≤ n + 1) : bin n (k + 1) < bin (n + 1) (k + 1) ∨ n < k := by
  by_cases c : n < k
  · exact .inr c
  · refine .inl ?_
    rw [bin_succ]
    have := bin_pos (n := n) (k := k) (by omega)
    omega
theorem bin_strict {n m k : Nat} (hk : 1 ≤ k) (hn : k ≤ n + 1) (h : n < m) : bin n k < bin m k := by
  have h1 : bin n k < bin (n + 1) k := by
    obtain ⟨j, rfl⟩ : ∃ j, k = j + 1 := ⟨k - 1, by omega⟩
    rw [bin_succ]
    have := bin_pos (n := n) (k := j) (by omega)
    omega
  exact Nat.lt_of_lt_of_le h1 (bin_mono k h)
theorem bin_pow : ∀ n k : Nat, bin n k ≤ (n + 1) ^ k
  | n, 0 => by rw [bin_zero]; simp
  | 0, k + 1 => by rw [bin_lt (by omega)]; exact Nat.zero_le _
  | n + 1, k + 1 => by
    have h := bin_mul n k
    have h1 : bin (n + 1) (k + 1) ≤ bin (n + 1) (k + 1) * (k + 1) := Nat.le_mul_of_pos_right _ (by omega)
    have h2 := bin_pow n k
    have h3 : (n + 1) ^ k ≤ (n + 1 + 1) ^ k := Nat.pow_le_pow_left (by omega) _
    have h4 : (n + 1) * bin n k ≤ (n + 1 + 1) * (n + 1 + 1) ^ k := Nat.mul_le_mul (by omega) (Nat.le_trans h2 h3)
    have h5 : (n + 1 + 1) ^ (k + 1) = (n + 1 + 1) * (n + 1 + 1) ^ k := by rw [Nat.pow_succ, Nat.mul_comm]
    omega
theorem bin_bits {n k : Nat} (hn : n < 2 ^ 64) (hk : k ≤ 64) : bin n k < 2 ^ 4097 := by
  have h1 := bin_pow n k
  have h2 : (n + 1) ^ k ≤ (2 ^ 64) ^ k := Nat.pow_le_pow_left (by omega) _
  have h3 : (2 ^ 64) ^ k ≤ (2 ^ 64 : Nat) ^ 64 := Nat.pow_le_pow_right (by decide) hk
  have h4 : ((2 ^ 64 : Nat) ^ 64) < 2 ^ 4097 := by decide +kernel
  omega
theorem bin_big {k c : Nat} (hk : 1 ≤ k) : c + 1 ≤ bin (k + c) k := by
  induction c with
  | zero => show 1 ≤ bin k k; rw [bin_self]; exact Nat.le_refl _
  | succ c ih =>
    have := bin_strict (n := k + c) (m := k + (c + 1)) (k := k) hk (by omega) (by omega)
    omega
/-- c is the least with n < C(k + c, k) -/
def Lw (k n c : Nat) : Prop := n < bin (k + c) k ∧ ∀ d, d < c → bin (k + d) k ≤ n
theorem Lw.uniq {k n c d : Nat} (a : Lw k n c) (b : Lw k n d) : c = d := by
  rcases Nat.lt_trichotomy c d with h | h | h
  · have := b.2 c h; have := a.1; omega
  · exact h
  · have := a.2 d h; have := b.1; omega
theorem Lw.mk' {k n c : Nat} (h : n < bin (k + c) k) (h' : c = 0 ∨ bin (k + (c - 1)) k ≤ n) : Lw k n c := by
  refine ⟨h, fun d hd => ?_⟩
  rcases h' with e | e
  · omega
  · exact Nat.le_trans (bin_mono k (by omega)) e
def lwGo (k n : Nat) : Nat → Nat → Nat
  | 0, c => c
  | f + 1, c => if n < bin (k + c) k then c else lwGo k n f (c + 1)
def lwr (k n : Nat) : Nat := lwGo k n (n + 1) 0
theorem lwGo_ok {k n : Nat} (hk : 1 ≤ k) : ∀ f c, (∀ d, d < c → bin (k + d) k ≤ n) → n < f + c → Lw k n (lwGo k n f c)
  | 0, c, h, hf => ⟨by have := bin_big (k := k) (c := c) hk; unfold lwGo; omega, h⟩
  | f + 1, c, h, hf => by
    unfold lwGo
    by_cases hc : n < bin (k + c) k
    · rw [if_pos hc]; exact ⟨hc, h⟩
    · rw [if_neg hc]
      refine lwGo_ok hk f (c + 1) (fun d hd => ?_) (by omega)
      by_cases e : d < c
      · exact h d e
      · have : d = c := by omega
        subst this; omega
theorem lw_ok {k : Nat} (n : Nat) (hk : 1 ≤ k) : Lw k n (lwr k n) := lwGo_ok hk _ _ (fun _ h => absurd h (by omega)) (by omega)
theorem lwr_le {k n : Nat} (hk : 1 ≤ k) : lwr k n ≤ n := by
  have h := (lw_ok n hk).2
  by_cases c : lwr k n ≤ n
  · exact c
  · have h1 := h n (by omega)
    have := bin_big (k := k) (c := n) hk
    omega
end MB

set_option maxHeartbeats 4000000
namespace MB
/-- the terms above 0 of the representation of n with k terms -/
def rl : Nat → Nat → List Nat
  | 0, _ => []
  | k + 1, n => if n = 0 then [] else bin (k + lwr (k + 1) n) (k + 1) :: rl k (n - bin (k + lwr (k + 1) n) (k + 1))
theorem rl_zero (k : Nat) : rl k 0 = [] := by cases k <;> simp [rl]
theorem rl_succ {k n : Nat} (h : n ≠ 0) : rl (k + 1) n = bin (k + lwr (k + 1) n) (k + 1) :: rl k (n - bin (k + lwr (k + 1) n) (k + 1)) := by simp [rl, h]
theorem lw_pos {k n : Nat} (hk : 1 ≤ k) (hn : n ≠ 0) : 1 ≤ lwr k n := by
  have h := (lw_ok n hk).1
  by_cases c : lwr k n = 0
  · rw [c] at h
    have : bin (k + 0) k = 1 := bin_self k
    omega
  · omega
theorem top_le {k n : Nat} (hn : n ≠ 0) : bin (k + lwr (k + 1) n) (k + 1) ≤ n := by
  have h1 := lw_pos (k := k + 1) (by omega) hn
  have h2 := (lw_ok (k := k + 1) n (by omega)).2 (lwr (k + 1) n - 1) (by omega)
  rwa [show k + 1 + (lwr (k + 1) n - 1) = k + lwr (k + 1) n by omega] at h2
theorem top_pos {k n : Nat} (hn : n ≠ 0) : 0 < bin (k + lwr (k + 1) n) (k + 1) :=
  bin_pos (by have := lw_pos (k := k + 1) (by omega) hn; omega)
theorem rest_lt {k n : Nat} (hn : n ≠ 0) : n - bin (k + lwr (k + 1) n) (k + 1) < bin (k + lwr (k + 1) n) k := by
  have h1 := (lw_ok (k := k + 1) n (by omega)).1
  have h2 := top_le (k := k) hn
  rw [show k + 1 + lwr (k + 1) n = (k + lwr (k + 1) n) + 1 by omega, bin_succ] at h1
  omega
theorem rest_zero {n : Nat} (hn : n ≠ 0) : n - bin (0 + lwr (0 + 1) n) (0 + 1) = 0 := by
  have := rest_lt (k := 0) hn
  rw [bin_zero] at this
  omega
theorem rl_sum : ∀ k n : Nat, (k = 0 → n = 0) → (rl k n).sum = n
  | 0, n, h => by rw [h rfl]; rfl
  | k + 1, n, _ => by
    by_cases hn : n = 0
    · subst hn; rw [rl_zero]; rfl
    · rw [rl_succ hn, List.sum_cons, rl_sum k _ (fun e => by subst e; exact rest_zero hn)]
      have := top_le (k := k) hn
      omega
theorem rl_len : ∀ k n : Nat, (rl k n).length ≤ k
  | 0, n => by simp [rl]
  | k + 1, n => by
    by_cases hn : n = 0
    · subst hn; rw [rl_zero]; simp
    · rw [rl_succ hn, List.length_cons]
      have := rl_len k (n - bin (k + lwr (k + 1) n) (k + 1))
      omega
theorem rl_pos : ∀ k n : Nat, ∀ x, x ∈ rl k n → 0 < x ∧ x ≤ n
  | 0, n, x, h => by simp [rl] at h
  | k + 1, n, x, h => by
    by_cases hn : n = 0
    · subst hn; rw [rl_zero] at h; cases h
    · rw [rl_succ hn] at h
      rcases List.mem_cons.mp h with h | h
      · rw [h]; exact ⟨top_pos hn, top_le hn⟩
      · have := rl_pos k _ x h
        omega
/-- the last flush's run holds what was merged and its own -/
theorem rl_step : ∀ k n : Nat, ∃ m, m ≤ (rl (k + 1) n).length ∧ rl (k + 1) (n + 1) = (rl (k + 1) n).take m ++ [1 + ((rl (k + 1) n).drop m).sum]
  | k, n => by
    by_cases hn : n = 0
    · subst hn
      refine ⟨0, Nat.zero_le _, ?_⟩
      rw [rl_zero, rl_succ (by omega)]
      have e : lwr (k + 1) (0 + 1) = 1 := (lw_ok (0 + 1) (by omega)).uniq (Lw.mk' (by
        have := bin_big (k := k + 1) (c := 1) (by omega); omega) (.inr (by rw [show k + 1 + (1 - 1) = k + 1 by omega, bin_self]; exact Nat.le_refl _)))
      rw [e, bin_self, show 0 + 1 - 1 = 0 by omega, rl_zero]
      rfl
    · have hc := lw_ok (k := k + 1) n (by omega)
      by_cases hlt : n + 1 < bin (k + 1 + lwr (k + 1) n) (k + 1)
      · have e : lwr (k + 1) (n + 1) = lwr (k + 1) n := (lw_ok (n + 1) (by omega)).uniq ⟨hlt, fun d hd => Nat.le_succ_of_le (hc.2 d hd)⟩
        cases k with
        | zero =>
          exfalso
          have h1 := rest_zero hn
          rw [bin_one] at h1 hlt
          have h2 := top_le (k := 0) hn
          rw [bin_one] at h2
          omega
        | succ k =>
          have hT := top_le (k := k + 1) hn
          obtain ⟨m, hm, hs⟩ := rl_step k (n - bin (k + 1 + lwr (k + 1 + 1) n) (k + 1 + 1))
          refine ⟨m + 1, ?_, ?_⟩
          · rw [rl_succ hn, List.length_cons]; omega
          · rw [rl_succ (n := n + 1) (by omega), e, rl_succ hn, show n + 1 - bin (k + 1 + lwr (k + 1 + 1) n) (k + 1 + 1) = n - bin (k + 1 + lwr (k + 1 + 1) n) (k + 1 + 1) + 1 by omega, hs]
            simp
      · have e0 : n + 1 = bin (k + 1 + lwr (k + 1) n) (k + 1) := by have := hc.1; omega
        have e : lwr (k + 1) (n + 1) = lwr (k + 1) n + 1 := (lw_ok (n + 1) (by omega)).uniq (Lw.mk' (by
          rw [e0]; exact bin_strict (by omega) (by omega) (by omega)) (.inr (by rw [show lwr (k + 1) n + 1 - 1 = lwr (k + 1) n by omega]; omega)))
        refine ⟨0, Nat.zero_le _, ?_⟩
        rw [rl_succ (n := n + 1) (by omega), e, show k + (lwr (k + 1) n + 1) = k + 1 + lwr (k + 1) n by omega, ← e0, Nat.sub_self, rl_zero]
        have := rl_sum (k + 1) n (fun h => by omega)
        simp [this]
        omega
/-- just behind a lifetime there is one run -/
theorem rl_edge {k c : Nat} (hk : 1 ≤ k) : rl k (bin (k + c) k) = [bin (k + c) k] := by
  obtain ⟨j, rfl⟩ : ∃ j, k = j + 1 := ⟨k - 1, by omega⟩
  have hp := bin_pos (n := j + 1 + c) (k := j + 1) (by omega)
  have e : lwr (j + 1) (bin (j + 1 + c) (j + 1)) = c + 1 := (lw_ok _ (by omega)).uniq (Lw.mk' (bin_strict (by omega) (by omega) (by omega)) (.inr (by rw [show c + 1 - 1 = c by omega]; exact Nat.le_refl _)))
  rw [rl_succ (by omega), e, show j + (c + 1) = j + 1 + c by omega, Nat.sub_self, rl_zero]
/-- each term is a binomial coefficient, with falling upper numbers -/
theorem rl_tops : ∀ k n a : Nat, n < bin a k → ∃ ts : List Nat, ts.length = (rl k n).length ∧ (∀ i t, ts[i]? = some t → (rl k n)[i]? = some (bin t (k - i)) ∧ k - i ≤ t ∧ 1 ≤ k - i ∧ t < a) ∧ ∀ i t u, ts[i]? = some t → ts[i + 1]? = some u → u < t
  | 0, n, a, h => ⟨[], by simp [rl], by simp, by simp⟩
  | k + 1, n, a, h => by
    by_cases hn : n = 0
    · subst hn; exact ⟨[], by rw [rl_zero], by simp, by simp⟩
    · have h1 := lw_pos (k := k + 1) (by omega) hn
      have hlt : k + lwr (k + 1) n < a := by
        have h2 := top_le (k := k) hn
        by_cases c : k + lwr (k + 1) n < a
        · exact c
        · have := bin_mono (n := a) (m := k + lwr (k + 1) n) (k + 1) (by omega); omega
      obtain ⟨ts, e1, e2, e3⟩ := rl_tops k (n - bin (k + lwr (k + 1) n) (k + 1)) (k + lwr (k + 1) n) (rest_lt hn)
      refine ⟨(k + lwr (k + 1) n) :: ts, by rw [rl_succ hn]; simp [e1], ?_, ?_⟩
      · intro i t ht
        cases i with
        | zero =>
          simp only [List.getElem?_cons_zero, Option.some.injEq] at ht
          subst ht
          refine ⟨by rw [rl_succ hn]; rfl, by omega, by omega, hlt⟩
        | succ i =>
          simp only [List.getElem?_cons_succ] at ht
          obtain ⟨g1, g2, g3, g4⟩ := e2 i t ht
          refine ⟨by rw [rl_succ hn, List.getElem?_cons_succ, show k + 1 - (i + 1) = k - i by omega]; exact g1, by omega, by omega, by omega⟩
      · intro i t u ht hu
        cases i with
        | zero =>
          simp only [List.getElem?_cons_zero, Option.some.injEq] at ht
          simp only [List.getElem?_cons_succ] at hu
          subst ht
          exact (e2 0 u hu).2.2.2
        | succ i =>
          simp only [List.getElem?_cons_succ] at ht hu
          exact e3 i t u ht hu
end MB

set_option maxHeartbeats 4000000
namespace MB
open PySem PySem.Spec PyProof.Rows L2
theorem alike_ints (ns : List Int) : PySem.W.AlikeAll (ns.map PyData.int) := by
  refine ⟨fun x hx y hy => ?_, fun x hx e => ?_⟩
  · obtain ⟨i, _, rfl⟩ := List.mem_map.mp hx
    obtain ⟨j, _, rfl⟩ := List.mem_map.mp hy
    simp [PySem.W.alike]
  · obtain ⟨i, _, rfl⟩ := List.mem_map.mp hx
    cases e
theorem depth_ints : ∀ ns : List Int, PyData.depthAll (ns.map PyData.int) = 0
  | [] => by simp [PyData.depthAll]
  | n :: ns => by simp [PyData.depthAll, PyData.depth, depth_ints ns]
/-! ### max of a tuple of ints; with default= -/
def rMaxT (K : PySem.W.Frag) : List V → Hp → VK → Prop := fun xs H Q => ∃ (a : Addr) (n : Int) (ns : List Int), xs = [V.ref a] ∧ SqT K H a ((n :: ns).map V.int) ∧ Q (.int (ns.foldl max n)) H
theorem cr_maxT {X : Cx} {K : PySem.W.Frag} (hK : X.K = K) (hc : X.calm = true) (hu : X.A.units + 64 < cLine) : CallR X (.builtin "max") (rMaxT K) := by
  subst hK
  intro pins s σ H vs us Q I r h
  obtain ⟨a, n, ns, rfl, hs, q⟩ := h
  obtain ⟨its, rv, hl, _⟩ := I.tuple hs
  rw [Vals.ref1 r]
  obtain ⟨as, rd⟩ := Dp.readsAll I ((n :: ns).map PyData.int) _ its (dp_ints (n :: ns)) rv
  refine PySem.W.max_tuple_data (x := .int n) (xs := ns.map PyData.int) (I.ok.hd hc) hl (by simpa using rd) (alike_ints (n :: ns)) ?_ fun i v h' tk bs _ hr hk => ?_
  · have := depth_ints (n :: ns)
    rw [List.map_cons] at this
    rw [this]; omega
  · rw [PySem.W.maxD_ints] at hr
    cases hr
    exact ⟨.int _, H, I.kept hk, ⟨_, rfl⟩, q⟩
def rMaxDef (K : PySem.W.Frag) : List V → List V → Hp → VK → Prop := fun xs zs H Q => ∃ (a : Addr) (z : Int) (ns : List Int), xs = [V.ref a] ∧ zs = [V.int z] ∧ SqT K H a (ns.map V.int) ∧ (ns = [] → Q (.int z) H) ∧ ∀ m r, ns = m :: r → Q (.int (r.foldl max m)) H
theorem cr_maxDef {X : Cx} {K : PySem.W.Frag} (hK : X.K = K) (hc : X.calm = true) (hu : X.A.units + 64 < cLine) : CallRK X (.builtin "max") [Str.ofString "default"] (rMaxDef K) := by
  subst hK
  intro pins s σ H vs zs us ws Q I r rz h
  obtain ⟨a, z, ns, rfl, rfl, hs, q0, q1⟩ := h
  obtain ⟨its, rv, hl, _⟩ := I.tuple hs
  rw [Vals.ref1 r]
  obtain ⟨u, rfl, tz, rfl⟩ := vals1 rz
  obtain ⟨as, rd⟩ := Dp.readsAll I (ns.map PyData.int) _ its (dp_ints ns) rv
  refine PySem.W.max_tuple_default (xs := ns.map PyData.int) (I.ok.hd hc) hl (by simpa using rd) (alike_ints ns) ?_ (fun e h' tk hk => ?_) fun y ys i v h' tk bs e _ hr hk => ?_
  · rw [depth_ints ns]; omega
  · exact ⟨.int z, H, I.kept hk, ⟨_, rfl⟩, q0 (List.map_eq_nil_iff.mp e)⟩
  · cases ns with
    | nil => cases e
    | cons m t =>
      rw [List.map_cons] at e
      cases e
      rw [PySem.W.maxD_ints] at hr
      cases hr
      exact ⟨.int _, H, I.kept hk, ⟨_, rfl⟩, q1 m t rfl⟩
/-! ### sorted of a tuple of ints -/
section
variable {prog : Program} {w : World} {A : Around} {E : Value → Shared → Prop} {s : Shared}
theorem gather_tuple {p : Addr} {xs : List Value} {R : List Value → Shared → Prop} (ht : s.heap.IsTuple p xs.toArray) (hz : xs.length ≤ sizeLine)
    (q : R xs { s with heap := (s.heap.push (seqObj "list" #[] 0)).update s.heap.objs.size (Obj.mapSeq (· ++ xs.toArray)) }) : wpAny (model prog w) A (collect (.ref p)) R E s := by
  obtain ⟨ob, hob, hcl, ep, hdt⟩ := id ht
  unfold collect
  refine wpAny_bind (wpAny_runValue (codeAny_builtin entry_proto_collect' (show wpAny _ _ (do again (.builtin "list.__iadd__" ⟨[← newList [], .ref p], []⟩)) _ _ s from ?_)))
  refine wpAny_bind (wpAny_newList (wpAny_pure ⟨Code.quiet_builtin _ (by decide +kernel), codeAny_builtin entry_list_iadd' (show wpAny _ _ (Builtin.List.listExtendWith (.ref s.heap.objs.size) (.ref p) (.ref s.heap.objs.size)) _ _ { s with heap := s.heap.push (seqObj "list" #[] 0) } from ?_)⟩))
  unfold Builtin.List.listExtendWith
  have hob' : (s.heap.push (seqObj "list" #[] 0)).get? p = some ob := Heap.get?_push_of_some _ hob
  refine wpAny_bind (wpAny_typeOf (T := "tuple") ⟨ob, hob', hcl⟩ ?_)
  have tt : (Value.type "tuple" == Value.type "tuple") = true := by rfl
  rw [if_pos (by rw [tt]; simp)]
  refine wpAny_bind (listItems_at hob' hdt (wpAny_bind (listItems_at (xs := #[]) (n := 0) (Heap.get?_push_size _ rfl) rfl ?_)))
  rw [if_neg (by simp)]
  refine wpAny_bind (listUpdate_at (xs := #[]) (n := 0) (Heap.get?_push_size _ rfl) rfl (wpAny_pure ?_) (Nat.zero_le _) (by show (#[] ++ xs.toArray).size ≤ sizeLine + 1; simp only [Array.size_append, List.size_toArray, List.length_nil]; omega))
  show wpAny (model prog w) A (load s.heap.objs.size >>= _) R E { s with heap := (s.heap.push (seqObj "list" #[] 0)).update s.heap.objs.size (Obj.mapSeq (· ++ xs.toArray)) }
  refine wpAny_bind (wpAny_load (get?_update_seq (Heap.get?_push_size _ rfl) _) (show wpAny _ _ (pure ((#[] : Array Value) ++ xs.toArray).toList) R E _ from ?_))
  have ex : ((#[] : Array Value) ++ xs.toArray).toList = xs := by simp
  rw [ex]
  exact wpAny_pure q
theorem sorted_tup {p : Addr} {xs : List Value} {ns : List Int} {Q : Value → Shared → Prop} (ht : s.heap.IsTuple p xs.toArray) (hz : xs.length ≤ sizeLine) (hi : IntsAre xs ns)
    (q : ∀ out : List Value, SrtO.Srtd SrtO.ltIv out → SrtO.Stb SrtO.ltIv out xs → Q (.ref (s.heap.objs.size + 1)) { s with heap := sortedAll s.heap xs out.toArray }) :
    wpAny (model prog w) A (call (.builtin "sorted") [.ref p]) Q E s := by
  refine Calls.call_function_entry kind_sorted plain_sorted entry_sorted (args_sorted1 _) ?_
  unfold Builtin.«sorted»
  refine wpAny_bind (m := checkCount "sorted" 1 1 _) (wpAny_pure (wpAny_bind (gather_tuple ht hz (wpAny_bind (wpAny_newList ?_ hz)))))
  have sz1 : ((s.heap.push (seqObj "list" #[] 0)).update s.heap.objs.size (Obj.mapSeq (· ++ xs.toArray))).objs.size = s.heap.objs.size + 1 := (Heap.size_update ..).trans (Heap.size_push ..)
  have hoL := Heap.get?_push_size ((s.heap.push (seqObj "list" #[] 0)).update s.heap.objs.size (Obj.mapSeq (· ++ xs.toArray))) (o := seqObj "list" xs.toArray 0) rfl
  rw [sz1] at hoL
  show wpAny _ _ _ _ _ { s with heap := ((s.heap.push (seqObj "list" #[] 0)).update s.heap.objs.size (Obj.mapSeq (· ++ xs.toArray))).push (seqObj "list" xs.toArray 0) }
  rw [sz1]
  exact wpAny_bind (wpAny_holding (wpAny_call_entry PyProof.Rows.slot_list_sort ⟨_, hoL, rfl⟩ PyProof.Rows.entry_list_sort (SrtO.list_sort_ord SrtO.swo_int hoL hz (fun h2 => SrtO.ints_sortable hi h2) fun out hs hb => ⟨_, rfl, wpAny_pure ⟨_, rfl, q out hs hb⟩⟩) (PyProof.Rows.args_list_sort _)))
end
def rSortT (K : PySem.W.Frag) : List V → Hp → VK → Prop := fun xs H Q => ∃ (a : Addr) (ns : List Int), xs = [V.ref a] ∧ SqT K H a (ns.map V.int) ∧ ∀ (ms : List Int) (p : Addr), ms.Perm ns → H p = none → Q (.ref p) (upd H p (.lst (ms.map V.int)))
theorem cr_sortTI {X : Cx} : CallR X (.builtin "sorted") (rSortT X.K) := by
  intro pins s σ H vs us Q I r h
  obtain ⟨a, ns, rfl, hs, q⟩ := h
  obtain ⟨its, rv, hl, hz⟩ := I.tuple hs
  rw [Vals.ref1 r]
  have hi := rv.ints
  refine sorted_tup hl (by rw [← rv.length]; exact hz) hi fun out h1 h2 => ?_
  obtain ⟨k1, k2, k3⟩ := SrtO.ints_out hi h1 h2
  obtain ⟨ep, he'⟩ := sortedAll_at s.heap its out.toArray
  have hlen : ((out.map SrtO.iv).map V.int).length ≤ sizeLine := by
    have := k2.length_eq
    simp only [List.length_map] at this hz ⊢
    omega
  exact ⟨.ref _, upd H (s.heap.objs.size + 1) (.lst ((out.map SrtO.iv).map V.int)), I.laid (t' := s.toks) (fun _ _ e => sortedAll_old e) (Nat.le_succ _) ⟨hlen, out, ep, vals_of_ints k1, he'⟩, rfl, q _ _ k2 (I.hok.fresh (Nat.le_succ _))⟩
end MB

set_option maxHeartbeats 4000000
namespace MB
open PySem PySem.Spec PyProof.Rows L2
/-! ### a body whose first statement never ends in order -/
theorem pss_stop {X : Cx} {st : Stmt} {rest : List Stmt} {t : TS} (h1 : PS X st t) : PSs X (st :: rest) (fun D σ H => t { D with nx := fun _ _ => False } σ H) := by
  refine ⟨fun pins s σ H D I h => ?_⟩
  refine wpAny_execs_cons (thn (h1.run pins s σ H { D with nx := fun _ _ => False } I h) fun f s1 q => ?_)
  cases f with
  | next =>
    obtain ⟨_, _, _, q⟩ := q
    exact q.elim
  | ret v => exact q
  | brk => exact q
  | cont => exact q
/-! ### texts of data are texts -/
theorem strOk_of (s : String) : PyData.strOk (Str.ofString s) = true := by
  rw [Str.ofString_eq_toList]
  unfold PyData.strOk
  rw [← Array.all_toList, List.all_eq_true]
  intro c hc
  obtain ⟨z, _, rfl⟩ := List.mem_map.mp hc
  refine decide_eq_true ?_
  have h := z.valid
  have e : z.toNat = z.val.toNat := rfl
  rcases h with h | h
  · exact Nat.lt_trans (show z.toNat < 0xd800 from h) (by decide)
  · exact h.2
theorem strOk_app {a b : Str} (h1 : PyData.strOk a = true) (h2 : PyData.strOk b = true) : PyData.strOk (a ++ b) = true := by
  show (a.cps ++ b.cps).all _ = true
  rw [Array.all_append]
  rw [Bool.and_eq_true]
  exact ⟨h1, h2⟩
theorem strOk_join {sep : Str} (hs : PyData.strOk sep = true) : ∀ {ts : List Str}, (∀ t, t ∈ ts → PyData.strOk t = true) → PyData.strOk (Str.join sep ts) = true
  | [], _ => by show PyData.strOk Str.empty = true; decide +kernel
  | [x], h => h x (List.mem_cons_self ..)
  | x :: y :: r, h => by
    show PyData.strOk (x ++ sep ++ Str.join sep (y :: r)) = true
    exact strOk_app (strOk_app (h x (List.mem_cons_self ..)) hs) (strOk_join hs fun t ht => h t (List.mem_cons_of_mem _ ht))
theorem strOk_from : ∀ {ts : List Str} {k : Nat} {acc : Str}, PyData.strOk acc = true → (∀ t, t ∈ ts → PyData.strOk t = true) → PyData.strOk (textFrom k acc ts) = true
  | [], _, _, h, _ => h
  | t :: r, k, acc, h, ht => by
    refine strOk_from (ts := r) (k := k + 1) (acc := acc ++ (if k > 0 then ", " else "" : String) ++ t) (strOk_app (strOk_app h (strOk_of _)) (ht t (List.mem_cons_self ..))) fun x hx => ht x (List.mem_cons_of_mem _ hx)
theorem k_reprD {X : Cx} {K : PySem.W.Frag} (e : X.K = K) (hgd : X.A.guards = some []) (hu : X.A.units + 64 < cLine) : CallR X (.builtin "repr") (rReprD K) := by
  rw [← e]; exact call_reprD hgd hu
def SOk (d : PyData) : Prop := PyData.strOk d.shown = true
theorem shownAll_map : ∀ ds : List PyData, PyData.shownAll ds = ds.map PyData.shown
  | [] => rfl
  | d :: ds => by simp only [PyData.shownAll, List.map_cons, shownAll_map ds]
theorem SOk.int {i : Int} : SOk (.int i) := by unfold SOk; simp only [PyData.shown]; exact strOk_of _
theorem SOk.none : SOk .none := by unfold SOk; simp only [PyData.shown]; exact strOk_of _
theorem SOk.bool {b : Bool} : SOk (.bool b) := by unfold SOk; simp only [PyData.shown]; cases b <;> exact strOk_of _
theorem SOk.tup {ds : List PyData} (h : ∀ d, d ∈ ds → SOk d) : SOk (.tuple ds) := by
  unfold SOk
  simp only [PyData.shown]
  rw [shownAll_map]
  unfold tupleText
  refine strOk_app (strOk_app (strOk_of _) (strOk_join (strOk_of _) fun t ht => ?_)) (strOk_of _)
  obtain ⟨d, hd, rfl⟩ := List.mem_map.mp ht
  exact h d hd
theorem SOk.lst {ds : List PyData} (h : ∀ d, d ∈ ds → SOk d) : SOk (.list ds) := by
  unfold SOk
  simp only [PyData.shown]
  rw [shownAll_map]
  unfold listText
  refine strOk_app (strOk_from (strOk_of _) fun t ht => ?_) (strOk_of _)
  obtain ⟨d, hd, rfl⟩ := List.mem_map.mp ht
  exact h d hd
theorem SOk.ints {ns : List Int} : ∀ d, d ∈ ns.map PyData.int → SOk d := fun d hd => by
  obtain ⟨i, _, rfl⟩ := List.mem_map.mp hd
  exact .int
theorem SOk.dic1 {x : Str} {d : PyData} (hx : SOk (.str x)) (h : SOk d) : SOk (.dict [(.str x, d)]) := by
  unfold SOk at *
  simp only [PyData.shown, PyData.shownKv] at *
  unfold dictText
  exact strOk_app (strOk_app (strOk_of _) (strOk_join (strOk_of _) fun t ht => by
    rw [List.mem_singleton.mp ht]
    exact strOk_app (strOk_app hx (strOk_of _)) h)) (strOk_of _)
theorem Sh.str {x : Str} {k : Nat} (h : PyData.strOk x = true) : Sh k (.str x) := ⟨by simp only [PyData.canLay0]; exact h, by simp [PyData.depth]⟩
end MB

set_option maxHeartbeats 4000000
namespace MB
open PySem PySem.Spec PyProof.Rows L2
def topS (i : Nat) : Stmt := PySem.Challenge.pw_mergebudget_k27_policies_refused.main.body.getD i (.Pass ⟨0, 0, 0, 0⟩)
abbrev s_is_int : Stmt := topS 9
abbrev N_is_int : List Str := ["value"]
theorem sc_is_int : FnScope N_is_int ["value"] (defScope s_is_int) := ⟨rfl, rfl, rfl, by decide +kernel, rfl, by decide +kernel, by decide +kernel⟩
abbrev s_is_count : Stmt := topS 10
abbrev N_is_count : List Str := ["value"]
theorem sc_is_count : FnScope N_is_count ["value"] (defScope s_is_count) := ⟨rfl, rfl, rfl, by decide +kernel, rfl, by decide +kernel, by decide +kernel⟩
abbrev s_is_count_up_to : Stmt := topS 11
abbrev N_is_count_up_to : List Str := ["value", "most"]
theorem sc_is_count_up_to : FnScope N_is_count_up_to ["value", "most"] (defScope s_is_count_up_to) := ⟨rfl, rfl, rfl, by decide +kernel, rfl, by decide +kernel, by decide +kernel⟩
abbrev s_choose : Stmt := topS 14
abbrev N_choose : List Str := ["n", "k", "result", "factor"]
theorem sc_choose : FnScope N_choose ["n", "k"] (defScope s_choose) := ⟨rfl, rfl, rfl, by decide +kernel, rfl, by decide +kernel, by decide +kernel⟩
abbrev s_least_writes : Stmt := topS 17
abbrev N_least_writes : List Str := ["n", "k"]
theorem sc_least_writes : FnScope N_least_writes ["n", "k"] (defScope s_least_writes) := ⟨rfl, rfl, rfl, by decide +kernel, rfl, by decide +kernel, by decide +kernel⟩
abbrev s_check_number : Stmt := topS 18
abbrev N_check_number : List Str := ["number", "most"]
theorem sc_check_number : FnScope N_check_number ["number", "most"] (defScope s_check_number) := ⟨rfl, rfl, rfl, by decide +kernel, rfl, by decide +kernel, by decide +kernel⟩
abbrev s_check_runs : Stmt := topS 19
abbrev N_check_runs : List Str := ["k"]
theorem sc_check_runs : FnScope N_check_runs ["k"] (defScope s_check_runs) := ⟨rfl, rfl, rfl, by decide +kernel, rfl, by decide +kernel, by decide +kernel⟩
abbrev s_writes_needed : Stmt := topS 20
abbrev N_writes_needed : List Str := ["n", "k", "enough", "too_few", "middle"]
theorem sc_writes_needed : FnScope N_writes_needed ["n", "k"] (defScope s_writes_needed) := ⟨rfl, rfl, rfl, by decide +kernel, rfl, by decide +kernel, by decide +kernel⟩
abbrev s_policy_merge : Stmt := topS 21
abbrev N_policy_merge : List Str := ["k", "i"]
theorem sc_policy_merge : FnScope N_policy_merge ["k", "i"] (defScope s_policy_merge) := ⟨rfl, rfl, rfl, by decide +kernel, rfl, by decide +kernel, by decide +kernel⟩
abbrev s_run_lengths : Stmt := topS 22
abbrev N_run_lengths : List Str := ["k", "n", "lengths", "rest", "term", "length"]
theorem sc_run_lengths : FnScope N_run_lengths ["k", "n"] (defScope s_run_lengths) := ⟨rfl, rfl, rfl, by decide +kernel, rfl, by decide +kernel, by decide +kernel⟩
abbrev s_policy_runs : Stmt := topS 23
abbrev N_policy_runs : List Str := ["k", "n"]
theorem sc_policy_runs : FnScope N_policy_runs ["k", "n"] (defScope s_policy_runs) := ⟨rfl, rfl, rfl, by decide +kernel, rfl, by decide +kernel, by decide +kernel⟩
abbrev s_policy_schedule : Stmt := topS 24
abbrev N_policy_schedule : List Str := ["k", "n", "flush"]
theorem sc_policy_schedule : FnScope N_policy_schedule ["k", "n"] (defScope s_policy_schedule) := ⟨rfl, rfl, rfl, by decide +kernel, rfl, by decide +kernel, by decide +kernel⟩
abbrev s_L_s5_hand : Stmt := topS 26
abbrev N_L_s5_hand : List Str := ["_law_script", "_law_nth", "_law_cell", "_law_digits", "_law_mixed"]
theorem sc_L_s5_hand : FnScope N_L_s5_hand ["_law_script", "_law_nth"] (defScope s_L_s5_hand) := ⟨rfl, rfl, rfl, by decide +kernel, rfl, by decide +kernel, by decide +kernel⟩
abbrev s_L_s5_take : Stmt := topS 27
abbrev N_L_s5_take : List Str := ["_law_hand", "_law_size", "_law_digit", "_law_primes", "_law_prime", "_law_mixed", "_law_drawn"]
theorem sc_L_s5_take : FnScope N_L_s5_take ["_law_hand", "_law_size"] (defScope s_L_s5_take) := ⟨rfl, rfl, rfl, by decide +kernel, rfl, by decide +kernel, by decide +kernel⟩
abbrev s_L_s5_of : Stmt := topS 28
abbrev N_L_s5_of : List Str := ["_law_hand", "_law_options"]
theorem sc_L_s5_of : FnScope N_L_s5_of ["_law_hand", "_law_options"] (defScope s_L_s5_of) := ⟨rfl, rfl, rfl, by decide +kernel, rfl, by decide +kernel, by decide +kernel⟩
abbrev s_L_s5_odd : Stmt := topS 29
abbrev N_L_s5_odd : List Str := ["_law_low", "_law_high"]
theorem sc_L_s5_odd : FnScope N_L_s5_odd ["_law_low", "_law_high"] (defScope s_L_s5_odd) := ⟨rfl, rfl, rfl, by decide +kernel, rfl, by decide +kernel, by decide +kernel⟩
abbrev s_L_s5_nested : Stmt := topS 30
abbrev N_L_s5_nested : List Str := ["_law_hand", "_law_item", "_law_level"]
theorem sc_L_s5_nested : FnScope N_L_s5_nested ["_law_hand", "_law_item"] (defScope s_L_s5_nested) := ⟨rfl, rfl, rfl, by decide +kernel, rfl, by decide +kernel, by decide +kernel⟩
abbrev s_L_s5_met : Stmt := topS 31
abbrev N_L_s5_met : List Str := ["_law_call", "_law_caught", "_law_result", "error", "_law_kinds"]
theorem sc_L_s5_met : FnScope N_L_s5_met ["_law_call"] (defScope s_L_s5_met) := ⟨rfl, rfl, rfl, by decide +kernel, rfl, by decide +kernel, by decide +kernel⟩
abbrev s_L_s5_both_right : Stmt := topS 32
abbrev N_L_s5_both_right : List Str := ["_law_room", "_law_total", "_law_bad_k", "_law_bad_n", "_law_bad_short", "_law_cases", "_law_call", "_law_due"]
theorem sc_L_s5_both_right : FnScope N_L_s5_both_right ["_law_room", "_law_total", "_law_bad_k", "_law_bad_n", "_law_bad_short"] (defScope s_L_s5_both_right) := ⟨rfl, rfl, rfl, by decide +kernel, rfl, by decide +kernel, by decide +kernel⟩
abbrev s_law : Stmt := topS 33
abbrev N_law : List Str := ["_law_script", "_law_nth", "_law_hand", "_law_turn", "_law_bad_k", "_law_bad_n", "_law_bad_short", "_law_room", "_law_total"]
theorem sc_law : FnScope N_law ["_law_script"] (defScope s_law) := ⟨rfl, rfl, rfl, by decide +kernel, rfl, by decide +kernel, by decide +kernel⟩
abbrev s_init_InvalidSchedule : Stmt := clsDef (topS 2)
abbrev N_init_InvalidSchedule : List Str := ["self", "value"]
theorem sc_init_InvalidSchedule : FnScope N_init_InvalidSchedule ["self", "value"] (defScope s_init_InvalidSchedule) := ⟨rfl, rfl, rfl, by decide +kernel, rfl, by decide +kernel, by decide +kernel⟩
abbrev s_init_InvalidCount : Stmt := clsDef (topS 3)
abbrev N_init_InvalidCount : List Str := ["self", "value"]
theorem sc_init_InvalidCount : FnScope N_init_InvalidCount ["self", "value"] (defScope s_init_InvalidCount) := ⟨rfl, rfl, rfl, by decide +kernel, rfl, by decide +kernel, by decide +kernel⟩
abbrev s_init_InvalidBudget : Stmt := clsDef (topS 4)
abbrev N_init_InvalidBudget : List Str := ["self", "value"]
theorem sc_init_InvalidBudget : FnScope N_init_InvalidBudget ["self", "value"] (defScope s_init_InvalidBudget) := ⟨rfl, rfl, rfl, by decide +kernel, rfl, by decide +kernel, by decide +kernel⟩
abbrev s_init_InvalidState : Stmt := clsDef (topS 5)
abbrev N_init_InvalidState : List Str := ["self", "value"]
theorem sc_init_InvalidState : FnScope N_init_InvalidState ["self", "value"] (defScope s_init_InvalidState) := ⟨rfl, rfl, rfl, by decide +kernel, rfl, by decide +kernel, by decide +kernel⟩
abbrev s_init_InvalidMerge : Stmt := clsDef (topS 6)
abbrev N_init_InvalidMerge : List Str := ["self", "value"]
theorem sc_init_InvalidMerge : FnScope N_init_InvalidMerge ["self", "value"] (defScope s_init_InvalidMerge) := ⟨rfl, rfl, rfl, by decide +kernel, rfl, by decide +kernel, by decide +kernel⟩
set_option genInjectivity false in
set_option genSizeOfSpec false in
structure Tx (K : PySem.W.Frag) (mg : Str → Option Value) where
  a_is_int : Addr
  fd_is_int : FuncData
  f_is_int : Fun K "is_int" "is_int" s_is_int a_is_int fd_is_int
  g_is_int : mg "is_int" = some (.ref a_is_int)
  bd_is_int : Binds K fd_is_int ["value"] []
  a_is_count : Addr
  fd_is_count : FuncData
  f_is_count : Fun K "is_count" "is_count" s_is_count a_is_count fd_is_count
  g_is_count : mg "is_count" = some (.ref a_is_count)
  bd_is_count : Binds K fd_is_count ["value"] []
  a_is_count_up_to : Addr
  fd_is_count_up_to : FuncData
  f_is_count_up_to : Fun K "is_count_up_to" "is_count_up_to" s_is_count_up_to a_is_count_up_to fd_is_count_up_to
  g_is_count_up_to : mg "is_count_up_to" = some (.ref a_is_count_up_to)
  bd_is_count_up_to : Binds K fd_is_count_up_to ["value", "most"] []
  a_choose : Addr
  fd_choose : FuncData
  f_choose : Fun K "choose" "choose" s_choose a_choose fd_choose
  g_choose : mg "choose" = some (.ref a_choose)
  bd_choose : Binds K fd_choose ["n", "k"] []
  a_least_writes : Addr
  fd_least_writes : FuncData
  f_least_writes : Fun K "least_writes" "least_writes" s_least_writes a_least_writes fd_least_writes
  g_least_writes : mg "least_writes" = some (.ref a_least_writes)
  bd_least_writes : Binds K fd_least_writes ["n", "k"] []
  a_check_number : Addr
  fd_check_number : FuncData
  f_check_number : Fun K "check_number" "check_number" s_check_number a_check_number fd_check_number
  g_check_number : mg "check_number" = some (.ref a_check_number)
  bd_check_number : Binds K fd_check_number ["number", "most"] []
  a_check_runs : Addr
  fd_check_runs : FuncData
  f_check_runs : Fun K "check_runs" "check_runs" s_check_runs a_check_runs fd_check_runs
  g_check_runs : mg "check_runs" = some (.ref a_check_runs)
  bd_check_runs : Binds K fd_check_runs ["k"] []
  a_writes_needed : Addr
  fd_writes_needed : FuncData
  f_writes_needed : Fun K "writes_needed" "writes_needed" s_writes_needed a_writes_needed fd_writes_needed
  g_writes_needed : mg "writes_needed" = some (.ref a_writes_needed)
  bd_writes_needed : Binds K fd_writes_needed ["n", "k"] []
  a_policy_merge : Addr
  fd_policy_merge : FuncData
  f_policy_merge : Fun K "policy_merge" "policy_merge" s_policy_merge a_policy_merge fd_policy_merge
  g_policy_merge : mg "policy_merge" = some (.ref a_policy_merge)
  bd_policy_merge : Binds K fd_policy_merge ["k", "i"] []
  a_run_lengths : Addr
  fd_run_lengths : FuncData
  f_run_lengths : Fun K "run_lengths" "run_lengths" s_run_lengths a_run_lengths fd_run_lengths
  g_run_lengths : mg "run_lengths" = some (.ref a_run_lengths)
  bd_run_lengths : Binds K fd_run_lengths ["k", "n"] []
  a_policy_runs : Addr
  fd_policy_runs : FuncData
  f_policy_runs : Fun K "policy_runs" "policy_runs" s_policy_runs a_policy_runs fd_policy_runs
  g_policy_runs : mg "policy_runs" = some (.ref a_policy_runs)
  bd_policy_runs : Binds K fd_policy_runs ["k", "n"] []
  a_policy_schedule : Addr
  fd_policy_schedule : FuncData
  f_policy_schedule : Fun K "policy_schedule" "policy_schedule" s_policy_schedule a_policy_schedule fd_policy_schedule
  g_policy_schedule : mg "policy_schedule" = some (.ref a_policy_schedule)
  bd_policy_schedule : Binds K fd_policy_schedule ["k", "n"] []
  a_L_s5_hand : Addr
  fd_L_s5_hand : FuncData
  f_L_s5_hand : Fun K "_law_s5_hand" "_law_s5_hand" s_L_s5_hand a_L_s5_hand fd_L_s5_hand
  g_L_s5_hand : mg "_law_s5_hand" = some (.ref a_L_s5_hand)
  bd_L_s5_hand : Binds K fd_L_s5_hand ["_law_script", "_law_nth"] []
  a_L_s5_take : Addr
  fd_L_s5_take : FuncData
  f_L_s5_take : Fun K "_law_s5_take" "_law_s5_take" s_L_s5_take a_L_s5_take fd_L_s5_take
  g_L_s5_take : mg "_law_s5_take" = some (.ref a_L_s5_take)
  bd_L_s5_take : Binds K fd_L_s5_take ["_law_hand", "_law_size"] []
  a_L_s5_of : Addr
  fd_L_s5_of : FuncData
  f_L_s5_of : Fun K "_law_s5_of" "_law_s5_of" s_L_s5_of a_L_s5_of fd_L_s5_of
  g_L_s5_of : mg "_law_s5_of" = some (.ref a_L_s5_of)
  bd_L_s5_of : Binds K fd_L_s5_of ["_law_hand", "_law_options"] []
  a_L_s5_odd : Addr
  fd_L_s5_odd : FuncData
  f_L_s5_odd : Fun K "_law_s5_odd" "_law_s5_odd" s_L_s5_odd a_L_s5_odd fd_L_s5_odd
  g_L_s5_odd : mg "_law_s5_odd" = some (.ref a_L_s5_odd)
  bd_L_s5_odd : Binds K fd_L_s5_odd ["_law_low", "_law_high"] []
  a_L_s5_nested : Addr
  fd_L_s5_nested : FuncData
  f_L_s5_nested : Fun K "_law_s5_nested" "_law_s5_nested" s_L_s5_nested a_L_s5_nested fd_L_s5_nested
  g_L_s5_nested : mg "_law_s5_nested" = some (.ref a_L_s5_nested)
  bd_L_s5_nested : Binds K fd_L_s5_nested ["_law_hand", "_law_item"] []
  a_L_s5_met : Addr
  fd_L_s5_met : FuncData
  f_L_s5_met : Fun K "_law_s5_met" "_law_s5_met" s_L_s5_met a_L_s5_met fd_L_s5_met
  g_L_s5_met : mg "_law_s5_met" = some (.ref a_L_s5_met)
  bd_L_s5_met : Binds K fd_L_s5_met ["_law_call"] []
  a_L_s5_both_right : Addr
  fd_L_s5_both_right : FuncData
  f_L_s5_both_right : Fun K "_law_s5_both_right" "_law_s5_both_right" s_L_s5_both_right a_L_s5_both_right fd_L_s5_both_right
  g_L_s5_both_right : mg "_law_s5_both_right" = some (.ref a_L_s5_both_right)
  bd_L_s5_both_right : Binds K fd_L_s5_both_right ["_law_room", "_law_total", "_law_bad_k", "_law_bad_n", "_law_bad_short"] []
  a_law : Addr
  fd_law : FuncData
  f_law : Fun K "law" "law" s_law a_law fd_law
  g_law : mg "law" = some (.ref a_law)
  bd_law : Binds K fd_law ["_law_script"] []
  b_isinstance : mg "isinstance" = none
  b_int : mg "int" = none
  b_bool : mg "bool" = none
  b_range : mg "range" = none
  b_min : mg "min" = none
  b_len : mg "len" = none
  b_tuple : mg "tuple" = none
  b_abs : mg "abs" = none
  b_ValueError : mg "ValueError" = none
  b_all : mg "all" = none
  b_repr : mg "repr" = none
  b_max : mg "max" = none
  c_MergeBudgetError : Addr
  gc_MergeBudgetError : mg "MergeBudgetError" = some (.ref c_MergeBudgetError)
  kc_MergeBudgetError : PySem.W.keepIn K (.ref c_MergeBudgetError) = true
  xe_MergeBudgetError : ExcC K c_MergeBudgetError
  xf_MergeBudgetError : XfC K c_MergeBudgetError
  xi_MergeBudgetError : PySem.W.excIn K c_MergeBudgetError PySem.HandSPX.veTail "ValueError.__new__" = true
  c_InvalidSchedule : Addr
  gc_InvalidSchedule : mg "InvalidSchedule" = some (.ref c_InvalidSchedule)
  kc_InvalidSchedule : PySem.W.keepIn K (.ref c_InvalidSchedule) = true
  xe_InvalidSchedule : ExcC K c_InvalidSchedule
  xf_InvalidSchedule : XfC K c_InvalidSchedule
  ox_InvalidSchedule : OexC K c_InvalidSchedule
  no_InvalidSchedule : PySem.W.findIn K (.ref c_InvalidSchedule) "value" = some none
  fi_InvalidSchedule : Addr
  fdi_InvalidSchedule : FuncData
  ic_InvalidSchedule : PySem.W.findIn K (.ref c_InvalidSchedule) "__init__" = some (some (.ref fi_InvalidSchedule))
  ti_InvalidSchedule : PySem.W.typeIn K (.ref fi_InvalidSchedule) = some (.type "function")
  ui_InvalidSchedule : L2.Fun K "__init__" "InvalidSchedule.__init__" s_init_InvalidSchedule fi_InvalidSchedule fdi_InvalidSchedule
  bi_InvalidSchedule : Binds K fdi_InvalidSchedule ["self", "value"] []
  c_InvalidCount : Addr
  gc_InvalidCount : mg "InvalidCount" = some (.ref c_InvalidCount)
  kc_InvalidCount : PySem.W.keepIn K (.ref c_InvalidCount) = true
  xe_InvalidCount : ExcC K c_InvalidCount
  xf_InvalidCount : XfC K c_InvalidCount
  ox_InvalidCount : OexC K c_InvalidCount
  no_InvalidCount : PySem.W.findIn K (.ref c_InvalidCount) "value" = some none
  fi_InvalidCount : Addr
  fdi_InvalidCount : FuncData
  ic_InvalidCount : PySem.W.findIn K (.ref c_InvalidCount) "__init__" = some (some (.ref fi_InvalidCount))
  ti_InvalidCount : PySem.W.typeIn K (.ref fi_InvalidCount) = some (.type "function")
  ui_InvalidCount : L2.Fun K "__init__" "InvalidCount.__init__" s_init_InvalidCount fi_InvalidCount fdi_InvalidCount
  bi_InvalidCount : Binds K fdi_InvalidCount ["self", "value"] []
  c_InvalidBudget : Addr
  gc_InvalidBudget : mg "InvalidBudget" = some (.ref c_InvalidBudget)
  kc_InvalidBudget : PySem.W.keepIn K (.ref c_InvalidBudget) = true
  xe_InvalidBudget : ExcC K c_InvalidBudget
  xf_InvalidBudget : XfC K c_InvalidBudget
  ox_InvalidBudget : OexC K c_InvalidBudget
  no_InvalidBudget : PySem.W.findIn K (.ref c_InvalidBudget) "value" = some none
  fi_InvalidBudget : Addr
  fdi_InvalidBudget : FuncData
  ic_InvalidBudget : PySem.W.findIn K (.ref c_InvalidBudget) "__init__" = some (some (.ref fi_InvalidBudget))
  ti_InvalidBudget : PySem.W.typeIn K (.ref fi_InvalidBudget) = some (.type "function")
  ui_InvalidBudget : L2.Fun K "__init__" "InvalidBudget.__init__" s_init_InvalidBudget fi_InvalidBudget fdi_InvalidBudget
  bi_InvalidBudget : Binds K fdi_InvalidBudget ["self", "value"] []
  c_InvalidState : Addr
  gc_InvalidState : mg "InvalidState" = some (.ref c_InvalidState)
  kc_InvalidState : PySem.W.keepIn K (.ref c_InvalidState) = true
  xe_InvalidState : ExcC K c_InvalidState
  xf_InvalidState : XfC K c_InvalidState
  ox_InvalidState : OexC K c_InvalidState
  no_InvalidState : PySem.W.findIn K (.ref c_InvalidState) "value" = some none
  fi_InvalidState : Addr
  fdi_InvalidState : FuncData
  ic_InvalidState : PySem.W.findIn K (.ref c_InvalidState) "__init__" = some (some (.ref fi_InvalidState))
  ti_InvalidState : PySem.W.typeIn K (.ref fi_InvalidState) = some (.type "function")
  ui_InvalidState : L2.Fun K "__init__" "InvalidState.__init__" s_init_InvalidState fi_InvalidState fdi_InvalidState
  bi_InvalidState : Binds K fdi_InvalidState ["self", "value"] []
  c_InvalidMerge : Addr
  gc_InvalidMerge : mg "InvalidMerge" = some (.ref c_InvalidMerge)
  kc_InvalidMerge : PySem.W.keepIn K (.ref c_InvalidMerge) = true
  xe_InvalidMerge : ExcC K c_InvalidMerge
  xf_InvalidMerge : XfC K c_InvalidMerge
  ox_InvalidMerge : OexC K c_InvalidMerge
  no_InvalidMerge : PySem.W.findIn K (.ref c_InvalidMerge) "value" = some none
  fi_InvalidMerge : Addr
  fdi_InvalidMerge : FuncData
  ic_InvalidMerge : PySem.W.findIn K (.ref c_InvalidMerge) "__init__" = some (some (.ref fi_InvalidMerge))
  ti_InvalidMerge : PySem.W.typeIn K (.ref fi_InvalidMerge) = some (.type "function")
  ui_InvalidMerge : L2.Fun K "__init__" "InvalidMerge.__init__" s_init_InvalidMerge fi_InvalidMerge fdi_InvalidMerge
  bi_InvalidMerge : Binds K fdi_InvalidMerge ["self", "value"] []
  kits : kitB K [c_InvalidSchedule, c_InvalidCount, c_InvalidBudget, c_InvalidState, c_InvalidMerge] c_MergeBudgetError = true
  kitn : [c_InvalidSchedule, c_InvalidCount, c_InvalidBudget, c_InvalidState, c_InvalidMerge].Nodup
  kitz : c_MergeBudgetError ∉ [c_InvalidSchedule, c_InvalidCount, c_InvalidBudget, c_InvalidState, c_InvalidMerge]
  cdl_L_s5_both_right : Addr
  ptl_L_s5_both_right : Addr
  lawc_L_s5_both_right : ∃ (oc : Value) (od : Option Addr) (kV doc pm : Value) (an : Option Addr) (ct : Value) (osl : Array (Option Value)), fd_L_s5_both_right = PySem.W.fnOf "_law_s5_both_right" "_law_s5_both_right" (defArgs s_L_s5_both_right) (defBody s_L_s5_both_right) (defScope s_L_s5_both_right) .none kV doc pm an (.ref cdl_L_s5_both_right) ct ∧ K.lookup a_L_s5_both_right = some ⟨oc, od, .func fd_L_s5_both_right, osl⟩ ∧ PySem.W.codeIn K (.ref cdl_L_s5_both_right) "_law_s5_both_right" = true
  t_MOST_BUDGET : Tok
  c_MOST_BUDGET : mg "MOST_BUDGET" = some (.int (60) t_MOST_BUDGET)
  t_MOST_FLUSHES : Tok
  c_MOST_FLUSHES : mg "MOST_FLUSHES" = some (.int (60) t_MOST_FLUSHES)
  t_MOST_POSITION : Tok
  c_MOST_POSITION : mg "MOST_POSITION" = some (.int (1000000000000000000) t_MOST_POSITION)
/-- no int, or a bool -/
def NotJ (K : PySem.W.Frag) (H : Hp) (x : V) : Prop := ∃ T b1 b2, TyX K H x (.type T) ∧ L2.kitB T "int" = some b1 ∧ L2.kitB T "bool" = some b2 ∧ (b1 && !b2) = false
theorem tyx_same {K : PySem.W.Frag} {H H' : Hp} (s : Same H H') {x : V} {t : Value} (h : TyX K H x t) : TyX K H' x t := by
  cases h with
  | base h =>
    cases h with
    | non => exact .base .non
    | bl x => exact .base (.bl x)
    | int i => exact .base (.int i)
    | str x => exact .base (.str x)
    | flt x => exact .base (.flt x)
    | lst e => exact .base (.lst (s _ _ e))
    | frz e => exact .base (.frz (s _ _ e))
    | tup e => exact .base (.tup (s _ _ e))
    | dK e => exact .base (.dK (s _ _ e))
    | dT e => exact .base (.dT (s _ _ e))
    | ins e c1 c2 c3 c4 c5 => exact .base (.ins (s _ _ e) c1 c2 c3 c4 c5)
  | byt b => exact .byt b
  | set e => exact .set (s _ _ e)
  | kList e c => exact .kList e c
  | kTuple e c => exact .kTuple e c
  | kDict e c => exact .kDict e c
  | fTuple e => exact .fTuple (s _ _ e)
  | fDict e => exact .fDict (s _ _ e)
section
variable {P : Program} {w : World} {K : PySem.W.Frag} {mg : Str → Option Value} {base : Heap}
def sp_is_intD (K : PySem.W.Frag) : Sp := fun vs H Q _ => ∃ x T b1 b2, vs = [x] ∧ TyX K H x (.type T) ∧ L2.kitB T "int" = some b1 ∧ L2.kitB T "bool" = some b2 ∧ Q (.bl (b1 && !b2)) H
theorem ok_is_intD (TX : Tx K mg) : FnOk P w K mg base CX0 1 TX.a_is_int TX.fd_is_int ["value"] (sp_is_intD K) := by
  refine TX.f_is_int.ok sc_is_int (fun vs H Q E h => ?_) (fun cdv A outer s H vs Q E hr h => ?_)
  · obtain ⟨x, T, b1, b2, rfl, _⟩ := h; rfl
  · obtain ⟨x, T, b1, b2, rfl, hT, h1, h2, q⟩ := h
    refine ⟨_, (pss_one (ps_ret (pe_and (pe_callB (id := "isinstance") (k_isi (K := K) rfl) (by rfl) TX.b_isinstance (by decide +kernel) (pa_cons (pv 0) (pa_cons (pe_bltn (v := .ty "int") (by rfl) TX.b_int (by decide +kernel) rfl) pa_nil))) (pe_one (pe_not (pe_callB (id := "isinstance") (k_isi (K := K) rfl) (by rfl) TX.b_isinstance (by decide +kernel) (pa_cons (pv 0) (pa_cons (pe_bltn (v := .ty "bool") (by rfl) TX.b_bool (by decide +kernel) rfl) pa_nil)))))))), ?_⟩
    refine ⟨x, rfl, x, .ty "int", .type T, .type "int", b1, rfl, .ty _, hT, kit_ty h1, b1, rfl, ?_⟩
    cases b1 with
    | false => exact iteF q
    | true => exact iteT ⟨x, rfl, x, .ty "bool", .type T, .type "bool", b2, rfl, .ty _, hT, kit_ty h2, b2, rfl, q⟩
def sp_is_count (K : PySem.W.Frag) : Sp := fun vs H Q _ => ∃ x, vs = [x] ∧ ((∃ i, x = .int i ∧ Q (.bl (decide (0 ≤ i))) H) ∨ (NotJ K H x ∧ Q (.bl false) H))
theorem ok_is_count (TX : Tx K mg) : FnOk P w K mg base CX0 2 TX.a_is_count TX.fd_is_count ["value"] (sp_is_count K) := by
  refine TX.f_is_count.ok sc_is_count (fun vs H Q E h => ?_) (fun cdv A outer s H vs Q E hr h => ?_)
  · obtain ⟨x, rfl, _⟩ := h; rfl
  · obtain ⟨x, rfl, hx⟩ := h
    refine ⟨_, (pss_one (ps_ret (pe_and (pe_call (ok_is_intD TX) (hr.mono (by decide)) (by rfl) TX.g_is_int TX.f_is_int.kp TX.bd_is_int .nil pass0 (pa_cons (pv 0) pa_nil)) (pe_one (pe_cmpR op_ge (pv 0) pe_int (nomark _)))))), ?_⟩
    rcases hx with ⟨i, rfl, q⟩ | ⟨⟨T, b1, b2, hT, h1, h2, hb⟩, q⟩
    · exact ⟨_, rfl, .int i, "int", true, false, rfl, .base (.int i), by decide +kernel, by decide +kernel, true, rfl, iteT ⟨_, rfl, _, _, rfl, rfl, q⟩⟩
    · refine ⟨_, rfl, x, T, b1, b2, rfl, hT, h1, h2, ?_⟩
      rw [hb]
      exact ⟨false, rfl, iteF q⟩
def sp_is_count_up_to (K : PySem.W.Frag) : Sp := fun vs H Q _ => ∃ x m, vs = [x, .int m] ∧ ((∃ i, x = .int i ∧ Q (.bl (decide (0 ≤ i) && decide (i ≤ m))) H) ∨ (NotJ K H x ∧ Q (.bl false) H))
theorem ok_is_count_up_to (TX : Tx K mg) : FnOk P w K mg base CX0 3 TX.a_is_count_up_to TX.fd_is_count_up_to ["value", "most"] (sp_is_count_up_to K) := by
  refine TX.f_is_count_up_to.ok sc_is_count_up_to (fun vs H Q E h => ?_) (fun cdv A outer s H vs Q E hr h => ?_)
  · obtain ⟨x, m, rfl, _⟩ := h; rfl
  · obtain ⟨x, m, rfl, hx⟩ := h
    refine ⟨_, (pss_one (ps_ret (pe_and (pe_call (ok_is_count TX) (hr.mono (by decide)) (by rfl) TX.g_is_count TX.f_is_count.kp TX.bd_is_count .nil pass0 (pa_cons (pv 0) pa_nil)) (pe_one (pe_cmpR op_le (pv 0) (pv 1) (nomark _)))))), ?_⟩
    rcases hx with ⟨i, rfl, q⟩ | ⟨hN, q⟩
    · refine ⟨_, rfl, _, rfl, .inl ⟨i, rfl, _, rfl, ?_⟩⟩
      by_cases h0 : 0 ≤ i
      · rw [decide_eq_true h0] at q ⊢
        exact iteT ⟨_, rfl, _, rfl, _, _, rfl, rfl, q⟩
      · rw [decide_eq_false h0] at q ⊢
        exact iteF q
    · exact ⟨_, rfl, _, rfl, .inr ⟨hN, _, rfl, iteF q⟩⟩
theorem ok_init_InvalidSchedule (TX : Tx K mg) : FnOk P w K mg base CX0 1 TX.fi_InvalidSchedule TX.fdi_InvalidSchedule ["self", "value"] (sp_init K TX.c_InvalidSchedule "value") := by
  refine TX.ui_InvalidSchedule.ok sc_init_InvalidSchedule (fun vs H Q E h => ?_) (fun cdv A outer s H vs Q E hr h => ?_)
  · obtain ⟨a, y, rfl, _⟩ := h; rfl
  · obtain ⟨a, y, rfl, ha, q⟩ := h
    exact ⟨_, (pss_one (ps_ost (pv 0) (pv 1))), y, rfl, .ref a, rfl, a, TX.c_InvalidSchedule, rfl, TX.ox_InvalidSchedule, TX.no_InvalidSchedule, .inl ⟨ha, fun dx n ne => q dx n ne⟩⟩
theorem ok_init_InvalidCount (TX : Tx K mg) : FnOk P w K mg base CX0 1 TX.fi_InvalidCount TX.fdi_InvalidCount ["self", "value"] (sp_init K TX.c_InvalidCount "value") := by
  refine TX.ui_InvalidCount.ok sc_init_InvalidCount (fun vs H Q E h => ?_) (fun cdv A outer s H vs Q E hr h => ?_)
  · obtain ⟨a, y, rfl, _⟩ := h; rfl
  · obtain ⟨a, y, rfl, ha, q⟩ := h
    exact ⟨_, (pss_one (ps_ost (pv 0) (pv 1))), y, rfl, .ref a, rfl, a, TX.c_InvalidCount, rfl, TX.ox_InvalidCount, TX.no_InvalidCount, .inl ⟨ha, fun dx n ne => q dx n ne⟩⟩
theorem ok_init_InvalidBudget (TX : Tx K mg) : FnOk P w K mg base CX0 1 TX.fi_InvalidBudget TX.fdi_InvalidBudget ["self", "value"] (sp_init K TX.c_InvalidBudget "value") := by
  refine TX.ui_InvalidBudget.ok sc_init_InvalidBudget (fun vs H Q E h => ?_) (fun cdv A outer s H vs Q E hr h => ?_)
  · obtain ⟨a, y, rfl, _⟩ := h; rfl
  · obtain ⟨a, y, rfl, ha, q⟩ := h
    exact ⟨_, (pss_one (ps_ost (pv 0) (pv 1))), y, rfl, .ref a, rfl, a, TX.c_InvalidBudget, rfl, TX.ox_InvalidBudget, TX.no_InvalidBudget, .inl ⟨ha, fun dx n ne => q dx n ne⟩⟩
theorem ok_init_InvalidState (TX : Tx K mg) : FnOk P w K mg base CX0 1 TX.fi_InvalidState TX.fdi_InvalidState ["self", "value"] (sp_init K TX.c_InvalidState "value") := by
  refine TX.ui_InvalidState.ok sc_init_InvalidState (fun vs H Q E h => ?_) (fun cdv A outer s H vs Q E hr h => ?_)
  · obtain ⟨a, y, rfl, _⟩ := h; rfl
  · obtain ⟨a, y, rfl, ha, q⟩ := h
    exact ⟨_, (pss_one (ps_ost (pv 0) (pv 1))), y, rfl, .ref a, rfl, a, TX.c_InvalidState, rfl, TX.ox_InvalidState, TX.no_InvalidState, .inl ⟨ha, fun dx n ne => q dx n ne⟩⟩
theorem ok_init_InvalidMerge (TX : Tx K mg) : FnOk P w K mg base CX0 1 TX.fi_InvalidMerge TX.fdi_InvalidMerge ["self", "value"] (sp_init K TX.c_InvalidMerge "value") := by
  refine TX.ui_InvalidMerge.ok sc_init_InvalidMerge (fun vs H Q E h => ?_) (fun cdv A outer s H vs Q E hr h => ?_)
  · obtain ⟨a, y, rfl, _⟩ := h; rfl
  · obtain ⟨a, y, rfl, ha, q⟩ := h
    exact ⟨_, (pss_one (ps_ost (pv 0) (pv 1))), y, rfl, .ref a, rfl, a, TX.c_InvalidMerge, rfl, TX.ox_InvalidMerge, TX.no_InvalidMerge, .inl ⟨ha, fun dx n ne => q dx n ne⟩⟩
/-- a budget, or none -/
def Bud (m : Int) (x : V) : Prop := ∃ i, x = .int i ∧ 0 ≤ i ∧ i ≤ m
def NoBud (K : PySem.W.Frag) (H : Hp) (m : Int) (x : V) : Prop := (∃ i, x = .int i ∧ (decide (0 ≤ i) && decide (i ≤ m)) = false) ∨ NotJ K H x
theorem bud_no {H : Hp} {m : Int} {x : V} (h : Bud m x) (n : NoBud K H m x) : False := by
  obtain ⟨i, rfl, h1, h2⟩ := h
  rcases n with ⟨j, e, hj⟩ | ⟨T, b1, b2, hT, k1, k2, hb⟩
  · cases e
    rw [decide_eq_true h1, decide_eq_true h2] at hj
    cases hj
  · have eT : T = "int" := by
      cases hT with
      | base h => cases h; rfl
    subst eT
    have e1 : L2.kitB "int" "int" = some true := by decide +kernel
    have e2 : L2.kitB "int" "bool" = some false := by decide +kernel
    rw [e1] at k1
    rw [e2] at k2
    cases k1
    cases k2
    cases hb
end
section
variable {P : Program} {w : World} {K : PySem.W.Frag} {mg : Str → Option Value} {base : Heap}
theorem min_nat (a b : Nat) : (if (b : Int) < (a : Int) then (b : Int) else (a : Int)) = ((min a b : Nat) : Int) := by
  by_cases h : b < a
  · rw [if_pos (by omega), Nat.min_eq_right (by omega)]
  · rw [if_neg (by omega), Nat.min_eq_left (by omega)]
theorem max_nat (a b : Nat) : (if (b : Int) > (a : Int) then (b : Int) else (a : Int)) = ((max a b : Nat) : Int) := by
  by_cases h : b > a
  · rw [if_pos (by omega), Nat.max_eq_right (by omega)]
  · rw [if_neg (by omega), Nat.max_eq_left (by omega)]
theorem bin_turn {n j : Nat} (h : j < n) : (bin n j : Int) * ((n : Int) - (j : Int)) / ((j : Int) + 1) = (bin n (j + 1) : Int) := by
  rw [← bin_div (n := n) (j := j) (by omega)]
  have e : ((n : Int) - (j : Int)) = ((n - j : Nat) : Int) := by omega
  rw [e]; norm_cast
def sp_choose (K : PySem.W.Frag) : Sp := fun vs H Q _ => ∃ n k : Nat, vs = [.int (n : Int), .int (k : Int)] ∧ k ≤ n ∧ k ≤ 64 ∧ n < 2 ^ 64 ∧ Q (.int (bin n k : Int)) H
theorem ok_choose (TX : Tx K mg) : FnOk P w K mg base CX0 1 TX.a_choose TX.fd_choose ["n", "k"] (sp_choose K) := by
  refine TX.f_choose.ok sc_choose (fun vs H Q E h => ?_) (fun cdv A outer s H vs Q E hr h => ?_)
  · obtain ⟨n, k, rfl, _⟩ := h; rfl
  · obtain ⟨n, k, rfl, hk, hk2, hn, q⟩ := h
    refine ⟨_, (pss_cons (ps_set (i := 2) sc_choose.nd rfl (.inl rfl) pe_int)
      (pss_cons (ps_for PassesOwn.never rfl (pi_range2 (by rfl) TX.b_range (pa_cons pe_int (pa_cons (pe_op op_add (pe_callB (id := "min") (call_min2 rfl) (by rfl) TX.b_min (by decide +kernel) (pa_cons (pv 1) (pa_cons (pe_op op_sub (pv 0) (pv 1)) pa_nil))) pe_int) pa_nil))) (pg_name (i := 3) sc_choose.nd rfl (.inl rfl))
        (pss_one (ps_set (i := 2) sc_choose.nd rfl (.inl rfl) (pe_op op_fdivW (pe_op op_mulW (pv 2) (pe_op op_sub (pe_op op_add (pv 0) pe_int) (pv 3))) (pv 3)))))
      (pss_one (ps_ret (pv 2))))), ?_⟩
    refine ⟨_, rfl, _, rfl, _, rfl, _, _, rfl, rfl, _, _, rfl, _, _, rfl, rfl, _, _, rfl, ?_⟩
    have em : (if (n : Int) - (k : Int) < (k : Int) then (n : Int) - (k : Int) else (k : Int)) = ((min k (n - k) : Nat) : Int) := by
      have := min_nat k (n - k)
      rwa [show ((n - k : Nat) : Int) = (n : Int) - (k : Int) by omega] at this
    rw [em]
    have hm1 : min k (n - k) ≤ 64 := by omega
    have hm2 : min k (n - k) ≤ n := by omega
    rw [← bin_min hk] at q
    generalize min k (n - k) = m at hm1 hm2 q
    refine ⟨⟨by decide, by decide, by omega, by omega⟩, for_range (lo := 1) (n := (((m : Nat) : Int) + 1 - 1).toNat) (fun i σ H' => H' = H ∧ ∃ y, σ = [some (.int (n : Int)), some (.int (k : Int)), some (.int (bin n i : Int)), y]) ⟨rfl, none, by rw [bin_zero]; rfl⟩ ?_ ?_⟩
    · rintro i σ H' hi ⟨rfl, y, rfl⟩
      refine ⟨_, rfl, _, rfl, _, _, rfl, rfl, _, rfl, _, _, rfl, rfl, _, _, rfl, rfl, ?_, _, rfl, _, _, rfl, rfl, ?_, rfl, some (.int (1 + (i : Int))), ?_⟩
      · have := bin_bits (n := n) (k := i) hn (by omega)
        exact wide_mul (a := 4097) (b := 65) (by omega) (by omega) (by decide) (by decide) (by decide)
      · exact wide_div (b := 8) (by omega) (by omega) (by decide) (by decide)
      · have e1 : (n : Int) + 1 - (1 + (i : Int)) = (n : Int) - (i : Int) := by omega
        have e2 : (1 + (i : Int)) = (i : Int) + 1 := by omega
        show [_, _, _, _] = [_, _, _, _]
        simp only [List.cons.injEq, Option.some.injEq, V.int.injEq, and_true, true_and]
        rw [e1, e2]
        exact bin_turn (by omega)
    · rintro σ H' ⟨rfl, y, rfl⟩
      refine ⟨_, rfl, ?_⟩
      rw [show (((m : Nat) : Int) + 1 - 1).toNat = m by omega]
      exact q
end
section
variable {P : Program} {w : World} {K : PySem.W.Frag} {mg : Str → Option Value} {base : Heap}
def sp_writes_needed (K : PySem.W.Frag) : Sp := fun vs H Q _ => ∃ n k : Nat, vs = [.int (n : Int), .int (k : Int)] ∧ 1 ≤ k ∧ k ≤ 60 ∧ n ≤ 2 ^ 62 ∧ Q (.int (lwr k n : Int)) H
theorem ok_writes_needed (TX : Tx K mg) : FnOk P w K mg base CX0 2 TX.a_writes_needed TX.fd_writes_needed ["n", "k"] (sp_writes_needed K) := by
  refine TX.f_writes_needed.ok sc_writes_needed (fun vs H Q E h => ?_) (fun cdv A outer s H vs Q E hr h => ?_)
  · obtain ⟨n, k, rfl, _⟩ := h; rfl
  · obtain ⟨n, k, rfl, hk, hk2, hn, q⟩ := h
    refine ⟨_, (pss_cons (ps_set (i := 2) sc_writes_needed.nd rfl (.inl rfl) pe_int)
      (pss_cons (ps_while PassesOwn.never (pt_cmpR op_le (pe_call (ok_choose TX) (hr.mono (by decide)) (by rfl) TX.g_choose TX.f_choose.kp TX.bd_choose .nil pass0 (pa_cons (pe_op op_add (pv 1) (pv 2)) (pa_cons (pv 1) pa_nil))) (pv 0) (nomark _))
        (pss_one (ps_aug (i := 2) sc_writes_needed.nd rfl (.inl rfl) pe_int ip_mulW)))
      (pss_cut (ps_set (i := 3) sc_writes_needed.nd rfl (.inl rfl) (pe_ifExp (pt_cmpR op_gt (pv 2) pe_int (nomark _)) (pe_op op_fdivW (pv 2) pe_int) (pe_un un_neg pe_int)))
      (pss_cons (ps_while PassesOwn.never (pt_cmpR op_gt (pe_op op_sub (pv 2) (pv 3)) pe_int (nomark _))
        (pss_cons (ps_set (i := 4) sc_writes_needed.nd rfl (.inl rfl) (pe_op op_fdivW (pe_op op_add (pv 3) (pv 2)) pe_int))
        (pss_one (ps_if (pt_cmpR op_le (pe_call (ok_choose TX) (hr.mono (by decide)) (by rfl) TX.g_choose TX.f_choose.kp TX.bd_choose .nil pass0 (pa_cons (pe_op op_add (pv 1) (pv 4)) (pa_cons (pv 1) pa_nil))) (pv 0) (nomark _))
          (pss_one (ps_set (i := 3) sc_writes_needed.nd rfl (.inl rfl) (pv 4)))
          (pss_one (ps_set (i := 2) sc_writes_needed.nd rfl (.inl rfl) (pv 4)))))))
      (pss_one (ps_ret (pv 2))))))), ?_⟩
    refine ⟨fun m σ H' => H' = H ∧ ∃ e : Nat, σ = [some (.int (n : Int)), some (.int (k : Int)), some (.int (e : Int)), none, none] ∧ 1 ≤ e ∧ (e = 1 ∨ (e % 2 = 0 ∧ bin (k + e / 2) k ≤ n)) ∧ e ≤ 2 * n + 2 ∧ m = 2 * n + 2 - e, ⟨_, rfl, 1, rfl, by decide, .inl rfl, by omega, rfl⟩, ?_⟩
    rintro m σ H' ⟨rfl, e, rfl, h1, h2, h3, rfl⟩
    refine ⟨_, rfl, _, rfl, _, _, rfl, rfl, _, rfl, k + e, k, rfl, by omega, by omega, by omega, _, rfl, _, _, rfl, rfl, _, rfl, ?_⟩
    by_cases hc : bin (k + e) k ≤ n
    · refine decT (by omega) ⟨_, fun _ _ h => h, _, rfl, _, _, rfl, rfl, wide_mul (a := 64) (b := 3) (by omega) (by decide) (by decide) (by decide) (by decide), ?_⟩
      have hb := bin_big (k := k) (c := e) hk
      refine ⟨2 * n + 2 - 2 * e, by omega, rfl, 2 * e, ?_, by omega, .inr ⟨by omega, by rw [show 2 * e / 2 = e by omega]; exact hc⟩, by omega, rfl⟩
      show [_, _, _, _, _] = [_, _, _, _, _]
      simp only [List.cons.injEq, Option.some.injEq, V.int.injEq, and_true, true_and]
      omega
    · refine decF (by omega) ?_
      refine ⟨fun σ' H2 => H2 = H' ∧ ∃ tf : Int, (tf = -1 ∨ ∃ t : Nat, tf = (t : Int) ∧ bin (k + t) k ≤ n) ∧ tf < (e : Int) ∧ σ' = [some (.int (n : Int)), some (.int (k : Int)), some (.int (e : Int)), some (.int tf), none], ?_, ?_⟩
      · refine ⟨_, rfl, _, _, rfl, rfl, _, rfl, ?_⟩
        by_cases he : 1 < e
        · rcases h2 with h2 | ⟨h2, h2'⟩
          · omega
          · exact decT (by omega) ⟨_, rfl, _, _, rfl, rfl, wide_div (b := 3) (by decide) (by decide) (by decide) (by decide), rfl, ((e / 2 : Nat) : Int), .inr ⟨_, rfl, h2'⟩, by omega, rfl⟩
        · exact decF (by omega) ⟨_, rfl, rfl, -1, .inl rfl, by omega, rfl⟩
      rintro σ' H2 ⟨rfl, tf, htf, hlt, rfl⟩
      refine ⟨fun m σ H4 => H4 = H2 ∧ ∃ (e : Nat) (tf : Int) (y : Option V), σ = [some (.int (n : Int)), some (.int (k : Int)), some (.int (e : Int)), some (.int tf), y] ∧ n < bin (k + e) k ∧ (tf = -1 ∨ ∃ t : Nat, tf = (t : Int) ∧ bin (k + t) k ≤ n) ∧ tf < (e : Int) ∧ e ≤ 2 * n + 2 ∧ m = ((e : Int) - tf).toNat, ⟨_, rfl, e, tf, none, rfl, by omega, htf, hlt, h3, rfl⟩, ?_⟩
      rintro m σ H3 ⟨rfl, e, tf, y, rfl, g1, g2, g3, g4, rfl⟩
      refine ⟨_, rfl, _, rfl, _, _, rfl, rfl, _, _, rfl, rfl, _, rfl, ?_⟩
      have tf0 : -1 ≤ tf := by
        rcases g2 with g | ⟨t, g, _⟩ <;> omega
      by_cases hx : (e : Int) - tf > 1
      · refine decT hx ⟨_, fun _ _ h => h, ?_⟩
        refine ⟨_, rfl, _, rfl, _, _, rfl, rfl, _, _, rfl, rfl, wide_div (b := 3) (by decide) (by decide) (by decide) (by decide), ?_⟩
        have m0 : ∃ md : Nat, (tf + (e : Int)) / 2 = (md : Int) ∧ tf < (md : Int) ∧ md < e := ⟨((tf + (e : Int)) / 2).toNat, by omega, by omega, by omega⟩
        obtain ⟨md, em, m1, m2⟩ := m0
        dsimp only
        rw [em]
        refine ⟨_, rfl, _, rfl, _, _, rfl, rfl, _, rfl, k + md, k, rfl, by omega, by omega, by omega, _, rfl, _, _, rfl, rfl, _, rfl, ?_⟩
        by_cases hd : bin (k + md) k ≤ n
        · exact decT (by omega) ⟨_, rfl, _, by omega, rfl, e, md, _, rfl, g1, .inr ⟨md, rfl, hd⟩, by omega, g4, rfl⟩
        · exact decF (by omega) ⟨_, rfl, _, by omega, rfl, md, tf, _, rfl, by omega, g2, m1, by omega, rfl⟩
      · refine decF hx ⟨_, rfl, ?_⟩
        have he : lwr k n = e := by
          refine (lw_ok n hk).uniq (Lw.mk' g1 ?_)
          rcases g2 with g | ⟨t, g, g'⟩
          · left; omega
          · right
            rw [show e - 1 = t by omega]; exact g'
        rw [← he]
        exact q
end
section
variable {P : Program} {w : World} {K : PySem.W.Frag} {mg : Str → Option Value} {base : Heap}
def sp_run_lengths (K : PySem.W.Frag) : Sp := fun vs H Q _ => ∃ k n : Nat, vs = [.int (k : Int), .int (n : Int)] ∧ 1 ≤ k ∧ k ≤ 60 ∧ n ≤ 2 ^ 62 ∧ ∀ H' p, Same H H' → SqT K H' p (vi (rl k n)) → Q (.ref p) H'
theorem ok_run_lengths (TX : Tx K mg) : FnOk P w K mg base CX0 3 TX.a_run_lengths TX.fd_run_lengths ["k", "n"] (sp_run_lengths K) := by
  refine TX.f_run_lengths.ok sc_run_lengths (fun vs H Q E h => ?_) (fun cdv A outer s H vs Q E hr h => ?_)
  · obtain ⟨k, n, rfl, _⟩ := h; rfl
  · obtain ⟨k, n, rfl, hk, hk2, hn, q⟩ := h
    refine ⟨_, (pss_cons (ps_set (i := 2) sc_run_lengths.nd rfl (.inl rfl) (pe_lst pa_nil))
      (pss_cons (ps_set (i := 3) sc_run_lengths.nd rfl (.inl rfl) (pv 1))
      (pss_cons (ps_set (i := 4) sc_run_lengths.nd rfl (.inl rfl) (pv 0))
      (pss_cons (ps_while PassesOwn.never (pt_cmpR op_gt (pv 3) pe_int (nomark _))
        (pss_cons (ps_set (i := 5) sc_run_lengths.nd rfl (.inl rfl) (pe_call (ok_choose TX) (hr.mono (by decide)) (by rfl) TX.g_choose TX.f_choose.kp TX.bd_choose .nil pass0 (pa_cons (pe_op op_add (pe_op op_sub (pv 4) pe_int) (pe_call (ok_writes_needed TX) (hr.mono (by decide)) (by rfl) TX.g_writes_needed TX.f_writes_needed.kp TX.bd_writes_needed .nil pass0 (pa_cons (pv 3) (pa_cons (pv 4) pa_nil)))) (pa_cons (pv 4) pa_nil))))
        (pss_cons (ps_expr (pe_bm PySem.F.plainAttrs_list PySem.F.slot_list_append PySem.F.type_list_append mt_append (pv 2) (pa_cons (pv 5) pa_nil)))
        (pss_cons (ps_aug (i := 3) sc_run_lengths.nd rfl (.inl rfl) (pv 5) ip_sub)
        (pss_one (ps_aug (i := 4) sc_run_lengths.nd rfl (.inl rfl) pe_int ip_sub))))))
      (pss_one (ps_ret (pe_callTy (T := "tuple") (k_tupOf (K := K) rfl) (by rfl) TX.b_tuple (by decide +kernel) (pa_cons (pv 2) pa_nil)))))))), ?_⟩
    refine ⟨sz60 (by simp), fun l nl => ⟨_, rfl, _, rfl, ?_⟩⟩
    have hlen := rl_len k n
    refine ⟨fun m σ H' => ∃ (acc : List Nat) (t r : Nat) (y : Option V), σ = [some (.int (k : Int)), some (.int (n : Int)), some (.ref l), some (.int (r : Int)), some (.int (t : Int)), y] ∧ Same H H' ∧ H' l = some (.lst (vi acc)) ∧ acc ++ rl t r = rl k n ∧ t ≤ 60 ∧ r ≤ 2 ^ 62 ∧ (t = 0 → r = 0) ∧ m = t, ⟨k, [], k, n, none, rfl, same_upd nl, upd_same, rfl, hk2, hn, by omega, rfl⟩, ?_⟩
    rintro m σ H' ⟨acc, t, r, y, rfl, s1, h1, h2, h3, h4, h5, rfl⟩
    refine ⟨_, rfl, _, _, rfl, rfl, _, rfl, ?_⟩
    by_cases hr0 : r = 0
    · refine decF (by omega) ?_
      subst hr0
      rw [rl_zero, List.append_nil] at h2
      subst h2
      exact ⟨.ref l, rfl, l, _, rfl, .inl ⟨.inl (.inl h1), fun p np => q _ _ (s1.trans (same_upd np)) (.inl (.inl upd_same))⟩⟩
    · refine decT (by omega) ⟨_, fun _ _ h => h, ?_⟩
      obtain ⟨j, rfl⟩ : ∃ j, m = j + 1 := ⟨m - 1, by omega⟩
      have hl1 := lw_pos (k := j + 1) (by omega) hr0
      have hl2 := lwr_le (k := j + 1) (n := r) (by omega)
      have hT := top_le (k := j) hr0
      have eT : ((j + 1 : Nat) : Int) - 1 + (lwr (j + 1) r : Int) = ((j + lwr (j + 1) r : Nat) : Int) := by omega
      refine ⟨_, rfl, _, _, rfl, rfl, _, rfl, _, rfl, r, j + 1, rfl, by omega, by omega, h4, _, _, rfl, rfl, _, rfl, j + lwr (j + 1) r, j + 1, ?_, by omega, by omega, by omega, ?_⟩
      · show [V.int _, V.int _] = [V.int _, V.int _]
        rw [eT]
      have hacc : acc.length ≤ 60 := by
        have := congrArg List.length h2
        rw [List.length_append] at this
        omega
      refine ⟨.ref l, rfl, .inl ⟨rfl, _, .inl (.inl h1)⟩, _, rfl, l, _, _, rfl, rfl, h1, sz61 (by rw [vi_len]; omega), ?_⟩
      refine ⟨_, rfl, _, rfl, _, _, rfl, rfl, _, rfl, _, _, rfl, rfl, j, by omega, acc ++ [bin (j + lwr (j + 1) r) (j + 1)], j, r - bin (j + lwr (j + 1) r) (j + 1), some (.int (bin (j + lwr (j + 1) r) (j + 1) : Int)), ?_, Same.mut s1 nl, ?_, ?_, by omega, by omega, ?_, rfl⟩
      · show [_, _, _, _, _, _] = [_, _, _, _, _, _]
        simp only [List.cons.injEq, Option.some.injEq, V.int.injEq, and_true, true_and]
        omega
      · rw [vi_app]; exact upd_same
      · rw [← h2, rl_succ hr0]; simp
      · intro e; subst e; exact rest_zero hr0
end
/-- the draws' list: a number not below 0, a seed, a count of at most n -/
def Pot (H : Hp) (a : Addr) (n : Int) : Prop := ∃ d s m : Int, H a = some (.lst [.int d, .int s, .int m]) ∧ 0 ≤ d ∧ 0 ≤ s ∧ s < 2 ^ 61 ∧ 0 ≤ m ∧ m ≤ n
theorem Pot.mono {H : Hp} {a : Addr} {n k : Int} (h : Pot H a n) (e : n ≤ k) : Pot H a k := by
  obtain ⟨d, s, m, h1, h2, h3, h4, h5, h6⟩ := h
  exact ⟨d, s, m, h1, h2, h3, h4, h5, by omega⟩
theorem Pot.same {H H' : Hp} {a : Addr} {n : Int} (h : Pot H a n) (e : Same H H') : Pot H' a n := by
  obtain ⟨d, s, m, h1, r⟩ := h
  exact ⟨d, s, m, e _ _ h1, r⟩
theorem Pot.keep {K : PySem.W.Frag} {H H' : Hp} {a : Addr} {n : Int} (h : Pot H a n) (e : But a H H') : Keep K H H' := by
  obtain ⟨d, s, m, h1, r⟩ := h
  exact But.keep e h1
theorem Pot.ne {H : Hp} {a b : Addr} {n : Int} (h : Pot H a n) (e : H b = none) : b ≠ a := fun z => by
  obtain ⟨d, s, m, h1, r⟩ := h
  rw [z, h1] at e; cases e
theorem But.free {a l : Addr} {H H' : Hp} (b : But a H H') (h : H' l = none) (n : l ≠ a) : H l = none := by
  cases e : H l with
  | none => rfl
  | some o => rw [b _ _ n e] at h; cases h
theorem But.mut {a l : Addr} {H H' : Hp} {o : HO} (b : But a H H') (h : H l = none) : But a H (L2.upd H' l o) := fun c u n e => by
  rw [upd_ne (ne_of_none e h)]; exact b _ _ n e
theorem Pot.upd {H : Hp} {a l : Addr} {n : Int} {o : HO} (h : Pot H a n) (e : l ≠ a) : Pot (L2.upd H l o) a n := by
  obtain ⟨d, s, m, h1, r⟩ := h
  exact ⟨d, s, m, by rw [upd_ne e.symm]; exact h1, r⟩
theorem na_lt {x : Int} {n : Nat} (h0 : 0 ≤ x) (h1 : x < ((2 ^ n : Nat) : Int)) : x.natAbs < 2 ^ n := by omega
theorem bit01 (b : Bool) : (if b = true then (1 : Int) else 0).natAbs < 2 ^ 2 ∧ (0 : Int) ≤ (if b = true then (1 : Int) else 0) := by cases b <;> exact ⟨by decide, by decide⟩
set_option exponentiation.threshold 2000
section
variable {P : Program} {w : World} {K : PySem.W.Frag} {mg : Str → Option Value} {base : Heap}
def sp_L_s5_hand (K : PySem.W.Frag) : Sp := fun vs H Q _ => ∃ (a : Addr) (ns : List Int) (pl : Nat), vs = [.ref a, .int (pl : Int)] ∧ SqL K H a (ns.map V.int) ∧ pl ≤ 62 ∧ ∀ H' p, Same H H' → H p = none → Pot H' p 0 → Q (.ref p) H'
theorem ok_L_s5_hand (TX : Tx K mg) : FnOk P w K mg base CX0 1 TX.a_L_s5_hand TX.fd_L_s5_hand ["_law_script", "_law_nth"] (sp_L_s5_hand K) := by
  refine TX.f_L_s5_hand.ok sc_L_s5_hand (fun vs H Q E h => ?_) (fun cdv A outer s H vs Q E hr h => ?_)
  · obtain ⟨a, ns, pl, rfl, _⟩ := h; rfl
  · obtain ⟨a, ns, pl, rfl, hS, hpl, q⟩ := h
    refine ⟨_, (pss_cut (ps_set (i := 2) sc_L_s5_hand.nd rfl (.inl rfl) (pe_ifExp (pt_cmpR op_lt (pv 1) (pe_callB (id := "len") (k_len (K := K) rfl) (by rfl) TX.b_len (by decide +kernel) (pa_cons (pv 0) pa_nil)) (nomark _)) (pe_ix (k_ixL (K := K) rfl) (pv 0) (pv 1) (fun _ _ => rfl)) pe_int))
      (pss_cons (ps_set (i := 3) sc_L_s5_hand.nd rfl (.inl rfl) (pe_op op_mulW (pe_op op_mod (pe_callB (id := "abs") call_abs (by rfl) TX.b_abs (by decide +kernel) (pa_cons (pv 2) pa_nil)) (pe_op op_powW (pe_op op_powW pe_int pe_int) pe_int)) (pe_callTy (T := "int") call_int1 (by rfl) TX.b_int (by decide +kernel) (pa_cons (pe_cmpR op_ge (pe_callB (id := "abs") call_abs (by rfl) TX.b_abs (by decide +kernel) (pa_cons (pv 2) pa_nil)) (pe_op op_powW pe_int pe_int) (nomark _)) pa_nil))))
      (pss_cons (ps_set (i := 4) sc_L_s5_hand.nd rfl (.inl rfl) (pe_op op_add (pe_op op_add (pe_op op_add (pe_op op_mulW (pe_op op_mod (pv 2) pe_int) pe_int) (pe_op op_mulW (pe_op op_mulW pe_int (pv 1)) (pv 1))) (pe_op op_mulW pe_int (pv 1))) pe_int))
      (pss_one (ps_ret (pe_lst (pa_cons (pv 3) (pa_cons (pe_op op_mod (pv 4) pe_int) (pa_cons pe_int pa_nil))))))))), ?_⟩
    have P0 : (0 : Int) < (10 ^ (60 : Int).toNat) ^ (5 : Int).toNat := by decide +kernel
    have P1 : ((10 ^ (60 : Int).toNat) ^ (5 : Int).toNat : Int) < ((2 ^ 1000 : Nat) : Int) := by decide +kernel
    have nl1 : ∀ pl : Nat, pl ≤ 62 → (0 : Int) ≤ 7919 * (pl : Int) * (pl : Int) ∧ 7919 * (pl : Int) * (pl : Int) ≤ 7919 * 3844 := fun pl h => by
      have h1 : (pl : Int) * (pl : Int) ≤ 62 * 62 := Int.mul_le_mul (by omega) (by omega) (by omega) (by omega)
      have h2 : (0 : Int) ≤ (pl : Int) * (pl : Int) := Int.mul_nonneg (by omega) (by omega)
      rw [Int.mul_assoc]; omega
    refine ⟨fun σ' H2 => H2 = H ∧ ∃ c : Int, σ' = [some (.ref a), some (.int (pl : Int)), some (.int c), none, none], ?_, ?_⟩
    · refine ⟨_, rfl, .ref a, rfl, a, _, rfl, .inl hS, _, _, rfl, rfl, _, rfl, ?_⟩
      refine ite2 (fun h => ?_) (fun h => ?_)
      · have hlt : pl < ns.length := by
          have := of_decide_eq_true h
          rw [List.length_map] at this
          omega
        exact ⟨.ref a, rfl, _, rfl, a, _, _, .int ns[pl], rfl, rfl, hS, atI_nat (by rw [List.getElem?_map, List.getElem?_eq_getElem hlt]; rfl), rfl, _, rfl⟩
      · exact ⟨rfl, _, rfl⟩
    · rintro σ' H2 ⟨rfl, c, rfl⟩
      have c0 := Int.emod_nonneg c (show (2305843009213693951 : Int) ≠ 0 by decide)
      have c1 := Int.emod_lt_of_pos c (show (0 : Int) < 2305843009213693951 by decide)
      refine ⟨_, rfl, _, rfl, _, _, rfl, rfl, ⟨by decide, by decide +kernel⟩, _, _, rfl, rfl, ⟨by decide, by decide +kernel⟩, _, _, rfl, rfl, P0, _, rfl, _, rfl, _, _, rfl, rfl, ⟨by decide, by decide +kernel⟩, _, _, rfl, rfl, .inr ⟨_, rfl, _, _, rfl, rfl, ?_, ?_⟩⟩
      · exact wide_mul (a := 1000) (b := 2) (na_lt (Int.emod_nonneg _ (Int.ne_of_gt P0)) (Int.lt_trans (Int.emod_lt_of_pos _ P0) P1)) (bit01 _).1 (by decide) (by decide) (by decide)
      · have := nl1 pl hpl
        refine ⟨_, rfl, _, _, rfl, rfl, (show (0 : Int) < 2305843009213693951 by decide), _, _, rfl, rfl, wide_mul (a := 61) (b := 20) (by omega) (by decide) (by decide) (by decide) (by decide), _, rfl, _, _, rfl, rfl, wide_mul (a := 13) (b := 7) (by decide) (by omega) (by decide) (by decide) (by decide), _, rfl, _, _, rfl, rfl, wide_mul (a := 20) (b := 7) (by omega) (by omega) (by decide) (by decide) (by decide), _, _, rfl, rfl, _, rfl, _, _, rfl, rfl, wide_mul (a := 13) (b := 7) (by decide) (by omega) (by decide) (by decide) (by decide), _, _, rfl, rfl, _, _, rfl, rfl, ?_⟩
        refine ⟨_, rfl, _, rfl, _, _, rfl, rfl, (show (0 : Int) < 2305843009213693921 by decide), sz60 (by simp), fun p np => q _ p (same_upd np) np ?_⟩
        refine ⟨_, _, _, upd_same, ?_, Int.emod_nonneg _ (by decide), Int.lt_trans (Int.emod_lt_of_pos _ (by decide)) (by decide), by decide, by decide⟩
        refine Int.mul_nonneg (Int.emod_nonneg _ (Int.ne_of_gt P0)) ?_
        exact (bit01 _).2
def sp_L_s5_take (K : PySem.W.Frag) : Sp := fun vs H Q _ => ∃ (a : Addr) (z n : Int), vs = [.ref a, .int z] ∧ Pot H a n ∧ n ≤ 100000 ∧ 1 ≤ z ∧ z ≤ 2 ^ 64 ∧ ∀ H' r, But a H H' → Pot H' a (n + 1) → 0 ≤ r → r < z → Q (.int r) H'
theorem prime_at {m : Int} (h0 : 0 ≤ m) : ∃ v : Int, atI [V.int 2147483647, V.int 2147483629, V.int 2147483587, V.int 2147483579, V.int 2147483563, V.int 2147483549, V.int 2147483543, V.int 2147483497] (m % 8) = some (.int v) ∧ 2147483400 < v ∧ v < 2 ^ 31 := by
  have h : m % 8 = 0 ∨ m % 8 = 1 ∨ m % 8 = 2 ∨ m % 8 = 3 ∨ m % 8 = 4 ∨ m % 8 = 5 ∨ m % 8 = 6 ∨ m % 8 = 7 := by omega
  rcases h with h | h | h | h | h | h | h | h <;> rw [h]
  · exact ⟨_, rfl, by decide, by decide⟩
  · exact ⟨_, rfl, by decide, by decide⟩
  · exact ⟨_, rfl, by decide, by decide⟩
  · exact ⟨_, rfl, by decide, by decide⟩
  · exact ⟨_, rfl, by decide, by decide⟩
  · exact ⟨_, rfl, by decide, by decide⟩
  · exact ⟨_, rfl, by decide, by decide⟩
  · exact ⟨_, rfl, by decide, by decide⟩
theorem ok_L_s5_take (TX : Tx K mg) : FnOk P w K mg base CX0 1 TX.a_L_s5_take TX.fd_L_s5_take ["_law_hand", "_law_size"] (sp_L_s5_take K) := by
  refine TX.f_L_s5_take.ok sc_L_s5_take (fun vs H Q E h => ?_) (fun cdv A outer s H vs Q E hr h => ?_)
  · obtain ⟨a, z, n, rfl, _⟩ := h; rfl
  · obtain ⟨a, z, n, rfl, ⟨d, sd, m, hp, hd, hs0, hs1, hm0, hm1⟩, hn, hz1, hz2, q⟩ := h
    refine ⟨_, (pss_cons (ps_if (pt_cmpR op_gt (pe_ix (k_ixL (K := K) rfl) (pv 0) pe_int (fun _ _ => rfl)) pe_int (nomark _))
        (pss_cons (ps_set (i := 2) sc_L_s5_take.nd rfl (.inl rfl) (pe_op op_mod (pe_ix (k_ixL (K := K) rfl) (pv 0) pe_int (fun _ _ => rfl)) (pv 1)))
        (pss_cons (ps_asg (pe_op op_fdivW (pe_ix (k_ixL (K := K) rfl) (pv 0) pe_int (fun _ _ => rfl)) (pv 1)) (pg_sub (pv 0) pe_int set_list))
        (pss_one (ps_ret (pv 2)))))
        pss_nil)
      (pss_cons (ps_asg (pe_op op_add (pe_ix (k_ixL (K := K) rfl) (pv 0) pe_int (fun _ _ => rfl)) pe_int) (pg_sub (pv 0) pe_int set_list))
      (pss_cons (ps_set (i := 3) sc_L_s5_take.nd rfl (.inl rfl) (pe_lst (pa_cons pe_int (pa_cons pe_int (pa_cons pe_int (pa_cons pe_int (pa_cons pe_int (pa_cons pe_int (pa_cons pe_int (pa_cons pe_int pa_nil))))))))))
      (pss_cons (ps_set (i := 4) sc_L_s5_take.nd rfl (.inl rfl) (pe_ix (k_ixL (K := K) rfl) (pv 3) (pe_op op_mod (pe_ix (k_ixL (K := K) rfl) (pv 0) pe_int (fun _ _ => rfl)) pe_int) (fun _ _ => rfl)))
      (pss_cons (ps_set (i := 5) sc_L_s5_take.nd rfl (.inl rfl) (pe_op op_add (pe_op op_mod (pe_op op_mod (pe_op op_add (pe_ix (k_ixL (K := K) rfl) (pv 0) pe_int (fun _ _ => rfl)) (pe_op op_mulW (pe_op op_mulW pe_int (pe_ix (k_ixL (K := K) rfl) (pv 0) pe_int (fun _ _ => rfl))) (pe_ix (k_ixL (K := K) rfl) (pv 0) pe_int (fun _ _ => rfl)))) (pe_op op_mulW (pv 4) (pv 4))) (pv 4)) pe_int))
      (pss_cons (ps_set (i := 6) sc_L_s5_take.nd rfl (.inl rfl) (pe_op op_fdivW (pe_op op_mod (pe_op op_mulW (pe_op op_mod (pe_op op_mulW (pv 5) (pe_op op_add (pe_op op_mod (pv 5) pe_int) (pe_ix (k_ixL (K := K) rfl) (pv 0) pe_int (fun _ _ => rfl)))) (pv 4)) pe_int) (pv 4)) pe_int))
      (pss_cons (ps_if (pt_cmpR op_gt (pv 1) (pe_op op_powW pe_int pe_int) (nomark _))
        (pss_one (ps_set (i := 6) sc_L_s5_take.nd rfl (.inl rfl) (pe_op op_mod (pe_op op_pow (pe_op op_add (pv 6) pe_int) pe_int) (pe_op op_add (pe_op op_powW pe_int pe_int) pe_int))))
        pss_nil)
      (pss_one (ps_ret (pe_op op_mod (pv 6) (pv 1))))))))))), ?_⟩
    refine ⟨.ref a, rfl, a, _, _, .int d, rfl, rfl, .inl (.inl hp), rfl, _, _, rfl, rfl, _, rfl, ite2 (fun h => ?_) (fun h => ?_)⟩
    · refine ⟨.ref a, rfl, a, _, _, .int d, rfl, rfl, .inl (.inl hp), rfl, _, rfl, _, _, rfl, rfl, (show 0 < z by omega), ?_⟩
      refine ⟨.ref a, rfl, a, _, _, .int d, rfl, rfl, .inl (.inl hp), rfl, _, rfl, _, _, rfl, rfl, wide_div (b := 66) (by omega) (by omega) (by decide) (by decide), .ref a, rfl, a, _, 0, 0, rfl, rfl, hp, rfl, ?_⟩
      refine ⟨_, rfl, q _ _ But.upd ⟨d / z, sd, m, upd_same, Int.ediv_nonneg hd (by omega), hs0, hs1, hm0, by omega⟩ (Int.emod_nonneg _ (by omega)) (Int.emod_lt_of_pos _ (by omega))⟩
    · refine ⟨.ref a, rfl, a, _, _, .int m, rfl, rfl, .inl (.inl hp), rfl, _, _, rfl, rfl, .ref a, rfl, a, _, 2, 2, rfl, rfl, hp, rfl, ?_⟩
      have hp1 : (upd H a (.lst (List.set [V.int d, V.int sd, V.int m] 2 (V.int (m + 1))))) a = some (.lst [V.int d, V.int sd, V.int (m + 1)]) := upd_same
      have b1 : But a H (upd H a (.lst (List.set [V.int d, V.int sd, V.int m] 2 (V.int (m + 1))))) := But.upd
      generalize upd H a (.lst (List.set [V.int d, V.int sd, V.int m] 2 (V.int (m + 1)))) = H1 at hp1 b1 ⊢
      refine ⟨sz60 (by simp), fun pl npl => ?_⟩
      have s2 := same_upd (o := .lst [V.int 2147483647, V.int 2147483629, V.int 2147483587, V.int 2147483579, V.int 2147483563, V.int 2147483549, V.int 2147483543, V.int 2147483497]) npl
      have hp2 := s2 _ _ hp1
      obtain ⟨pr, hpr, pr0, pr1⟩ := prime_at (m := m + 1) (by omega)
      refine ⟨.ref pl, rfl, .ref a, rfl, a, _, _, _, rfl, rfl, .inl (.inl hp2), rfl, _, _, rfl, rfl, (show (0 : Int) < 8 by decide), pl, _, _, .int pr, rfl, rfl, .inl (.inl upd_same), hpr, ?_⟩
      have k1 : (m + 1) * (m + 1) ≤ 100001 * 100001 := Int.mul_le_mul (by omega) (by omega) (by omega) (by omega)
      have k2 : (0 : Int) ≤ (m + 1) * (m + 1) := Int.mul_nonneg (by omega) (by omega)
      have k3 : 69621 * (m + 1) * (m + 1) = 69621 * ((m + 1) * (m + 1)) := Int.mul_assoc _ _ _
      have k4 : 0 < pr * pr := Int.mul_pos (by omega) (by omega)
      refine ⟨.ref a, rfl, a, _, _, _, rfl, rfl, .inl (.inl hp2), rfl, .ref a, rfl, a, _, _, _, rfl, rfl, .inl (.inl hp2), rfl, _, _, rfl, rfl, wide_mul (a := 17) (b := 18) (by decide) (by omega) (by decide) (by decide) (by decide), .ref a, rfl, a, _, _, _, rfl, rfl, .inl (.inl hp2), rfl, _, _, rfl, rfl, wide_mul (a := 36) (b := 18) (by omega) (by omega) (by decide) (by decide) (by decide), _, _, rfl, rfl, _, rfl, _, rfl, _, _, rfl, rfl, wide_mul (a := 31) (b := 31) (by omega) (by omega) (by decide) (by decide) (by decide), _, _, rfl, rfl, k4, _, rfl, _, _, rfl, rfl, (show 0 < pr by omega), _, _, rfl, rfl, ?_⟩
      generalize hmx : (sd + 69621 * (m + 1) * (m + 1)) % (pr * pr) % pr + 1 = mx
      have mx0 : 0 < mx := by rw [← hmx]; have := Int.emod_nonneg ((sd + 69621 * (m + 1) * (m + 1)) % (pr * pr)) (show pr ≠ 0 by omega); omega
      have mx1 : mx ≤ pr := by rw [← hmx]; have := Int.emod_lt_of_pos ((sd + 69621 * (m + 1) * (m + 1)) % (pr * pr)) (show 0 < pr by omega); omega
      refine ⟨_, rfl, _, rfl, _, _, rfl, rfl, (show (0 : Int) < 1009 by decide), .ref a, rfl, a, _, _, _, rfl, rfl, .inl (.inl hp2), rfl, _, _, rfl, rfl, _, _, rfl, rfl, wide_mul (a := 32) (b := 20) (by omega) (by omega) (by decide) (by decide) (by decide), _, rfl, _, _, rfl, rfl, (show 0 < pr by omega), _, _, rfl, rfl, ?_, _, rfl, _, _, rfl, rfl, (show 0 < pr by omega), _, _, rfl, rfl, wide_div (b := 4) (by decide) (by decide) (by decide) (by decide), ?_⟩
      · refine wide_mul (a := 32) (b := 17) (na_lt (Int.emod_nonneg _ (by omega)) (Int.lt_trans (Int.emod_lt_of_pos _ (by omega)) (by omega))) (by decide) (by decide) (by decide) (by decide)
      generalize hdr : mx * (mx % 1009 + (m + 1)) % pr * 48271 % pr / 7 = dr
      have dr0 : 0 ≤ dr := by rw [← hdr]; exact Int.ediv_nonneg (Int.emod_nonneg _ (by omega)) (by decide)
      have dr1 : dr < pr := by
        rw [← hdr]
        have h1 := Int.emod_lt_of_pos (mx * (mx % 1009 + (m + 1)) % pr * 48271) (show 0 < pr by omega)
        have h2 := Int.emod_nonneg (mx * (mx % 1009 + (m + 1)) % pr * 48271) (show pr ≠ 0 by omega)
        omega
      have fin : ∀ x : Int, Q (.int (x % z)) (upd H1 pl (.lst [V.int 2147483647, V.int 2147483629, V.int 2147483587, V.int 2147483579, V.int 2147483563, V.int 2147483549, V.int 2147483543, V.int 2147483497])) := fun x =>
        q _ _ (b1.trans (But.of s2)) ⟨d, sd, m + 1, hp2, hd, hs0, hs1, by omega, by omega⟩ (Int.emod_nonneg _ (by omega)) (Int.emod_lt_of_pos _ (by omega))
      have q0 : (0 : Int) < 10 ^ (40 : Int).toNat + 121 := by decide +kernel
      refine ⟨_, rfl, _, _, rfl, rfl, ⟨by decide, by decide +kernel⟩, _, _, rfl, rfl, _, rfl, ite2 (fun h => ?_) (fun h => ?_)⟩
      · refine ⟨_, rfl, _, _, rfl, rfl, _, _, rfl, rfl, ⟨by decide, by decide, by rw [hmx, hdr]; omega⟩, _, _, rfl, rfl, ⟨by decide, by decide +kernel⟩, _, _, rfl, rfl, _, _, rfl, rfl, q0, ?_⟩
        exact ⟨_, rfl, _, rfl, _, _, rfl, rfl, (show 0 < z by omega), fin _⟩
      · exact ⟨_, rfl, _, rfl, _, _, rfl, rfl, (show 0 < z by omega), fin _⟩
def sp_L_s5_of (K : PySem.W.Frag) : Sp := fun vs H Q _ => ∃ (a l : Addr) (xs : List V) (n : Int), vs = [.ref a, .ref l] ∧ Pot H a n ∧ n ≤ 100000 ∧ SqL K H l xs ∧ l ≠ a ∧ xs ≠ [] ∧ xs.length ≤ 100000 ∧ ∀ H' v, But a H H' → Pot H' a (n + 1) → v ∈ xs → Q v H'
theorem But.seq {K : PySem.W.Frag} {a l : Addr} {H H' : Hp} {xs : List V} (b : But a H H') (n : l ≠ a) (h : SqL K H l xs) : SqL K H' l xs := by
  rcases h with (h | ⟨o, h⟩) | h
  · exact .inl (.inl (b _ _ n h))
  · exact .inl (.inr ⟨o, b _ _ n h⟩)
  · exact .inr h
theorem ok_L_s5_of (TX : Tx K mg) : FnOk P w K mg base CX0 2 TX.a_L_s5_of TX.fd_L_s5_of ["_law_hand", "_law_options"] (sp_L_s5_of K) := by
  refine TX.f_L_s5_of.ok sc_L_s5_of (fun vs H Q E h => ?_) (fun cdv A outer s H vs Q E hr h => ?_)
  · obtain ⟨a, l, xs, n, rfl, _⟩ := h; rfl
  · obtain ⟨a, l, xs, n, rfl, hp, hn, hl, nla, hne, hlen, q⟩ := h
    refine ⟨_, (pss_one (ps_ret (pe_ix (k_ixL (K := K) rfl) (pv 1) (pe_call (ok_L_s5_take TX) (hr.mono (by decide)) (by rfl) TX.g_L_s5_take TX.f_L_s5_take.kp TX.bd_L_s5_take .nil pass0 (pa_cons (pv 0) (pa_cons (pe_callB (id := "len") (k_len (K := K) rfl) (by rfl) TX.b_len (by decide +kernel) (pa_cons (pv 1) pa_nil)) pa_nil))) (fun _ _ => rfl)))), ?_⟩
    have h0 : 0 < xs.length := List.length_pos_iff.mpr hne
    refine ⟨.ref l, rfl, .ref a, rfl, .ref l, rfl, l, _, rfl, .inl hl, a, _, n, rfl, hp, hn, by omega, by omega, fun H' r b1 p1 r0 r1 => ?_⟩
    have er : r = ((r.toNat : Nat) : Int) := by omega
    have hr1 : r.toNat < xs.length := by omega
    have hat : atI xs r = some xs[r.toNat] := by
      have := atI_nat (List.getElem?_eq_getElem hr1)
      rwa [← er] at this
    exact ⟨l, xs, r, xs[r.toNat], rfl, rfl, b1.seq nla hl, hat, q _ _ b1 p1 (List.getElem_mem ..)⟩
end
/-! ### what stands beside the draws' list -/
def off (a : Addr) (H : Hp) : Hp := fun b => if b = a then none else H b
theorem off_at {a b : Addr} {H : Hp} (h : b ≠ a) : off a H b = H b := if_neg h
theorem off_sub {a : Addr} {H : Hp} : Same (off a H) H := fun b o e => by
  by_cases h : b = a
  · unfold off at e; rw [if_pos h] at e; cases e
  · rwa [off_at h] at e
theorem off_but {a : Addr} {H H' : Hp} (b : But a H H') : Same (off a H) (off a H') := fun c o e => by
  by_cases h : c = a
  · unfold off at e; rw [if_pos h] at e; cases e
  · rw [off_at h] at e ⊢; exact b _ _ h e
theorem off_same {a : Addr} {H H' : Hp} (s : Same H H') : Same (off a H) (off a H') := off_but (But.of s)
theorem off_extN {a : Addr} {H H' : Hp} (s : LamX.ExtN H H') : LamX.ExtN (off a H) (off a H') := fun c o e n => by
  by_cases h : c = a
  · unfold off at e; rw [if_pos h] at e; cases e
  · rw [off_at h] at e ⊢; exact s _ _ e n
theorem off_new {a : Addr} {H G : Hp} {o : HO} (ha : H a = some o) : Same (fun b => match H b with | none => G b | some _ => none) (off a G) := fun c u e => by
  have e' : (match H c with | none => G c | some _ => none) = some u := e
  cases h : H c with
  | some x => rw [h] at e'; cases e'
  | none =>
    rw [h] at e'
    rw [off_at (fun z => by rw [z, ha] at h; cases h)]
    exact e'
/-! ### data whose repr is short -/
structure Sn (k n : Nat) (d : PyData) : Prop where
  dep : d.depth ≤ k
  shw : d.showable = true
  short : d.leavesShort 60 = true
  bulk : d.bulk ≤ n
theorem Sn.mono {k n k' n' : Nat} {d : PyData} (h : Sn k n d) (e : k ≤ k') (e' : n ≤ n') : Sn k' n' d := ⟨Nat.le_trans h.dep e, h.shw, h.short, Nat.le_trans h.bulk e'⟩
theorem Sn.t1 {k n : Nat} {d : PyData} (h : Sn k n d) : Sn (k + 1) (n + 8) (.tuple [d]) := by
  obtain ⟨a, b, c, e⟩ := h
  refine ⟨?_, ?_, ?_, ?_⟩
  · simp [PyData.depth, PyData.depthAll]; omega
  · simp [PyData.showable, PyData.showableAll, b]
  · simp [PyData.leavesShort, PyData.leavesShortAll, c]
  · simp [PyData.bulk, PyData.bulkAll]; omega
theorem Sn.t2 {k n m : Nat} {d e : PyData} (h : Sn k n d) (h' : Sn k m e) : Sn (k + 1) (n + m + 8) (.tuple [d, e]) := by
  obtain ⟨a, b, c, f⟩ := h
  obtain ⟨a', b', c', f'⟩ := h'
  refine ⟨?_, ?_, ?_, ?_⟩
  · simp [PyData.depth, PyData.depthAll]; omega
  · simp [PyData.showable, PyData.showableAll, b, b']
  · simp [PyData.leavesShort, PyData.leavesShortAll, c, c']
  · simp [PyData.bulk, PyData.bulkAll]; omega
theorem Sn.l1 {k n : Nat} {d : PyData} (h : Sn k n d) : Sn (k + 1) (n + 8) (.list [d]) := by
  obtain ⟨a, b, c, e⟩ := h
  refine ⟨?_, ?_, ?_, ?_⟩
  · simp [PyData.depth, PyData.depthAll]; omega
  · simp [PyData.showable, PyData.showableAll, b]
  · simp [PyData.leavesShort, PyData.leavesShortAll, c]
  · simp [PyData.bulk, PyData.bulkAll]; omega
theorem Sn.d1 {k n : Nat} {d : PyData} (h : Sn k n d) : Sn (k + 1) (n + 8) (.dict [(.str "a", d)]) := by
  obtain ⟨a, b, c, e⟩ := h
  have z : (Str.ofString "a").cps.size = 1 := by decide +kernel
  refine ⟨?_, ?_, ?_, ?_⟩
  · simp [PyData.depth, PyData.depthKv]; omega
  · simp [PyData.showable, PyData.showableKv, b]
  · simp only [PyData.leavesShort, PyData.leavesShortKv, c, Bool.and_true]
    decide +kernel
  · simp [PyData.bulk, PyData.bulkKv]; omega
theorem Sn.none {k n : Nat} : Sn k n .none := ⟨by simp [PyData.depth], by simp [PyData.showable], by simp [PyData.leavesShort], by simp [PyData.bulk]⟩
theorem Sn.str {k n : Nat} {x : Str} (h : (PyData.str x).leavesShort 60 = true) (hz : x.cps.size ≤ n) : Sn k n (.str x) := ⟨by simp [PyData.depth], by simp [PyData.showable], h, by simp [PyData.bulk]; omega⟩
theorem Sn.int {k n : Nat} {i : Int} (h : i.natAbs < 10 ^ 50) : Sn k n (.int i) := by
  refine ⟨by simp [PyData.depth], ?_, ?_, by simp [PyData.bulk]⟩
  · simp only [PyData.showable]
    refine decide_eq_true ?_
    by_cases h0 : i.natAbs = 0
    · rw [h0]; decide
    · exact Nat.lt_trans ((Nat.log2_lt h0).mpr (show i.natAbs < 2 ^ 200 from Nat.lt_trans h (by decide +kernel))) (by decide)
  · simp only [PyData.leavesShort]
    refine decide_eq_true ?_
    have e := int_text_length_le10 (a := i) (k := 50) (by decide) h
    have e2 : (PyData.shown (.int i)).length = (toString i).length := by
      simp only [PyData.shown]
      exact PySem.ofString_length _
    omega
theorem Sn.bool {k n : Nat} {b : Bool} : Sn k n (.bool b) := ⟨by simp [PyData.depth], by simp [PyData.showable], by simp [PyData.leavesShort], by simp [PyData.bulk]⟩
/-- repr(x) -/
theorem Sn.repr {k n : Nat} {d : PyData} (h : Sn k n d) (hk : k ≤ 60) (hn : n ≤ 200000) : d.showable = true ∧ d.depth ≤ 60 ∧ d.shown.length ≤ sizeLine := by
  refine ⟨h.shw, Nat.le_trans h.dep hk, ?_⟩
  have h1 := PyData.shown_le_bulk 60 (by decide) d h.short
  have h3 : (60 + 2) * d.bulk ≤ 62 * 200000 := Nat.mul_le_mul (Nat.le_refl _) (Nat.le_trans h.bulk hn)
  have h4 : sizeLine = 16777216 := by decide
  omega
/-! ### no count from lo to hi -/
def Bad (lo hi : Int) : PyData → Prop
  | .int i => (decide (lo ≤ i) && decide (i ≤ hi)) = false
  | _ => True
def NoInt : PyData → Prop
  | .int _ => False
  | _ => True
theorem notJ_of {K : PySem.W.Frag} {H : Hp} {x : V} {d : PyData} (h : Dq K H x d) (hn : NoInt d) : NotJ K H x := by
  cases h with
  | nonq => exact ⟨"NoneType", false, false, .base .non, by decide +kernel, by decide +kernel, rfl⟩
  | blq b => exact ⟨"bool", true, true, .base (.bl b), by decide +kernel, by decide +kernel, rfl⟩
  | intq i => exact (show False from hn).elim
  | strq x => exact ⟨"str", false, false, .base (.str x), by decide +kernel, by decide +kernel, rfl⟩
  | lstq hs _ _ =>
    refine ⟨"list", false, false, ?_, by decide +kernel, by decide +kernel, rfl⟩
    rcases hs with (h | ⟨o, h⟩) | ⟨o, its, n, h1, h2, _⟩
    · exact .base (.lst h)
    · exact .base (.frz h)
    · exact .kList h1 h2
  | tupq hs _ =>
    refine ⟨"tuple", false, false, ?_, by decide +kernel, by decide +kernel, rfl⟩
    rcases hs with (h | ⟨o, h⟩) | ⟨o, its, n, h1, h2, _⟩
    · exact .base (.tup h)
    · exact .fTuple h
    · exact .kTuple h1 h2
  | dctq he _ _ => exact ⟨"dict", false, false, .base (.dK he), by decide +kernel, by decide +kernel, rfl⟩
theorem noBud_of {K : PySem.W.Frag} {H : Hp} {x : V} {d : PyData} {m : Int} (h : Dq K H x d) (hn : Bad 0 m d) : NoBud K H m x := by
  by_cases e : NoInt d
  · exact .inr (notJ_of h e)
  · cases h with
    | intq i => exact .inl ⟨i, rfl, hn⟩
    | nonq => exact (e trivial).elim
    | blq b => exact (e trivial).elim
    | strq x => exact (e trivial).elim
    | lstq _ _ _ => exact (e trivial).elim
    | tupq _ _ => exact (e trivial).elim
    | dctq _ _ _ => exact (e trivial).elim
section
variable {P : Program} {w : World} {K : PySem.W.Frag} {mg : Str → Option Value} {base : Heap}
def sp_L_s5_odd (K : PySem.W.Frag) : Sp := fun vs H Q _ => ∃ (lo hi : Int) (o : HO), vs = [.int lo, .int hi] ∧ (0 ≤ lo ∧ lo ≤ hi ∧ hi ≤ 10 ^ 18) ∧ H sysModules = some o ∧ ∀ H' l xs, Same H H' → H l = none → H' l = some (.lst xs) → xs.length = 14 → (∀ v, v ∈ xs → ∃ d, Dq K (fun b => match H b with | none => H' b | some _ => none) v d ∧ Sn 1 20 d ∧ Bad lo hi d) → Q (.ref l) H'
theorem ok_L_s5_odd (TX : Tx K mg) : FnOk P w K mg base CX0 1 TX.a_L_s5_odd TX.fd_L_s5_odd ["_law_low", "_law_high"] (sp_L_s5_odd K) := by
  refine TX.f_L_s5_odd.ok sc_L_s5_odd (fun vs H Q E h => ?_) (fun cdv A outer s H vs Q E hr h => ?_)
  · obtain ⟨lo, hi, o, rfl, _⟩ := h; rfl
  · obtain ⟨lo, hi, o, rfl, ⟨hlo, hlh, hhi⟩, hsys, q⟩ := h
    refine ⟨_, (pss_one (ps_ret (pe_lst (pa_cons (pe_op op_sub (pv 0) pe_int) (pa_cons (pe_op op_add (pv 1) pe_int) (pa_cons (pe_op op_sub (pe_un un_neg pe_int) (pe_op op_powW pe_int pe_int)) (pa_cons (pe_op op_powW pe_int pe_int) (pa_cons pe_bl (pa_cons pe_bl (pa_cons pe_non (pa_cons pe_str (pa_cons pe_str (pa_cons (pe_tup pa_nil) (pa_cons (pe_tup (pa_cons (pv 0) pa_nil)) (pa_cons (pe_lst (pa_cons (pv 0) pa_nil)) (pa_cons pe_dnewK (pa_cons (pe_tup (pa_cons pe_non pa_nil)) pa_nil))))))))))))))))), ?_⟩
    refine ⟨_, rfl, _, _, rfl, rfl, _, rfl, _, _, rfl, rfl, _, rfl, _, _, rfl, rfl, ⟨by decide, by decide +kernel⟩, _, _, rfl, rfl, _, _, rfl, rfl, ⟨by decide, by decide +kernel⟩, sz60 (by simp), fun p1 n1 => ⟨_, rfl, sz60 (by simp), fun p2 n2 => ⟨_, rfl, sz60 (by simp), fun p3 n3 p4 n4 => ⟨sz60 (by simp), fun p5 n5 => ⟨sz60 (by simp), fun l nl => ?_⟩⟩⟩⟩⟩
    have big1 : (10 : Int) ^ (30 : Int).toNat = 1000000000000000000000000000000 := by decide +kernel
    have big2 : (10 : Int) ^ (40 : Int).toNat = 10000000000000000000000000000000000000000 := by decide +kernel
    have s1 := same_upd (o := .tup []) n1
    have s2 := same_upd (o := .tup [V.int lo]) n2
    have s3 := same_upd (o := .lst [V.int lo]) n3
    have s4 := same_upd (o := .dK []) n4
    have s5 := same_upd (o := .tup [V.non]) n5
    have s6 := same_upd (o := .lst [V.int (lo - 1), V.int (hi + 1), V.int (-1 - 10 ^ (30 : Int).toNat), V.int (10 ^ (40 : Int).toNat), V.bl true, V.bl false, V.non, V.str "", V.str "1", V.ref p1, V.ref p2, V.ref p3, V.ref p4, V.ref p5]) nl
    have t5 := s5.trans s6
    have t4 := s4.trans t5
    have t3 := s3.trans t4
    have t2 := s2.trans t3
    have sH := s1.trans t2
    have e1 := t2 _ _ (upd_same (H := H) (a := p1) (o := .tup []))
    have e2 := t3 _ _ (upd_same (a := p2) (o := .tup [V.int lo]))
    have e3 := t4 _ _ (upd_same (a := p3) (o := .lst [V.int lo]))
    have e4 := t5 _ _ (upd_same (a := p4) (o := .dK []))
    have e5 := s6 _ _ (upd_same (a := p5) (o := .tup [V.non]))
    have f1 : H p1 = none := n1
    have f2 : H p2 = none := s1.free n2
    have f3 : H p3 = none := (s1.trans s2).free n3
    have f4 : H p4 = none := ((s1.trans s2).trans s3).free n4
    have f5 : H p5 = none := (((s1.trans s2).trans s3).trans s4).free n5
    have fl : H l = none := ((((s1.trans s2).trans s3).trans s4).trans s5).free nl
    have y3 : p3 ≠ sysModules := fun z => by rw [z, (s1.trans s2) _ _ hsys] at n3; cases n3
    refine q _ l _ sH fl upd_same rfl ?_
    generalize upd (upd (upd (upd (upd (upd H p1 (.tup [])) p2 (.tup [V.int lo])) p3 (.lst [V.int lo])) p4 (.dK [])) p5 (.tup [V.non])) l _ = G at e1 e2 e3 e4 e5 ⊢
    intro v hv
    have at' : ∀ {b : Addr} {u : HO}, H b = none → G b = some u → (fun b => match H b with | none => G b | some _ => none) b = some u := fun {b u} h1 h2 => by
      show (match H b with | none => G b | some _ => none) = some u
      rw [h1]; exact h2
    simp only [List.mem_cons, List.not_mem_nil, or_false] at hv
    have nz : lo.natAbs < 10 ^ 50 := Nat.lt_of_le_of_lt (show lo.natAbs ≤ 10 ^ 18 by omega) (by decide +kernel)
    rcases hv with rfl | rfl | rfl | rfl | rfl | rfl | rfl | rfl | rfl | rfl | rfl | rfl | rfl | rfl
    · exact ⟨_, .intq _, .int (Nat.lt_of_le_of_lt (show (lo - 1).natAbs ≤ 10 ^ 18 + 1 by omega) (by decide +kernel)), by show (decide (lo ≤ lo - 1) && _) = false; rw [decide_eq_false (by omega)]; rfl⟩
    · exact ⟨_, .intq _, .int (Nat.lt_of_le_of_lt (show (hi + 1).natAbs ≤ 10 ^ 18 + 1 by omega) (by decide +kernel)), by show (decide (lo ≤ hi + 1) && decide (hi + 1 ≤ hi)) = false; rw [decide_eq_false (show ¬ hi + 1 ≤ hi by omega), Bool.and_false]⟩
    · exact ⟨_, .intq _, .int (by rw [big1]; decide +kernel), by rw [big1]; show (decide (lo ≤ -1 - 1000000000000000000000000000000) && _) = false; rw [decide_eq_false (by omega)]; rfl⟩
    · exact ⟨_, .intq _, .int (by rw [big2]; decide +kernel), by rw [big2]; show (decide (lo ≤ 10000000000000000000000000000000000000000) && decide (10000000000000000000000000000000000000000 ≤ hi)) = false; rw [decide_eq_false (show ¬ 10000000000000000000000000000000000000000 ≤ hi by omega), Bool.and_false]⟩
    · exact ⟨_, .blq _, .bool, trivial⟩
    · exact ⟨_, .blq _, .bool, trivial⟩
    · exact ⟨_, .nonq, .none, trivial⟩
    · exact ⟨_, .strq _, .str (by decide +kernel) (by decide +kernel), trivial⟩
    · exact ⟨_, .strq _, .str (by decide +kernel) (by decide +kernel), trivial⟩
    · exact ⟨.tuple [], .tupq (.inl (.inl (at' f1 e1))) .nil, by constructor <;> decide +kernel, trivial⟩
    · exact ⟨.tuple [.int lo], .tupq (.inl (.inl (at' f2 e2))) (.cons (.intq _) .nil), (Sn.t1 (k := 0) (n := 0) (.int nz)).mono (by omega) (by omega), trivial⟩
    · exact ⟨.list [.int lo], .lstq (.inl (.inl (at' f3 e3))) y3 (.cons (.intq _) .nil), (Sn.l1 (k := 0) (n := 0) (.int nz)).mono (by omega) (by omega), trivial⟩
    · exact ⟨.dict [], .dctq (kvs := []) (at' f4 e4) rfl .nil, by constructor <;> decide +kernel, trivial⟩
    · exact ⟨.tuple [.none], .tupq (.inl (.inl (at' f5 e5))) (.cons .nonq .nil), (Sn.t1 (k := 0) (n := 0) .none).mono (by omega) (by omega), trivial⟩
/-- nested(hand, item) -/
def sp_L_s5_nested (K : PySem.W.Frag) : Sp := fun vs H Q _ => ∃ (a : Addr) (x : V) (d : PyData) (n : Int) (o : HO) (lo hi : Int), vs = [.ref a, x] ∧ Pot H a n ∧ n ≤ 90000 ∧ H sysModules = some o ∧ a ≠ sysModules ∧ Dq K (off a H) x d ∧ Sn 1 20 d ∧ Bad lo hi d ∧
  ∀ H' x' d', But a H H' → Pot H' a (n + 30) → Dq K (off a H') x' d' → Sn 30 300 d' → Bad lo hi d' → Q x' H'
theorem ok_L_s5_nested (TX : Tx K mg) : FnOk P w K mg base CX0 3 TX.a_L_s5_nested TX.fd_L_s5_nested ["_law_hand", "_law_item"] (sp_L_s5_nested K) := by
  refine TX.f_L_s5_nested.ok sc_L_s5_nested (fun vs H Q E h => ?_) (fun cdv A outer s H vs Q E hr h => ?_)
  · obtain ⟨a, x, d, n, o, lo, hi, rfl, _⟩ := h; rfl
  · obtain ⟨a, x, d, n, o, lo, hi, rfl, hp, hn, hsys, nas, hq, hs, hb, q⟩ := h
    refine ⟨_, (pss_cons (ps_for PassesOwn.never rfl (pi_range1 (by rfl) TX.b_range (pa_cons (pe_call (ok_L_s5_of TX) (hr.mono (by decide)) (by rfl) TX.g_L_s5_of TX.f_L_s5_of.kp TX.bd_L_s5_of .nil pass0 (pa_cons (pv 0) (pa_cons (pe_lst (pa_cons pe_int (pa_cons pe_int (pa_cons pe_int (pa_cons pe_int (pa_cons pe_int (pa_cons pe_int pa_nil))))))) pa_nil))) pa_nil)) (pg_name (i := 2) sc_L_s5_nested.nd rfl (.inl rfl))
        (pss_one (ps_set (i := 1) sc_L_s5_nested.nd rfl (.inl rfl) (pe_ix (k_ixL (K := K) rfl) (pe_lst (pa_cons (pe_tup (pa_cons (pv 1) pa_nil)) (pa_cons (pe_lst (pa_cons (pv 1) pa_nil)) (pa_cons (pe_disp (pps_cons pe_str (pv 1) pps_nil) (by rfl) (by rfl) (by simp) (by decide)) (pa_cons (pe_tup (pa_cons (pv 1) (pa_cons pe_non pa_nil))) pa_nil))))) (pe_call (ok_L_s5_take TX) (hr.mono (by decide)) (by rfl) TX.g_L_s5_take TX.f_L_s5_take.kp TX.bd_L_s5_take .nil pass0 (pa_cons (pv 0) (pa_cons pe_int pa_nil))) (fun _ _ => rfl)))))
      (pss_one (ps_ret (pv 1)))), ?_⟩
    refine ⟨_, rfl, sz60 (by simp), fun z nz => ?_⟩
    have sz := same_upd (o := .lst [V.int 0, V.int 0, V.int 0, V.int 1, V.int 2, V.int 25]) nz
    have nza : z ≠ a := hp.ne nz
    refine ⟨a, z, _, n, rfl, hp.same sz, by omega, .inl (.inl upd_same), nza, by simp, by simp, fun H1 v b1 p1 hv => ?_⟩
    obtain ⟨k, rfl, hk⟩ : ∃ k : Nat, v = .int (k : Int) ∧ k ≤ 25 := by
      simp only [List.mem_cons, List.not_mem_nil, or_false] at hv
      rcases hv with rfl | rfl | rfl | rfl | rfl | rfl
      · exact ⟨0, rfl, by decide⟩
      · exact ⟨0, rfl, by decide⟩
      · exact ⟨0, rfl, by decide⟩
      · exact ⟨1, rfl, by decide⟩
      · exact ⟨2, rfl, by decide⟩
      · exact ⟨25, rfl, by decide⟩
    have b1' : But a H H1 := (But.of sz).trans b1
    refine ⟨_, rfl, by omega, by omega, ?_⟩
    rw [show ((k : Int)).toNat = k by omega]
    refine for_range (lo := 0) (n := k) (fun i σ H' => ∃ x d y2, σ = [some (.ref a), some x, y2] ∧ But a H H' ∧ Pot H' a (n + 1 + (i : Int)) ∧ Dq K (off a H') x d ∧ Sn (1 + i) (20 + 8 * i) d ∧ Bad lo hi d) ⟨x, d, none, rfl, b1', p1.mono (by omega), Dq.same (off_but b1') hq, hs, hb⟩ ?_ ?_
    · rintro i σ H2 hi2 ⟨x, d, y2, rfl, b3, d3, hq3, hs3, hb3⟩
      have hi' : i < k := hi2
      have hsys1 : H2 sysModules = some o := b3 _ _ (Ne.symm nas) hsys
      refine ⟨x, rfl, sz60 (by simp), fun q1 m1 => ⟨x, rfl, sz60 (by simp), fun q2 m2 q3 m3 => ⟨x, rfl, upd_same, [(.inr "a", x)], rfl, by simp, ?_⟩⟩⟩
      rw [upd_upd]
      refine ⟨x, rfl, sz60 (by simp), fun q4 m4 => ⟨sz60 (by simp), fun q5 m5 => ?_⟩⟩
      have w1 := same_upd (o := .tup [x]) m1
      have w2 := same_upd (o := .lst [x]) m2
      have w3 := same_upd (o := .dK [(.inr "a", x)]) m3
      have w4 := same_upd (o := .tup [x, V.non]) m4
      have w5 := same_upd (o := .lst [V.ref q1, V.ref q2, V.ref q3, V.ref q4]) m5
      have v4 := w4.trans w5
      have v3 := w3.trans v4
      have v2 := w2.trans v3
      have v1 := w1.trans v2
      have e1 := v2 _ _ (upd_same (a := q1) (o := .tup [x]))
      have e2 := v3 _ _ (upd_same (a := q2) (o := .lst [x]))
      have e3 := v4 _ _ (upd_same (a := q3) (o := .dK [(.inr "a", x)]))
      have e4 := w5 _ _ (upd_same (a := q4) (o := .tup [x, V.non]))
      have g1 : q1 ≠ a := d3.ne m1
      have g2 : q2 ≠ a := (d3.same w1).ne m2
      have y2 : q2 ≠ sysModules := fun z => by rw [z, w1 _ _ hsys1] at m2; cases m2
      have g3 : q3 ≠ a := (d3.same (w1.trans w2)).ne m3
      have g4 : q4 ≠ a := (d3.same ((w1.trans w2).trans w3)).ne m4
      have g5 : q5 ≠ a := (d3.same (((w1.trans w2).trans w3).trans w4)).ne m5
      refine ⟨.ref a, rfl, a, 4, _, rfl, d3.same v1, by omega, by decide, by decide, fun H5 r5 b5 d5 r50 r51 => ?_⟩
      have bb : But a H2 H5 := (But.of v1).trans b5
      have hx := Dq.same (off_but bb) hq3
      have hat : ∃ y d', atI [V.ref q1, V.ref q2, V.ref q3, V.ref q4] r5 = some y ∧ Dq K (off a H5) y d' ∧ Sn (1 + (i + 1)) (20 + 8 * (i + 1)) d' ∧ Bad lo hi d' := by
        have h : r5 = 0 ∨ r5 = 1 ∨ r5 = 2 ∨ r5 = 3 := by omega
        rcases h with rfl | rfl | rfl | rfl
        · exact ⟨_, .tuple [d], rfl, .tupq (.inl (.inl (by rw [off_at g1]; exact b5 _ _ g1 e1))) (.cons hx .nil), hs3.t1, trivial⟩
        · exact ⟨_, .list [d], rfl, .lstq (.inl (.inl (by rw [off_at g2]; exact b5 _ _ g2 e2))) y2 (.cons hx .nil), hs3.l1, trivial⟩
        · exact ⟨_, .dict [(.str "a", d)], rfl, .dctq (kvs := [(.inr "a", x)]) (by rw [off_at g3]; exact b5 _ _ g3 e3) rfl (.cons hx .nil), hs3.d1, trivial⟩
        · exact ⟨_, .tuple [d, .none], rfl, .tupq (.inl (.inl (by rw [off_at g4]; exact b5 _ _ g4 e4))) (.cons hx (.cons .nonq .nil)), (hs3.t2 (m := 0) .none).mono (by omega) (by omega), trivial⟩
      obtain ⟨y, d', hy, hyq, hys, hyb⟩ := hat
      refine ⟨q5, _, r5, y, rfl, rfl, .inl (.inl (b5 _ _ g5 upd_same)), hy, y, d', _, rfl, b3.trans bb, d5.mono ?_, hyq, hys, hyb⟩
      omega
    · rintro σ H2 ⟨x, d, y2, rfl, b3, d3, hq3, hs3, hb3⟩
      exact ⟨x, rfl, q _ x d b3 (d3.mono (by omega)) hq3 (hs3.mono (by omega) (by omega)) hb3⟩
end
/-- a number of runs, or none -/
def Run (x : V) : Prop := ∃ i, x = .int i ∧ 1 ≤ i ∧ i ≤ 60
def NoRun (K : PySem.W.Frag) (H : Hp) (x : V) : Prop := NoBud K H 60 x ∨ x = .int 0
/-- what a call lets out -/
def LetsOut (C : Addr) (x : V) (H : Hp) (E : XK) : Prop := ∀ d H', Same H H' → H' d = some (.xd [("value", x)]) → E (.ref C) (some d) H'
section
variable {P : Program} {w : World} {K : PySem.W.Frag} {mg : Str → Option Value} {base : Heap}
def sp_check_number (TX : Tx K mg) : Sp := fun vs H Q E => ∃ x m, vs = [x, .int m] ∧ ((Bud m x ∧ Q .non H) ∨ (NoBud K H m x ∧ LetsOut TX.c_InvalidCount x H E))
theorem ok_check_number (TX : Tx K mg) : FnOk P w K mg base (L2.CX P w) 4 TX.a_check_number TX.fd_check_number ["number", "most"] (sp_check_number TX) := by
  refine TX.f_check_number.okX sc_check_number (fun vs H Q E h => ?_) (fun cdv A outer s H vs Q E hr h => ?_)
  · obtain ⟨x, m, rfl, _⟩ := h; rfl
  · obtain ⟨x, m, rfl, hx⟩ := h
    refine ⟨_, (pss_one (ps_if (pt_not (pt_val (pe_call (ok_is_count_up_to TX) (hr.mono (by decide)) (by rfl) TX.g_is_count_up_to TX.f_is_count_up_to.kp TX.bd_is_count_up_to .nil pass0 (pa_cons (pv 0) (pa_cons (pv 1) pa_nil)))))
        (pss_one (ps_raise rfl takesX (pmk_oex TX.ox_InvalidCount TX.ic_InvalidCount TX.ti_InvalidCount (ok_init_InvalidCount TX) (hr.mono (by decide)) TX.bi_InvalidCount .nil pass0 (by rfl) TX.gc_InvalidCount (pa_cons (pv 0) pa_nil))))
        pss_nil)), ?_⟩
    rcases hx with ⟨⟨i, rfl, h0, h1⟩, q⟩ | ⟨hn, q⟩
    · exact ⟨_, rfl, _, rfl, _, _, rfl, .inl ⟨i, rfl, true, by rw [decide_eq_true h0, decide_eq_true h1]; rfl, iteF q⟩⟩
    · have fin : tMkO TX.c_InvalidCount (sp_init K TX.c_InvalidCount (Str.ofString "value")) [] (tCons (tVar 0) tNil) [some x, some (.int m)] H fun cls d H' => E cls d H' := raise_read (K := K) ⟨x, rfl, x, rfl, fun d H2 s3 _ hd => q d H2 s3 hd⟩ fun R R' h z => by
        obtain ⟨v, e1, z⟩ := z; exact ⟨v, e1, h _ _ z⟩
      rcases hn with ⟨j, rfl, hj⟩ | hn
      · exact ⟨_, rfl, _, rfl, _, m, rfl, .inl ⟨j, rfl, false, by rw [hj], iteT fin⟩⟩
      · exact ⟨_, rfl, _, rfl, _, m, rfl, .inr ⟨hn, false, rfl, iteT fin⟩⟩
def sp_check_runs (TX : Tx K mg) : Sp := fun vs H Q E => ∃ x, vs = [x] ∧ ((Run x ∧ Q .non H) ∨ (NoRun K H x ∧ LetsOut TX.c_InvalidBudget x H E))
theorem ok_check_runs (TX : Tx K mg) : FnOk P w K mg base (L2.CX P w) 4 TX.a_check_runs TX.fd_check_runs ["k"] (sp_check_runs TX) := by
  refine TX.f_check_runs.okX sc_check_runs (fun vs H Q E h => ?_) (fun cdv A outer s H vs Q E hr h => ?_)
  · obtain ⟨x, rfl, _⟩ := h; rfl
  · obtain ⟨x, rfl, hx⟩ := h
    refine ⟨_, (pss_one (ps_if (PW.pt (pw_or (pt_not (pt_val (pe_call (ok_is_count_up_to TX) (hr.mono (by decide)) (by rfl) TX.g_is_count_up_to TX.f_is_count_up_to.kp TX.bd_is_count_up_to .nil pass0 (pa_cons (pv 0) (pa_cons (pe_glob (v := .int (60)) (by rfl) TX.c_MOST_BUDGET ⟨_, rfl⟩) pa_nil))))) (pw_or1 (pt_cmpR op_eq (pv 0) pe_int (nomark _)))))
        (pss_one (ps_raise rfl takesX (pmk_oex TX.ox_InvalidBudget TX.ic_InvalidBudget TX.ti_InvalidBudget (ok_init_InvalidBudget TX) (hr.mono (by decide)) TX.bi_InvalidBudget .nil pass0 (by rfl) TX.gc_InvalidBudget (pa_cons (pv 0) pa_nil))))
        pss_nil)), ?_⟩
    rcases hx with ⟨⟨i, rfl, h0, h1⟩, q⟩ | ⟨hn, q⟩
    · exact ⟨_, rfl, _, _, rfl, .inl ⟨i, rfl, true, by rw [decide_eq_true (show (0 : Int) ≤ i by omega), decide_eq_true h1]; rfl, iteF ⟨_, rfl, rfl, _, rfl, decF (by intro e; cases e; omega) q⟩⟩⟩
    · have fin : tMkO TX.c_InvalidBudget (sp_init K TX.c_InvalidBudget (Str.ofString "value")) [] (tCons (tVar 0) tNil) [some x] H fun cls d H' => E cls d H' := raise_read (K := K) ⟨x, rfl, x, rfl, fun d H2 s3 _ hd => q d H2 s3 hd⟩ fun R R' h z => by
        obtain ⟨v, e1, z⟩ := z; exact ⟨v, e1, h _ _ z⟩
      rcases hn with (⟨j, rfl, hj⟩ | hn) | rfl
      · exact ⟨_, rfl, _, _, rfl, .inl ⟨j, rfl, false, by rw [hj], iteT fin⟩⟩
      · exact ⟨_, rfl, _, _, rfl, .inr ⟨hn, false, rfl, iteT fin⟩⟩
      · exact ⟨_, rfl, _, _, rfl, .inl ⟨0, rfl, true, rfl, iteF ⟨_, rfl, rfl, _, rfl, decT rfl fin⟩⟩⟩
/-- least_writes refused -/
def sp_least_writes (TX : Tx K mg) : Sp := fun vs H Q E => ∃ x y, vs = [x, y] ∧ ((NoBud K H (10 ^ 18) x ∧ LetsOut TX.c_InvalidCount x H E) ∨ (Bud (10 ^ 18) x ∧ NoRun K H y ∧ LetsOut TX.c_InvalidBudget y H E))
theorem ok_least_writes (TX : Tx K mg) : FnOk P w K mg base (L2.CX P w) 5 TX.a_least_writes TX.fd_least_writes ["n", "k"] (sp_least_writes TX) := by
  refine TX.f_least_writes.okX sc_least_writes (fun vs H Q E h => ?_) (fun cdv A outer s H vs Q E hr h => ?_)
  · obtain ⟨x, y, rfl, _⟩ := h; rfl
  · obtain ⟨x, y, rfl, hx⟩ := h
    refine ⟨_, (pss_cons (ps_expr (pe_call (ok_check_number TX) (hr.mono (by decide)) (by rfl) TX.g_check_number TX.f_check_number.kp TX.bd_check_number .nil passX (pa_cons (pv 0) (pa_cons (pe_glob (v := .int (1000000000000000000)) (by rfl) TX.c_MOST_POSITION ⟨_, rfl⟩) pa_nil))))
      (pss_cons (ps_expr (pe_call (ok_check_runs TX) (hr.mono (by decide)) (by rfl) TX.g_check_runs TX.f_check_runs.kp TX.bd_check_runs .nil passX (pa_cons (pv 1) pa_nil)))
      (pss_one (ps_ret (pe_call (ok_writes_needed TX) (hr.mono (by decide)) (by rfl) TX.g_writes_needed TX.f_writes_needed.kp TX.bd_writes_needed .nil pass0 (pa_cons (pv 0) (pa_cons (pv 1) pa_nil))))))), ?_⟩
    rcases hx with ⟨h, q⟩ | ⟨h, g, q⟩
    · exact ⟨_, rfl, _, _, rfl, .inr ⟨h, q⟩⟩
    · exact ⟨_, rfl, _, _, rfl, .inl ⟨h, _, rfl, _, rfl, .inr ⟨g, q⟩⟩⟩
def sp_policy_merge (TX : Tx K mg) : Sp := fun vs H Q E => ∃ x y, vs = [x, y] ∧ ((∃ k n : Nat, x = .int (k : Int) ∧ y = .int (n : Int) ∧ 1 ≤ k ∧ k ≤ 60 ∧ n ≤ 10 ^ 18 ∧ ∀ H', Same H H' → Q (.int (((rl k n).length : Int) + 1 - ((rl k (n + 1)).length : Int))) H') ∨
  (NoRun K H x ∧ LetsOut TX.c_InvalidBudget x H E) ∨ (Run x ∧ NoBud K H (10 ^ 18) y ∧ LetsOut TX.c_InvalidCount y H E))
theorem ok_policy_merge (TX : Tx K mg) : FnOk P w K mg base (L2.CX P w) 5 TX.a_policy_merge TX.fd_policy_merge ["k", "i"] (sp_policy_merge TX) := by
  refine TX.f_policy_merge.okX sc_policy_merge (fun vs H Q E h => ?_) (fun cdv A outer s H vs Q E hr h => ?_)
  · obtain ⟨x, y, rfl, _⟩ := h; rfl
  · obtain ⟨x, y, rfl, hx⟩ := h
    refine ⟨_, (pss_cons (ps_expr (pe_call (ok_check_runs TX) (hr.mono (by decide)) (by rfl) TX.g_check_runs TX.f_check_runs.kp TX.bd_check_runs .nil passX (pa_cons (pv 0) pa_nil)))
      (pss_cons (ps_expr (pe_call (ok_check_number TX) (hr.mono (by decide)) (by rfl) TX.g_check_number TX.f_check_number.kp TX.bd_check_number .nil passX (pa_cons (pv 1) (pa_cons (pe_glob (v := .int (1000000000000000000)) (by rfl) TX.c_MOST_POSITION ⟨_, rfl⟩) pa_nil))))
      (pss_one (ps_ret (pe_op op_sub (pe_op op_add (pe_callB (id := "len") (k_len (K := K) rfl) (by rfl) TX.b_len (by decide +kernel) (pa_cons (pe_call (ok_run_lengths TX) (hr.mono (by decide)) (by rfl) TX.g_run_lengths TX.f_run_lengths.kp TX.bd_run_lengths .nil pass0 (pa_cons (pv 0) (pa_cons (pv 1) pa_nil))) pa_nil)) pe_int) (pe_callB (id := "len") (k_len (K := K) rfl) (by rfl) TX.b_len (by decide +kernel) (pa_cons (pe_call (ok_run_lengths TX) (hr.mono (by decide)) (by rfl) TX.g_run_lengths TX.f_run_lengths.kp TX.bd_run_lengths .nil pass0 (pa_cons (pv 0) (pa_cons (pe_op op_add (pv 1) pe_int) pa_nil))) pa_nil))))))), ?_⟩
    rcases hx with ⟨k, n, rfl, rfl, hk, hk2, hn, q⟩ | ⟨h, q⟩ | ⟨h, g, q⟩
    · refine ⟨_, rfl, _, rfl, .inl ⟨⟨_, rfl, by omega, by omega⟩, _, rfl, _, _, rfl, .inl ⟨⟨_, rfl, by omega, by omega⟩, ?_⟩⟩⟩
      refine ⟨_, rfl, _, rfl, k, n, rfl, hk, hk2, by omega, fun H1 p1 s1 h1 => ⟨p1, _, rfl, .inr h1, _, _, rfl, rfl, ?_⟩⟩
      refine ⟨_, rfl, _, rfl, _, _, rfl, rfl, k, n + 1, rfl, hk, hk2, by omega, fun H2 p2 s2 h2 => ⟨p2, _, rfl, .inr h2, _, _, rfl, rfl, ?_⟩⟩
      have := q H2 (s1.trans s2)
      rw [vi_len, vi_len]
      exact this
    · exact ⟨_, rfl, _, rfl, .inr ⟨h, q⟩⟩
    · exact ⟨_, rfl, _, rfl, .inl ⟨h, _, rfl, _, _, rfl, .inr ⟨g, q⟩⟩⟩
def sp_policy_runs (TX : Tx K mg) : Sp := fun vs H Q E => ∃ x y, vs = [x, y] ∧ ((∃ k n : Nat, x = .int (k : Int) ∧ y = .int (n : Int) ∧ 1 ≤ k ∧ k ≤ 60 ∧ n ≤ 10 ^ 18 ∧ ∀ H' p, Same H H' → SqT K H' p (vi (rl k n)) → Q (.ref p) H') ∨
  (NoRun K H x ∧ LetsOut TX.c_InvalidBudget x H E) ∨ (Run x ∧ NoBud K H (10 ^ 18) y ∧ LetsOut TX.c_InvalidCount y H E))
theorem ok_policy_runs (TX : Tx K mg) : FnOk P w K mg base (L2.CX P w) 5 TX.a_policy_runs TX.fd_policy_runs ["k", "n"] (sp_policy_runs TX) := by
  refine TX.f_policy_runs.okX sc_policy_runs (fun vs H Q E h => ?_) (fun cdv A outer s H vs Q E hr h => ?_)
  · obtain ⟨x, y, rfl, _⟩ := h; rfl
  · obtain ⟨x, y, rfl, hx⟩ := h
    refine ⟨_, (pss_cons (ps_expr (pe_call (ok_check_runs TX) (hr.mono (by decide)) (by rfl) TX.g_check_runs TX.f_check_runs.kp TX.bd_check_runs .nil passX (pa_cons (pv 0) pa_nil)))
      (pss_cons (ps_expr (pe_call (ok_check_number TX) (hr.mono (by decide)) (by rfl) TX.g_check_number TX.f_check_number.kp TX.bd_check_number .nil passX (pa_cons (pv 1) (pa_cons (pe_glob (v := .int (1000000000000000000)) (by rfl) TX.c_MOST_POSITION ⟨_, rfl⟩) pa_nil))))
      (pss_one (ps_ret (pe_call (ok_run_lengths TX) (hr.mono (by decide)) (by rfl) TX.g_run_lengths TX.f_run_lengths.kp TX.bd_run_lengths .nil pass0 (pa_cons (pv 0) (pa_cons (pv 1) pa_nil))))))), ?_⟩
    rcases hx with ⟨k, n, rfl, rfl, hk, hk2, hn, q⟩ | ⟨h, q⟩ | ⟨h, g, q⟩
    · exact ⟨_, rfl, _, rfl, .inl ⟨⟨_, rfl, by omega, by omega⟩, _, rfl, _, _, rfl, .inl ⟨⟨_, rfl, by omega, by omega⟩, _, rfl, _, rfl, k, n, rfl, hk, hk2, by omega, q⟩⟩⟩
    · exact ⟨_, rfl, _, rfl, .inr ⟨h, q⟩⟩
    · exact ⟨_, rfl, _, rfl, .inl ⟨h, _, rfl, _, _, rfl, .inr ⟨g, q⟩⟩⟩
def sp_policy_schedule (TX : Tx K mg) : Sp := fun vs H Q E => ∃ x y, vs = [x, y] ∧ ((NoRun K H x ∧ LetsOut TX.c_InvalidBudget x H E) ∨ (Run x ∧ NoBud K H 60 y ∧ LetsOut TX.c_InvalidCount y H E))
theorem ok_policy_schedule (TX : Tx K mg) : FnOk P w K mg base (L2.CX P w) 6 TX.a_policy_schedule TX.fd_policy_schedule ["k", "n"] (sp_policy_schedule TX) := by
  refine TX.f_policy_schedule.okX sc_policy_schedule (fun vs H Q E h => ?_) (fun cdv A outer s H vs Q E hr h => ?_)
  · obtain ⟨x, y, rfl, _⟩ := h; rfl
  · obtain ⟨x, y, rfl, hx⟩ := h
    refine ⟨_, (pss_cons (ps_expr (pe_call (ok_check_runs TX) (hr.mono (by decide)) (by rfl) TX.g_check_runs TX.f_check_runs.kp TX.bd_check_runs .nil passX (pa_cons (pv 0) pa_nil)))
      (pss_cons (ps_expr (pe_call (ok_check_number TX) (hr.mono (by decide)) (by rfl) TX.g_check_number TX.f_check_number.kp TX.bd_check_number .nil passX (pa_cons (pv 1) (pa_cons (pe_glob (v := .int (60)) (by rfl) TX.c_MOST_FLUSHES ⟨_, rfl⟩) pa_nil))))
      (pss_one (ps_ret (pe_callTy (T := "tuple") (k_tupOf (K := K) rfl) (by rfl) TX.b_tuple (by decide +kernel) (pa_cons (pe_lc (own := [("flush", 2)]) (by rfl) sc_policy_schedule.nd (pi_range1 (by rfl) TX.b_range (pa_cons (pv 1) pa_nil)) (blkOk_by (own := [("flush", 2)]) (N := N_policy_schedule) (sc := defScope s_policy_schedule) (by decide +kernel)) (fun _ _ _ _ _ => (pg_name (i := 2) sc_policy_schedule.nd rfl (Or.inl rfl))) (fun _ _ _ _ _ => pts_nil) (fun _ _ _ _ _ => (pe_call (ok_policy_merge TX) (hr.mono (by decide)) (by rfl) TX.g_policy_merge TX.f_policy_merge.kp TX.bd_policy_merge .nil passN (pa_cons (pv 0) (pa_cons (pv 2) pa_nil))))) pa_nil)))))), ?_⟩
    rcases hx with ⟨h, q⟩ | ⟨h, g, q⟩
    · exact ⟨_, rfl, _, rfl, .inr ⟨h, q⟩⟩
    · exact ⟨_, rfl, _, rfl, .inl ⟨h, _, rfl, _, _, rfl, .inr ⟨g, q⟩⟩⟩
end
theorem u65 {k : Nat} {A : Around} (r : Room k A) : A.units + 65 < cLine := by have := r.un; omega
section
variable {P : Program} {w : World} {K : PySem.W.Frag} {mg : Str → Option Value} {base : Heap}
/-- what met makes of a call: the names of the five classes in their order -/
def metC (TX : Tx K mg) : List Addr := [TX.c_InvalidBudget, TX.c_InvalidState, TX.c_InvalidMerge, TX.c_InvalidCount, TX.c_InvalidSchedule]
def metN : List Str := ["budget", "levels", "taken", "count", "plan"]
def TMet (TX : Tx K mg) : (XK → Hp → VK → Prop) → Hp → VK → Prop := fun tl H Q => ∀ H1, Same H H1 → ∀ (E' : XK) (R : VK),
  (∀ (i : Nat) (C dd : Addr) (x : Str) (v : V) (H' : Hp), (metC TX)[i]? = some C → metN[i]? = some x → H' dd = some (.xd [("value", v)]) → (∀ H'' t, Same H' H'' → H'' t = some (.tup [.str x, v]) → Q (.ref t) H'') → E' (.ref C) (some dd) H') →
  (∀ (v : V) (H' : Hp), (∀ H'' t, Same H' H'' → H'' t = some (.tup [.str "returns", v]) → Q (.ref t) H'') → R v H') → tl E' H1 R
theorem exm_of (TX : Tx K mg) {C : Addr} (h : C ∈ metC TX) : PySem.W.exmOne K (.ref C) (.ref TX.c_MergeBudgetError) = some true := by
  have hm : C ∈ [TX.c_InvalidSchedule, TX.c_InvalidCount, TX.c_InvalidBudget, TX.c_InvalidState, TX.c_InvalidMerge] := by
    unfold metC at h
    simp only [List.mem_cons, List.not_mem_nil, or_false] at h ⊢
    rcases h with rfl | rfl | rfl | rfl | rfl <;> simp
  obtain ⟨_, k2, _⟩ := kitB_ok TX.kits hm
  have hne : C ≠ TX.c_MergeBudgetError := fun e => TX.kitz (by rw [← e]; exact hm)
  unfold PySem.W.exmOne
  rw [if_pos (by rw [TX.xf_MergeBudgetError.exC]; rfl)]
  unfold PySem.W.kitOne at k2
  rw [if_neg (fun z => hne (by have z2 : Value.ref C = Value.ref TX.c_MergeBudgetError := beq_iff_eq.mp z; cases z2; rfl))] at k2
  exact k2
theorem met_kit (TX : Tx K mg) {i j : Nat} {C D : Addr} (hi : (metC TX)[i]? = some C) (hj : (metC TX)[j]? = some D) : PySem.W.kitOne K (.ref C) (.ref D) = some (decide (i = j)) := by
  have mem : ∀ {C : Addr}, C ∈ metC TX → C ∈ [TX.c_InvalidSchedule, TX.c_InvalidCount, TX.c_InvalidBudget, TX.c_InvalidState, TX.c_InvalidMerge] := fun {C} h => by
    unfold metC at h
    simp only [List.mem_cons, List.not_mem_nil, or_false] at h ⊢
    rcases h with rfl | rfl | rfl | rfl | rfl <;> simp
  obtain ⟨k1, _, _⟩ := kitB_ok TX.kits (mem (List.mem_of_getElem? hi))
  rw [k1 D (mem (List.mem_of_getElem? hj))]
  have nd : (metC TX).Nodup := by
    have := TX.kitn
    unfold metC
    simp only [List.nodup_cons, List.mem_cons, List.not_mem_nil, or_false, not_or, not_false_eq_true, List.nodup_nil, and_true] at this ⊢
    obtain ⟨⟨a1, a2, a3, a4⟩, ⟨b1, b2, b3⟩, ⟨c1, c2⟩, d1⟩ := this
    simp only [ne_eq, Ne.symm a1, Ne.symm a2, Ne.symm a3, Ne.symm a4, Ne.symm b1, Ne.symm b2, Ne.symm b3, Ne.symm c1, Ne.symm c2, Ne.symm d1, a1, a2, a3, a4, b1, b2, b3, c1, c2, d1, not_false_eq_true, and_self]
  congr 1
  by_cases e : i = j
  · subst e
    rw [hi] at hj
    cases hj
    simp
  · have : C ≠ D := fun z => by
      subst z
      obtain ⟨q1, r1⟩ := List.getElem?_eq_some_iff.mp hi
      obtain ⟨q2, r2⟩ := List.getElem?_eq_some_iff.mp hj
      exact e ((List.getElem_inj nd).mp (r1.trans r2.symm))
    rw [decide_eq_false e]
    simpa using this
theorem met_exc (TX : Tx K mg) {C : Addr} (h : C ∈ metC TX) : ExcC K C ∧ XfC K C ∧ PySem.W.findIn K (.ref C) "value" = some none ∧ PySem.W.kitOne K (.ref C) (.type "ValueError") = some true := by
  have hm : C ∈ [TX.c_InvalidSchedule, TX.c_InvalidCount, TX.c_InvalidBudget, TX.c_InvalidState, TX.c_InvalidMerge] := by
    unfold metC at h
    simp only [List.mem_cons, List.not_mem_nil, or_false] at h ⊢
    rcases h with rfl | rfl | rfl | rfl | rfl <;> simp
  obtain ⟨_, _, k3⟩ := kitB_ok TX.kits hm
  unfold metC at h
  simp only [List.mem_cons, List.not_mem_nil, or_false] at h
  rcases h with rfl | rfl | rfl | rfl | rfl
  · exact ⟨TX.xe_InvalidBudget, TX.xf_InvalidBudget, TX.no_InvalidBudget, k3⟩
  · exact ⟨TX.xe_InvalidState, TX.xf_InvalidState, TX.no_InvalidState, k3⟩
  · exact ⟨TX.xe_InvalidMerge, TX.xf_InvalidMerge, TX.no_InvalidMerge, k3⟩
  · exact ⟨TX.xe_InvalidCount, TX.xf_InvalidCount, TX.no_InvalidCount, k3⟩
  · exact ⟨TX.xe_InvalidSchedule, TX.xf_InvalidSchedule, TX.no_InvalidSchedule, k3⟩
end
def TTs {K : PySem.W.Frag} {mg : Str → Option Value} (TX : Tx K mg) : List (Addr × Str) := [(TX.ptl_L_s5_both_right, Str.ofString "_law_s5_both_right" ++ ".<locals>." ++ "<lambda>")]
section
variable {P : Program} {w : World} {K : PySem.W.Frag} {mg : Str → Option Value} {base : Heap}
theorem met_gives_B (TX : Tx K mg) {cdv cdg : Value} {A : Around} {outer : List Env} {s0 : Shared} {H0 : Hp} {E : XK} {q : Str} {n : Nat} (hr0 : Room (n + 1) (cxOf CX0 P w K mg base N_L_s5_both_right (Str.ofString "_law_s5_both_right") (defScope s_L_s5_both_right) TX.a_L_s5_both_right cdv A outer s0 H0 E).nox.A) :
    GivesE (cxOf CX0 P w K mg base N_L_s5_both_right (Str.ofString "_law_s5_both_right") (defScope s_L_s5_both_right) TX.a_L_s5_both_right cdv A outer s0 H0 E).nox N_L_s5_met "_law_s5_met" (defScope s_L_s5_met) TX.a_L_s5_met cdg (defBody s_L_s5_met) "_law_call" q (TMet TX) := by
  intro f c' s H Q tl act hc h
  have hr := hr0.deeper (envOfC "_law_s5_met" (defScope s_L_s5_met) s.heap.objs.size TX.a_L_s5_met cdg)
  have HB : ∀ (p0 p1 p2 p3 : PySem.Pos) (W : WX) (pn : List (Addr × Obj)) (xe : Value → Shared → Prop), Takes ((cxOf CX0 P w K mg base N_L_s5_met "_law_s5_met" (defScope s_L_s5_met) TX.a_L_s5_met cdg (cxOf CX0 P w K mg base N_L_s5_both_right (Str.ofString "_law_s5_both_right") (defScope s_L_s5_both_right) TX.a_L_s5_both_right cdv A outer s0 H0 E).nox.A (cxOf CX0 P w K mg base N_L_s5_both_right (Str.ofString "_law_s5_both_right") (defScope s_L_s5_both_right) TX.a_L_s5_both_right cdv A outer s0 H0 E).nox.stack s H E0).nox.tr pn xe) W →
      PassesOwn (model P w) (cxOf CX0 P w K mg base N_L_s5_met "_law_s5_met" (defScope s_L_s5_met) TX.a_L_s5_met cdg (cxOf CX0 P w K mg base N_L_s5_both_right (Str.ofString "_law_s5_both_right") (defScope s_L_s5_both_right) TX.a_L_s5_both_right cdv A outer s0 H0 E).nox.A (cxOf CX0 P w K mg base N_L_s5_both_right (Str.ofString "_law_s5_both_right") (defScope s_L_s5_both_right) TX.a_L_s5_both_right cdv A outer s0 H0 E).nox.stack s H E0).nox.A (cxOf CX0 P w K mg base N_L_s5_met "_law_s5_met" (defScope s_L_s5_met) TX.a_L_s5_met cdg (cxOf CX0 P w K mg base N_L_s5_both_right (Str.ofString "_law_s5_both_right") (defScope s_L_s5_both_right) TX.a_L_s5_both_right cdv A outer s0 H0 E).nox.A (cxOf CX0 P w K mg base N_L_s5_both_right (Str.ofString "_law_s5_both_right") (defScope s_L_s5_both_right) TX.a_L_s5_both_right cdv A outer s0 H0 E).nox.stack s H E0).nox.env xe →
      PSs ((cxOf CX0 P w K mg base N_L_s5_met "_law_s5_met" (defScope s_L_s5_met) TX.a_L_s5_met cdg (cxOf CX0 P w K mg base N_L_s5_both_right (Str.ofString "_law_s5_both_right") (defScope s_L_s5_both_right) TX.a_L_s5_both_right cdv A outer s0 H0 E).nox.A (cxOf CX0 P w K mg base N_L_s5_both_right (Str.ofString "_law_s5_both_right") (defScope s_L_s5_both_right) TX.a_L_s5_both_right cdv A outer s0 H0 E).nox.stack s H E0).nox.tr pn xe) [.Assign [.Name "_law_result" p0] (.Call (.Name "_law_call" p1) [] [] p2) p3]
        (fun D σ H' => ∃ Ech : XK, (∀ cls d H'', Ech cls d H'' → W cls d σ H'') ∧ σ[0]? = some (some (.ref f)) ∧ H' c' = some (LamX.CodeO c' q) ∧ tl Ech H' fun v H'' => D.nx (σ.set 2 (some v)) H'') := fun p0 p1 p2 p3 W pn xe tk _ => by
    refine ⟨fun pins s' σ H' D I h' => ?_⟩
    obtain ⟨Ech, hW, h1, h2, h3⟩ := h'
    have hp := act W pn xe Ech p1 p2 tk
    have hq := pss_one (ps_set (i := 2) (pos' := p0) (pos := p3) sc_L_s5_met.nd rfl (.inl rfl) hp)
    exact hq.run pins s' σ H' D I ⟨h1, h2, hW, h3⟩
  refine ⟨_, (pss_cons (ps_asg (pe_tup (pa_cons pe_non (pa_cons pe_non pa_nil))) (pg_tup rfl (pgs_cons (pg_name (i := 1) sc_L_s5_met.nd rfl (.inl rfl)) (pgs_cons (pg_name (i := 2) sc_L_s5_met.nd rfl (.inl rfl)) pgs_nil))))
      (pss_cons (ps_try_kept (c := .ref TX.c_MergeBudgetError) (i := 3) rfl rfl sc_L_s5_met.nd rfl rfl ⟨by rfl, by decide, .inl TX.gc_MergeBudgetError⟩ (HB _ _ _ _) (fun _ _ _ _ _ _ _ => (pss_one (ps_set (i := 1) sc_L_s5_met.nd rfl (.inl rfl) (pv 3)))))
      (pss_cons (ps_if (pt_cmpR op_isN (pv 1) pe_non (nomark _))
        (pss_one (ps_ret (pe_tup (pa_cons pe_str (pa_cons (pv 2) pa_nil)))))
        pss_nil)
      (pss_cons (ps_set (i := 4) sc_L_s5_met.nd rfl (.inl rfl) (pe_lst (pa_cons (pe_callB (id := "isinstance") call_isX (by rfl) TX.b_isinstance (by decide +kernel) (pa_cons (pv 1) (pa_cons (pe_glob (v := .ref TX.c_InvalidBudget) (by rfl) TX.gc_InvalidBudget rfl) pa_nil))) (pa_cons (pe_callB (id := "isinstance") call_isX (by rfl) TX.b_isinstance (by decide +kernel) (pa_cons (pv 1) (pa_cons (pe_glob (v := .ref TX.c_InvalidState) (by rfl) TX.gc_InvalidState rfl) pa_nil))) (pa_cons (pe_callB (id := "isinstance") call_isX (by rfl) TX.b_isinstance (by decide +kernel) (pa_cons (pv 1) (pa_cons (pe_glob (v := .ref TX.c_InvalidMerge) (by rfl) TX.gc_InvalidMerge rfl) pa_nil))) pa_nil)))))
      (pss_cons (ps_set (i := 4) sc_L_s5_met.nd rfl (.inl rfl) (pe_op op_cat (pv 4) (pe_lst (pa_cons (pe_callB (id := "isinstance") call_isX (by rfl) TX.b_isinstance (by decide +kernel) (pa_cons (pv 1) (pa_cons (pe_glob (v := .ref TX.c_InvalidCount) (by rfl) TX.gc_InvalidCount rfl) pa_nil))) (pa_cons (pe_callB (id := "isinstance") call_isX (by rfl) TX.b_isinstance (by decide +kernel) (pa_cons (pv 1) (pa_cons (pe_glob (v := .ref TX.c_InvalidSchedule) (by rfl) TX.gc_InvalidSchedule rfl) pa_nil))) pa_nil)))))
      (pss_cons (ps_if (PW.pt (pw_or (pt_cmpR op_ne (pe_bm PySem.F.plainAttrs_list PySem.F.slot_list_count PySem.F.type_list_count (mt_countB (u65 hr)) (pv 4) (pa_cons pe_bl pa_nil)) pe_int (nomark _)) (pw_or1 (pt_not (pt_val (pe_callB (id := "isinstance") call_isX (by rfl) TX.b_isinstance (by decide +kernel) (pa_cons (pv 1) (pa_cons (pe_bltn (v := .ty "ValueError") (by rfl) TX.b_ValueError (by decide +kernel) rfl) pa_nil))))))))
        (pss_one (ps_ret (pe_tup (pa_cons pe_str (pa_cons pe_non pa_nil)))))
        pss_nil)
      (pss_one (ps_ret (pe_tup (pa_cons (pe_ix (k_ixL (K := K) rfl) (pe_lst (pa_cons pe_str (pa_cons pe_str (pa_cons pe_str (pa_cons pe_str (pa_cons pe_str pa_nil)))))) (pe_bm PySem.F.plainAttrs_list PySem.F.slot_list_index PySem.F.type_list_index mt_index (pv 4) (pa_cons pe_bl pa_nil)) (fun _ _ => rfl)) (pa_cons (pe_xv (pv 1)) pa_nil))))))))))), ?_⟩
  refine ⟨sz60 (by simp), fun t0 n0 => ⟨t0, _, rfl, .inl (.inl upd_same), rfl, _, _, rfl, _, _, rfl, rfl, ?_⟩⟩
  have z0 := same_upd (o := .tup [V.non, V.non]) n0
  refine ⟨fun cls d H' => ∃ (i : Nat) (C dd : Addr) (x : Str) (v : V), (metC TX)[i]? = some C ∧ metN[i]? = some x ∧ cls = .ref C ∧ d = some dd ∧ H' dd = some (.xd [("value", v)]) ∧ ∀ H'' t, Same H' H'' → H'' t = some (.tup [.str x, v]) → Q (.ref t) H'', ?_, rfl, z0 _ _ hc, h _ z0 _ _ (fun i C dd x v H' a1 a2 a3 a4 => ⟨i, C, dd, x, v, a1, a2, rfl, rfl, a3, a4⟩) fun v H' q => ?_⟩
  rotate_left
  · refine ⟨_, rfl, rfl, _, rfl, iteB1 (by rfl) ?_⟩
    refine ⟨_, rfl, sz60 (by simp), fun t1 n1 => q _ t1 (same_upd n1) upd_same⟩
  rintro cls d H' ⟨i, C, dd, x, v, hi, hx, rfl, rfl, hdd, q⟩
  have hmem := List.mem_of_getElem? hi
  obtain ⟨x1, x2, x3, x4⟩ := met_exc TX hmem
  refine ⟨exm_of TX hmem, fun a na => ⟨_, rfl, ?_⟩⟩
  have za := same_upd (o := KeO a (.ref C) (some dd)) na
  have hX : XAt (upd H' a (KeO a (.ref C) (some dd))) a C (some [("value", v)]) := .keptd upd_same (za _ _ hdd)
  refine ⟨_, rfl, rfl, _, rfl, iteB0 (by rfl) ?_⟩
  have kit := fun j D hj => met_kit TX (j := j) (D := D) hi hj
  have hi5 : i < 5 := (List.getElem?_eq_some_iff.mp hi).1
  refine ⟨_, rfl, a, C, _, _, _, decide (i = 0), rfl, .own _, hX, x1, kit 0 _ rfl, _, rfl, a, C, _, _, _, decide (i = 1), rfl, .own _, hX, x1, kit 1 _ rfl, _, rfl, a, C, _, _, _, decide (i = 2), rfl, .own _, hX, x1, kit 2 _ rfl, sz60 (by simp), fun l1 n1 => ?_⟩
  have z1 := same_upd (o := .lst [V.bl (decide (i = 0)), V.bl (decide (i = 1)), V.bl (decide (i = 2))]) n1
  have hX1 := hX.same z1
  refine ⟨_, rfl, _, rfl, a, C, _, _, _, decide (i = 3), rfl, .own _, hX1, x1, kit 3 _ rfl, _, rfl, a, C, _, _, _, decide (i = 4), rfl, .own _, hX1, x1, kit 4 _ rfl, sz60 (by simp), fun l2 n2 => ?_⟩
  have z2 := same_upd (o := .lst [V.bl (decide (i = 3)), V.bl (decide (i = 4))]) n2
  refine ⟨l1, l2, _, _, rfl, rfl, z2 _ _ upd_same, upd_same, sz60 (by simp), fun l3 n3 => ?_⟩
  obtain ⟨bs, hbs⟩ : ∃ bs : List Bool, bs = [decide (i = 0), decide (i = 1), decide (i = 2), decide (i = 3), decide (i = 4)] := ⟨_, rfl⟩
  have ebs : [V.bl (decide (i = 0)), V.bl (decide (i = 1)), V.bl (decide (i = 2))] ++ [V.bl (decide (i = 3)), V.bl (decide (i = 4))] = bs.map V.bl := by rw [hbs]; rfl
  rw [ebs]
  have z3 := same_upd (o := .lst (bs.map V.bl)) n3
  have s3 := (z1.trans z2).trans z3
  have hX3 := hX.same s3
  have hl3 : (upd (upd (upd (upd H' a (KeO a (.ref C) (some dd))) l1 (.lst [V.bl (decide (i = 0)), V.bl (decide (i = 1)), V.bl (decide (i = 2))])) l2 (.lst [V.bl (decide (i = 3)), V.bl (decide (i = 4))])) l3 (.lst (bs.map V.bl))) l3 = some (.lst (bs.map V.bl)) := upd_same
  have s03 := za.trans s3
  generalize upd (upd (upd (upd H' a _) l1 _) l2 _) l3 _ = G at *
  have hcount : bs.countP id = 1 := by
    rw [hbs]
    have h5 : i = 0 ∨ i = 1 ∨ i = 2 ∨ i = 3 ∨ i = 4 := by omega
    rcases h5 with rfl | rfl | rfl | rfl | rfl <;> rfl
  have hat : (bs.map V.bl)[i]? = some (V.bl true) := by
    rw [hbs]
    have h5 : i = 0 ∨ i = 1 ∨ i = 2 ∨ i = 3 ∨ i = 4 := by omega
    rcases h5 with rfl | rfl | rfl | rfl | rfl <;> rfl
  have hbef : ∀ (m : Nat) (z' : V), m < i → (bs.map V.bl)[m]? = some z' → eqV z' (.bl true) = false := fun m z' hm hz => by
    have e : (bs.map V.bl)[m]? = some (V.bl false) := by
      rw [hbs]
      have h5 : m = 0 ∨ m = 1 ∨ m = 2 ∨ m = 3 := by omega
      rcases h5 with rfl | rfl | rfl | rfl
      · show some (V.bl (decide (i = 0))) = _; rw [decide_eq_false (by omega)]
      · show some (V.bl (decide (i = 1))) = _; rw [decide_eq_false (by omega)]
      · show some (V.bl (decide (i = 2))) = _; rw [decide_eq_false (by omega)]
      · show some (V.bl (decide (i = 3))) = _; rw [decide_eq_false (by omega)]
    rw [e] at hz
    cases hz
    rfl
  have hfl : ∀ l : List Bool, (l.map V.bl).all flatV = true := fun l => by
    induction l with
    | nil => rfl
    | cons b l ih => simp only [List.map_cons, List.all_cons, ih, Bool.and_true]; rfl
  refine ⟨_, rfl, .inl ⟨rfl, _, .inl (.inl hl3)⟩, l3, bs, rfl, rfl, .inl (.inl hl3), rfl, _, rfl, iteB0 (by rw [hcount]; rfl) ?_⟩
  refine ⟨_, rfl, a, C, _, .ty "ValueError", .type "ValueError", true, rfl, .ty _, hX3, x1, x4, true, rfl, iteF ?_⟩
  refine ⟨sz60 (by simp), fun l4 n4 => ?_⟩
  have z4 := same_upd (o := .lst [V.str "budget", V.str "levels", V.str "taken", V.str "count", V.str "plan"]) n4
  have hx' : [V.str "budget", V.str "levels", V.str "taken", V.str "count", V.str "plan"][i]? = some (V.str x) := by
    unfold metN at hx
    have h5 : i = 0 ∨ i = 1 ∨ i = 2 ∨ i = 3 ∨ i = 4 := by omega
    rcases h5 with rfl | rfl | rfl | rfl | rfl <;> (cases hx; rfl)
  refine ⟨_, rfl, .inl ⟨rfl, _, .inl (.inl (z4 _ _ hl3))⟩, l3, _, .bl true, i, _, rfl, rfl, .inl (.inl (z4 _ _ hl3)), rfl, hfl bs, hat, rfl, hbef, l4, _, _, _, rfl, rfl, .inl (.inl upd_same), atI_nat hx', ?_⟩
  refine ⟨_, rfl, a, C, [("value", v)], v, rfl, hX3.same z4, x2, x3, rfl, sz60 (by simp), fun t1 n1 => ?_⟩
  exact q _ t1 ((s03.trans z4).trans (same_upd n1)) upd_same
end
section
variable {P : Program} {w : World} {K : PySem.W.Frag} {mg : Str → Option Value} {base : Heap}
/-- the context of the law's own body -/
abbrev lawX_B (P : Program) (w : World) (K : PySem.W.Frag) (mg : Str → Option Value) (base : Heap) (f : Addr) (cd : Value) (A : Around) (outer : List Env) (s : Shared) (H : Hp) (E : XK) : Cx := (cxOf CX0 P w K mg base N_L_s5_both_right (Str.ofString "_law_s5_both_right") (defScope s_L_s5_both_right) f cd A outer s H E).nox
theorem passLw_B {P : Program} {w : World} {K : PySem.W.Frag} {mg : Str → Option Value} {base : Heap} {f : Addr} {cd : Value} {A : Around} {outer : List Env} {s : Shared} {H : Hp} {E E' : XK} {A' : Around} {outer' : List Env} {s' : Shared} {H' : Hp} {scope : Scope} {f' c' : Addr} :
    Passes (L2.CX P w) (LamX.lamCx (lawX_B P w K mg base f cd A outer s H E) A' outer' s' H' E' scope f' c') E' := passL' (X := lawX_B P w K mg base f cd A outer s H E)
theorem pe_lam_B (TX : Tx K mg) {A : Around} {outer : List Env} {s0 : Shared} {H0 : Hp} {E0' : XK} {n : Nat} (TB : LamX.TabB base mg TX.cdl_L_s5_both_right TX.ptl_L_s5_both_right) {ar : Arguments} {bd : Expr} {sc : Scope} {t : XK → TE} {pos : PySem.Pos}
    (hdef : defaultsOf ar (lawX_B P w K mg base TX.a_L_s5_both_right (.ref TX.cdl_L_s5_both_right) A outer s0 H0 E0').env = ([], [])) (hS : LamX.LamS (defScope s_L_s5_both_right) sc) (hB : ∀ (q : Str) (cl : List (Str × Addr)) (pm cv ctv : Value), bindArgs (PySem.W.kla_fn "<lambda>" q ar bd sc cl pm cv ctv) ⟨[], []⟩ = pure [])
    (hE : ∀ (A' : Around) (outer' : List Env) (s : Shared) (H : Hp) (E : XK) (f c' : Addr), Room n (A'.deeper (LamX.lamEnv (lawX_B P w K mg base TX.a_L_s5_both_right (.ref TX.cdl_L_s5_both_right) A outer s0 H0 E0') sc s.heap.objs.size f c')) → PE (LamX.lamCx (lawX_B P w K mg base TX.a_L_s5_both_right (.ref TX.cdl_L_s5_both_right) A outer s0 H0 E0') A' outer' s H E sc f c') bd (t E)) : PE (lawX_B P w K mg base TX.a_L_s5_both_right (.ref TX.cdl_L_s5_both_right) A outer s0 H0 E0') (.Lambda ar bd sc pos) (tLamV (lawX_B P w K mg base TX.a_L_s5_both_right (.ref TX.cdl_L_s5_both_right) A outer s0 H0 E0') n (TTs TX) t) :=
  pe_lamV (c := TX.cdl_L_s5_both_right) (P := TX.ptl_L_s5_both_right) TB rfl (List.mem_singleton.mpr rfl) (fun q hq _ => by rw [List.mem_singleton.mp hq]; rfl) hdef ⟨hS, hB, hE⟩
theorem pe_met_B (TX : Tx K mg) {A : Around} {outer : List Env} {s0 : Shared} {H0 : Hp} {E0' : XK} {n i : Nat} {pins : List (Addr × Obj)} {σ0 : L2.St} {H1 : Hp} {s1 : Shared} {scope : Scope} {cl : List (Str × Addr)} {C : Addr} {fp : List Addr} {y : Str} {p p' pos : PySem.Pos} (hr : Room (n + 2) (lawX_B P w K mg base TX.a_L_s5_both_right (.ref TX.cdl_L_s5_both_right) A outer s0 H0 E0').A)
    (I : Inv (lawX_B P w K mg base TX.a_L_s5_both_right (.ref TX.cdl_L_s5_both_right) A outer s0 H0 E0') pins σ0 H1 s1) (hfp : ∀ b ∈ fp, FpOk (lawX_B P w K mg base TX.a_L_s5_both_right (.ref TX.cdl_L_s5_both_right) A outer s0 H0 E0') pins H1 b) (hg : Gl ((lawX_B P w K mg base TX.a_L_s5_both_right (.ref TX.cdl_L_s5_both_right) A outer s0 H0 E0').blk s1 H1 scope (compEnvC scope cl C (lawX_B P w K mg base TX.a_L_s5_both_right (.ref TX.cdl_L_s5_both_right) A outer s0 H0 E0').env) fp) "_law_s5_met") (hi : N_L_s5_both_right[i]? = some y) (vis : Vis (compEnvC scope cl C (lawX_B P w K mg base TX.a_L_s5_both_right (.ref TX.cdl_L_s5_both_right) A outer s0 H0 E0').env).scope y)
    (hyd : (y == ("__debug__" : Str)) = false := by decide) (hyc : (y == ("__classdict__" : Str)) = false := by decide) :
    PE ((lawX_B P w K mg base TX.a_L_s5_both_right (.ref TX.cdl_L_s5_both_right) A outer s0 H0 E0').blk s1 H1 scope (compEnvC scope cl C (lawX_B P w K mg base TX.a_L_s5_both_right (.ref TX.cdl_L_s5_both_right) A outer s0 H0 E0').env) fp) (.Call (.Name "_law_s5_met" p) [.Name y p'] [] pos) (tMetV (lawX_B P w K mg base TX.a_L_s5_both_right (.ref TX.cdl_L_s5_both_right) A outer s0 H0 E0') n (TMet TX) i σ0) := by
  obtain ⟨oc, od, kV, doc, pm, an, cdm, ct, osl, efd, lkm, hcm⟩ := TX.f_L_s5_met.ex
  have hb := TX.bd_L_s5_met
  rw [efd] at hb lkm
  exact pe_metV I hfp hg TX.g_L_s5_met TX.f_L_s5_met.kp hcm lkm hb sc_L_s5_met rfl (.inl rfl) (met_gives_B TX (n := n + 1) hr) hr hi vis (hyd := hyd) (hyc := hyc)
end
/-- all but the list at a stays, tables aside -/
def ButN (a : Addr) (H H' : Hp) : Prop := ∀ b o, b ≠ a → H b = some o → (∀ ps, o ≠ .tbl ps) → H' b = some o
theorem ButN.of {a : Addr} {H H' : Hp} (b : But a H H') : ButN a H H' := fun c o n e _ => b c o n e
theorem ButN.same {a : Addr} {H H' : Hp} (b : Same H H') : ButN a H H' := fun c o n e _ => b c o e
theorem ButN.ext {a : Addr} {H H' : Hp} (b : LamX.ExtN H H') : ButN a H H' := fun c o n e t => b c o e t
theorem ButN.trans {a : Addr} {H H1 H2 : Hp} (x : ButN a H H1) (y : ButN a H1 H2) : ButN a H H2 := fun c o n e t => y c o n (x c o n e t) t
theorem ButN.out {a : Addr} {H H1 H2 : Hp} (x : LamX.ExtN H H1) (y : ButN a H1 H2) (h : H a = none) : LamX.ExtN H H2 := fun c o e t => y c o (fun z => by rw [z, h] at e; cases e) (x c o e t) t
theorem Pot.ext {H H' : Hp} {a : Addr} {n : Int} (h : Pot H a n) (e : LamX.ExtN H H') : Pot H' a n := by
  obtain ⟨d, s, m, h1, r⟩ := h
  exact ⟨d, s, m, e _ _ h1 (fun _ z => nomatch z), r⟩
theorem Pot.tabs {T : List (Addr × Str)} {H H' : Hp} {a : Addr} {n : Int} (h : Pot H a n) (t : LamX.Tabs T H) (b : But a H H') : LamX.Tabs T H' := by
  obtain ⟨d, s, m, h1, r⟩ := h
  exact tabs_but t b h1
theorem off_butN {a : Addr} {H H' : Hp} (b : ButN a H H') : LamX.ExtN (off a H) (off a H') := fun c o e t => by
  by_cases h : c = a
  · unfold off at e; rw [if_pos h] at e; cases e
  · rw [off_at h] at e ⊢; exact b _ _ h e t
theorem ButN.tup {K : PySem.W.Frag} {a b : Addr} {H H' : Hp} {xs : List V} (s : ButN a H H') (n : b ≠ a) (h : SqT K H b xs) : SqT K H' b xs := by
  rcases h with (h | ⟨o, h⟩) | h
  · exact .inl (.inl (s _ _ n h fun _ z => nomatch z))
  · exact .inl (.inr ⟨o, s _ _ n h fun _ z => nomatch z⟩)
  · exact .inr h
theorem ButN.seq {K : PySem.W.Frag} {a b : Addr} {H H' : Hp} {xs : List V} (s : ButN a H H') (n : b ≠ a) (h : SqL K H b xs) : SqL K H' b xs := by
  rcases h with (h | ⟨o, h⟩) | h
  · exact .inl (.inl (s _ _ n h fun _ z => nomatch z))
  · exact .inl (.inr ⟨o, s _ _ n h fun _ z => nomatch z⟩)
  · exact .inr h
theorem ButN.out1 {a : Addr} {H H1 H2 : Hp} (x : LamX.ExtN H H1) (y : ButN a H1 H2) (h : H1 a = none) : LamX.ExtN H H2 := fun c o e t => y c o (fun z => by have := x c o e t; rw [z, h] at this; cases this) (x c o e t) t
theorem ButN.but {a : Addr} {H H1 H2 : Hp} (x : ButN a H H1) (y : But a H1 H2) : ButN a H H2 := x.trans (.of y)
theorem noRun_of {K : PySem.W.Frag} {H : Hp} {x : V} {d : PyData} (h : Dq K H x d) (hn : Bad 1 60 d) : NoRun K H x := by
  by_cases e : NoInt d
  · exact .inl (.inr (notJ_of h e))
  · cases h with
    | intq i =>
      by_cases z : i = 0
      · exact .inr (by rw [z])
      · refine .inl (.inl ⟨i, rfl, ?_⟩)
        have hn' : (decide (1 ≤ i) && decide (i ≤ 60)) = false := hn
        by_cases c : 0 ≤ i
        · rw [decide_eq_true (show 1 ≤ i by omega)] at hn'
          rw [decide_eq_true c]; exact hn'
        · rw [decide_eq_false c]; rfl
    | nonq => exact (e trivial).elim
    | blq b => exact (e trivial).elim
    | strq x => exact (e trivial).elim
    | lstq _ _ _ => exact (e trivial).elim
    | tupq _ _ => exact (e trivial).elim
    | dctq _ _ _ => exact (e trivial).elim
section
variable {P : Program} {w : World} {K : PySem.W.Frag} {mg : Str → Option Value} {base : Heap}
/-- a case of the list: a lambda that lets C out with x, and what is due -/
structure CaseOk (TX : Tx K mg) (X : Cx) (n : Nat) (σ0 : L2.St) (H0 H : Hp) (v : V) : Prop where
  ex : ∃ (p f d : Addr) (t : XK → TE) (i : Nat) (C : Addr) (nm : Str) (x : V) (dx : PyData), v = .ref p ∧ H p = some (.tup [.ref f, .ref d]) ∧ H d = some (.tup [.str nm, x]) ∧ Lam X n t f H ∧ (metC TX)[i]? = some C ∧ metN[i]? = some nm ∧
    Dq K H0 x dx ∧ Sn 31 400 (.tuple [.str nm, dx]) ∧ ∀ H' E R, LamX.ExtN H0 H' → LetsOut C x H' E → t E σ0 H' R
theorem CaseOk.ext {TX : Tx K mg} {X : Cx} {n : Nat} {σ0 : L2.St} {H0 H H' : Hp} {v : V} (c : CaseOk TX X n σ0 H0 H v) (e : LamX.ExtN H H') : CaseOk TX X n σ0 H0 H' v := by
  obtain ⟨p, f, d, t, i, C, nm, x, dx, h1, h2, h3, h4, h5, h6, h7, h8, h9⟩ := c.ex
  exact ⟨p, f, d, t, i, C, nm, x, dx, h1, e _ _ h2 (fun _ z => nomatch z), e _ _ h3 (fun _ z => nomatch z), h4.ext e, h5, h6, h7, h8, h9⟩
/-- the list of cases so far -/
structure Cases (TX : Tx K mg) (X : Cx) (n : Nat) (σ0 : L2.St) (H0 : Hp) (l : Addr) (j : Nat) (H : Hp) : Prop where
  new : H0 l = none
  old : LamX.ExtN H0 H
  tabs : LamX.Tabs (TTs TX) H
  lst : ∃ vs : List V, H l = some (.lst vs) ∧ vs.length = j ∧ ∀ v ∈ vs, CaseOk TX X n σ0 H0 H v
theorem CaseOk.put {TX : Tx K mg} {X : Cx} {n : Nat} {σ0 : L2.St} {H0 H : Hp} {l : Addr} {xs ys : List V} {v : V} (c : CaseOk TX X n σ0 H0 H v) (e : H l = some (.lst xs)) : CaseOk TX X n σ0 H0 (upd H l (.lst ys)) v := by
  obtain ⟨p, f, d, t, i, C, nm, x, dx, h1, h2, h3, h4, h5, h6, h7, h8, h9⟩ := c.ex
  have ne : ∀ {b : Addr} {zs : List V}, H b = some (.tup zs) → b ≠ l := fun {b zs} h z => by rw [z, e] at h; cases h
  exact ⟨p, f, d, t, i, C, nm, x, dx, h1, by rw [upd_ne (ne h2)]; exact h2, by rw [upd_ne (ne h3)]; exact h3, h4.put e, h5, h6, h7, h8, h9⟩
/-- one case more -/
theorem case_seq {TX : Tx K mg} {X : Cx} {n : Nat} {σ0 σ : L2.St} {H0 H : Hp} {l C : Addr} {j i ix : Nat} {t : XK → TE} {nm : Str} {x : V} {dx : PyData} {rest : TS} {D : L2.Ends} (c : Cases TX X n σ0 H0 l j H) (hj : j ≤ 20) (hl : σ[5]? = some (some (.ref l))) (hx : σ[ix]? = some (some x)) (hC : (metC TX)[i]? = some C) (hN : metN[i]? = some nm)
    (hq : Dq K H0 x dx) (hs : Sn 31 400 (.tuple [.str nm, dx])) (hr : ∀ H' E R, LamX.ExtN H0 H' → LetsOut C x H' E → t E σ0 H' R) (k : ∀ H', Cases TX X n σ0 H0 l (j + 1) H' → rest D σ H') :
    tSeq (tDrop (tBM K "list" rAppend (tVar 5) (tCons (tTup (tCons (tLamV X n (TTs TX) t) (tCons (tTup (tCons (tC (.str nm)) (tCons (tVar ix) tNil))) tNil))) tNil))) rest D σ H := by
  obtain ⟨vs, e1, e2, e3⟩ := c.lst
  refine ⟨.ref l, hl, .inl ⟨rfl, _, .inl (.inl e1)⟩, c.tabs, fun f H1 x1 tb1 dmn nf lam => ⟨x, hx, sz60 (by simp), fun d nd => ⟨sz60 (by simp), fun p np => ?_⟩⟩⟩
  have zd := same_upd (o := .tup [V.str nm, x]) nd
  have zp := same_upd (o := .tup [V.ref f, V.ref d]) np
  have x3 : LamX.ExtN H (upd (upd H1 d (.tup [V.str nm, x])) p (.tup [V.ref f, V.ref d])) := x1.trans (.of (zd.trans zp))
  have hp := upd_same (H := upd H1 d (.tup [V.str nm, x])) (a := p) (o := .tup [V.ref f, V.ref d])
  have hd := zp _ _ (upd_same (H := H1) (a := d) (o := .tup [V.str nm, x]))
  have tb3 := Tabs.same tb1 (zd.trans zp)
  have lam3 := lam.ext (.of (zd.trans zp))
  generalize upd (upd H1 d (.tup [V.str nm, x])) p (.tup [V.ref f, V.ref d]) = H3 at *
  have hl3 := x3 _ _ e1 fun _ z => nomatch z
  refine ⟨l, vs, .ref p, rfl, rfl, hl3, sz61 (by omega), k _ ?_⟩
  have o3 := c.old.trans x3
  have me : CaseOk TX X n σ0 H0 H3 (.ref p) := ⟨p, f, d, t, i, C, nm, x, dx, rfl, hp, hd, lam3, hC, hN, hq, hs, hr⟩
  refine ⟨c.new, fun b o eb nt => ?_, ?_, vs ++ [.ref p], upd_same, by simp [e2], fun v hv => ?_⟩
  · rw [upd_ne (ne_of_none eb c.new)]; exact o3 _ _ eb nt
  · exact tabs_but tb3 (fun b o hb e => by rw [upd_ne hb]; exact e) hl3
  · rcases List.mem_append.mp hv with h | h
    · exact ((e3 v h).ext x3).put hl3
    · rw [List.mem_singleton.mp h]; exact me.put hl3
def sp_L_s5_both_right (TX : Tx K mg) : Sp := fun vs H Q _ => ∃ (r t : Nat) (bk bn bs : V) (dk dn ds : PyData), vs = [.int (r : Int), .int (t : Int), bk, bn, bs] ∧ 1 ≤ r ∧ r ≤ 60 ∧ t ≤ 10 ^ 18 ∧ (Dq K H bk dk ∧ Sn 30 300 dk ∧ Bad 1 60 dk) ∧ (Dq K H bn dn ∧ Sn 30 300 dn ∧ Bad 0 (10 ^ 18) dn) ∧ (Dq K H bs ds ∧ Sn 30 300 ds ∧ Bad 0 60 ds) ∧
  LamX.Tabs (TTs TX) H ∧ ∀ H', LamX.ExtN H H' → LamX.Tabs (TTs TX) H' → Q (.bl true) H'
theorem ok_L_s5_both_right (TX : Tx K mg) (TB : LamX.TabB base mg TX.cdl_L_s5_both_right TX.ptl_L_s5_both_right) : FnG P w K mg base CX0 9 TX.a_L_s5_both_right TX.fd_L_s5_both_right ["_law_room", "_law_total", "_law_bad_k", "_law_bad_n", "_law_bad_short"] (sp_L_s5_both_right TX) := by
  obtain ⟨oc, od, kV, doc, pm, an, ct, osl, efd, lk, hcd⟩ := TX.lawc_L_s5_both_right
  rw [efd] at lk ⊢
  refine fnG_of lk hcd sc_L_s5_both_right (fun vs H Q E h => ?_) (fun A hgd outer s0 H vs Q E hr h => ?_)
  · obtain ⟨r, t, bk, bn, bs, dk, dn, ds, rfl, _⟩ := h; rfl
  · obtain ⟨r, t, bk, bn, bs, dk, dn, ds, rfl, r1, r2, t1, ⟨qk, sk, ek⟩, ⟨qn, sn, en⟩, ⟨qs, ss, es⟩, tb, q⟩ := h
    suffices hh : ∃ t', PSs (lawX_B P w K mg base TX.a_L_s5_both_right (.ref TX.cdl_L_s5_both_right) A outer s0 H E) (defBody s_L_s5_both_right) t' ∧ t' { nx := fun _ H' => Q .non H', rt := Q } (start N_L_s5_both_right [.int (r : Int), .int (t : Int), bk, bn, bs]) H from (let ⟨t, h1, h2⟩ := hh; ⟨t, h1.nox, h2⟩)
    refine ⟨_, (pss_cons (ps_set (i := 5) sc_L_s5_both_right.nd rfl (.inl rfl) (pe_lst (pa_cons (pe_tup (pa_cons (pe_lam_B (n := 6) TX TB rfl (LamX.lamS_by (by decide +kernel)) (fun _ _ _ _ _ => rfl) (fun _ _ _ _ _ _ _ hr => (pe_call (ok_least_writes TX) (hr.mono (by decide)) (by rfl) TX.g_least_writes TX.f_least_writes.kp TX.bd_least_writes .nil passLw_B (pa_cons (pv 3) (pa_cons (pv 2) pa_nil))))) (pa_cons (pe_tup (pa_cons pe_str (pa_cons (pv 3) pa_nil))) pa_nil))) pa_nil)))
      (pss_cons (ps_expr (pe_bm PySem.F.plainAttrs_list PySem.F.slot_list_append PySem.F.type_list_append mt_append (pv 5) (pa_cons (pe_tup (pa_cons (pe_lam_B (n := 6) TX TB rfl (LamX.lamS_by (by decide +kernel)) (fun _ _ _ _ _ => rfl) (fun _ _ _ _ _ _ _ hr => (pe_call (ok_least_writes TX) (hr.mono (by decide)) (by rfl) TX.g_least_writes TX.f_least_writes.kp TX.bd_least_writes .nil passLw_B (pa_cons (pv 1) (pa_cons (pv 2) pa_nil))))) (pa_cons (pe_tup (pa_cons pe_str (pa_cons (pv 2) pa_nil))) pa_nil))) pa_nil)))
      (pss_cons (ps_expr (pe_bm PySem.F.plainAttrs_list PySem.F.slot_list_append PySem.F.type_list_append mt_append (pv 5) (pa_cons (pe_tup (pa_cons (pe_lam_B (n := 6) TX TB rfl (LamX.lamS_by (by decide +kernel)) (fun _ _ _ _ _ => rfl) (fun _ _ _ _ _ _ _ hr => (pe_call (ok_least_writes TX) (hr.mono (by decide)) (by rfl) TX.g_least_writes TX.f_least_writes.kp TX.bd_least_writes .nil passLw_B (pa_cons (pv 3) (pa_cons (pv 0) pa_nil))))) (pa_cons (pe_tup (pa_cons pe_str (pa_cons (pv 3) pa_nil))) pa_nil))) pa_nil)))
      (pss_cons (ps_expr (pe_bm PySem.F.plainAttrs_list PySem.F.slot_list_append PySem.F.type_list_append mt_append (pv 5) (pa_cons (pe_tup (pa_cons (pe_lam_B (n := 6) TX TB rfl (LamX.lamS_by (by decide +kernel)) (fun _ _ _ _ _ => rfl) (fun _ _ _ _ _ _ _ hr => (pe_call (ok_policy_merge TX) (hr.mono (by decide)) (by rfl) TX.g_policy_merge TX.f_policy_merge.kp TX.bd_policy_merge .nil passLw_B (pa_cons (pv 2) (pa_cons (pv 3) pa_nil))))) (pa_cons (pe_tup (pa_cons pe_str (pa_cons (pv 2) pa_nil))) pa_nil))) pa_nil)))
      (pss_cons (ps_expr (pe_bm PySem.F.plainAttrs_list PySem.F.slot_list_append PySem.F.type_list_append mt_append (pv 5) (pa_cons (pe_tup (pa_cons (pe_lam_B (n := 6) TX TB rfl (LamX.lamS_by (by decide +kernel)) (fun _ _ _ _ _ => rfl) (fun _ _ _ _ _ _ _ hr => (pe_call (ok_policy_merge TX) (hr.mono (by decide)) (by rfl) TX.g_policy_merge TX.f_policy_merge.kp TX.bd_policy_merge .nil passLw_B (pa_cons (pv 0) (pa_cons (pv 3) pa_nil))))) (pa_cons (pe_tup (pa_cons pe_str (pa_cons (pv 3) pa_nil))) pa_nil))) pa_nil)))
      (pss_cons (ps_expr (pe_bm PySem.F.plainAttrs_list PySem.F.slot_list_append PySem.F.type_list_append mt_append (pv 5) (pa_cons (pe_tup (pa_cons (pe_lam_B (n := 6) TX TB rfl (LamX.lamS_by (by decide +kernel)) (fun _ _ _ _ _ => rfl) (fun _ _ _ _ _ _ _ hr => (pe_call (ok_policy_runs TX) (hr.mono (by decide)) (by rfl) TX.g_policy_runs TX.f_policy_runs.kp TX.bd_policy_runs .nil passLw_B (pa_cons (pv 2) (pa_cons (pv 3) pa_nil))))) (pa_cons (pe_tup (pa_cons pe_str (pa_cons (pv 2) pa_nil))) pa_nil))) pa_nil)))
      (pss_cons (ps_expr (pe_bm PySem.F.plainAttrs_list PySem.F.slot_list_append PySem.F.type_list_append mt_append (pv 5) (pa_cons (pe_tup (pa_cons (pe_lam_B (n := 6) TX TB rfl (LamX.lamS_by (by decide +kernel)) (fun _ _ _ _ _ => rfl) (fun _ _ _ _ _ _ _ hr => (pe_call (ok_policy_runs TX) (hr.mono (by decide)) (by rfl) TX.g_policy_runs TX.f_policy_runs.kp TX.bd_policy_runs .nil passLw_B (pa_cons (pv 0) (pa_cons (pv 3) pa_nil))))) (pa_cons (pe_tup (pa_cons pe_str (pa_cons (pv 3) pa_nil))) pa_nil))) pa_nil)))
      (pss_cons (ps_expr (pe_bm PySem.F.plainAttrs_list PySem.F.slot_list_append PySem.F.type_list_append mt_append (pv 5) (pa_cons (pe_tup (pa_cons (pe_lam_B (n := 6) TX TB rfl (LamX.lamS_by (by decide +kernel)) (fun _ _ _ _ _ => rfl) (fun _ _ _ _ _ _ _ hr => (pe_call (ok_policy_schedule TX) (hr.mono (by decide)) (by rfl) TX.g_policy_schedule TX.f_policy_schedule.kp TX.bd_policy_schedule .nil passLw_B (pa_cons (pv 2) (pa_cons (pv 4) pa_nil))))) (pa_cons (pe_tup (pa_cons pe_str (pa_cons (pv 2) pa_nil))) pa_nil))) pa_nil)))
      (pss_cons (ps_expr (pe_bm PySem.F.plainAttrs_list PySem.F.slot_list_append PySem.F.type_list_append mt_append (pv 5) (pa_cons (pe_tup (pa_cons (pe_lam_B (n := 6) TX TB rfl (LamX.lamS_by (by decide +kernel)) (fun _ _ _ _ _ => rfl) (fun _ _ _ _ _ _ _ hr => (pe_call (ok_policy_schedule TX) (hr.mono (by decide)) (by rfl) TX.g_policy_schedule TX.f_policy_schedule.kp TX.bd_policy_schedule .nil passLw_B (pa_cons (pv 0) (pa_cons (pv 4) pa_nil))))) (pa_cons (pe_tup (pa_cons pe_str (pa_cons (pv 4) pa_nil))) pa_nil))) pa_nil)))
      (pss_one (ps_ret (pe_callB (id := "all") (cr_all rfl) (by rfl) TX.b_all (by decide +kernel) (pa_cons (pe_lcI (own := [("_law_call", 6), ("_law_due", 7)]) (by rfl) sc_L_s5_both_right.nd (k_piL (K := K) rfl (pv 5)) (blkOk_by (own := [("_law_call", 6), ("_law_due", 7)]) (N := N_L_s5_both_right) (sc := defScope s_L_s5_both_right) (by decide +kernel)) (fun _ _ _ _ _ => (k_pgT2 (K := K) rfl rfl (pg_name (i := 6) sc_L_s5_both_right.nd rfl (Or.inl rfl)) (pg_name (i := 7) sc_L_s5_both_right.nd rfl (Or.inl rfl)))) (fun _ _ _ _ _ _ _ II hfp => (pe_cmpR op_eq (pe_callB (id := "repr") (k_reprQ (K := K) rfl hgd hr.units) (by rfl) TX.b_repr (by decide +kernel) (pa_cons (pe_met_B (n := 6) (i := 6) TX (hr.mono (by decide)) II hfp (by rfl) rfl (.inl rfl)) pa_nil)) (pe_callB (id := "repr") (k_reprQ (K := K) rfl hgd hr.units) (by rfl) TX.b_repr (by decide +kernel) (pa_cons (pv 7) pa_nil)) (nomark _)))) pa_nil))))))))))))), ?_⟩
    have sk' : Sn 31 400 (.tuple [.str "budget", dk]) := (Sn.t2 (Sn.str (n := 10) (by decide +kernel) (by decide +kernel)) sk).mono (by omega) (by omega)
    have sn' : Sn 31 400 (.tuple [.str "count", dn]) := (Sn.t2 (Sn.str (n := 10) (by decide +kernel) (by decide +kernel)) sn).mono (by omega) (by omega)
    have ss' : Sn 31 400 (.tuple [.str "count", ds]) := (Sn.t2 (Sn.str (n := 10) (by decide +kernel) (by decide +kernel)) ss).mono (by omega) (by omega)
    have nk : ∀ H', LamX.ExtN H H' → NoRun K H' bk := fun H' x => noRun_of (Dq.extN x qk) ek
    have nn : ∀ H', LamX.ExtN H H' → NoBud K H' (10 ^ 18) bn := fun H' x => noBud_of (Dq.extN x qn) en
    have ns : ∀ H', LamX.ExtN H H' → NoBud K H' 60 bs := fun H' x => noBud_of (Dq.extN x qs) es
    have br : Run (.int (r : Int)) := ⟨_, rfl, by omega, by omega⟩
    have bt : Bud (10 ^ 18) (.int (t : Int)) := ⟨_, rfl, by omega, by omega⟩
    refine ⟨tb, fun f H1 x1 tb1 dmn nf lam => ⟨bn, rfl, sz60 (by simp), fun d nd => ⟨sz60 (by simp), fun p np => ⟨sz60 (by simp), fun l nl => ?_⟩⟩⟩⟩
    have zd := same_upd (o := .tup [V.str "count", bn]) nd
    have zp := same_upd (o := .tup [V.ref f, V.ref d]) np
    have zl := same_upd (o := .lst [V.ref p]) nl
    have x4 : LamX.ExtN H (upd (upd (upd H1 d (.tup [V.str "count", bn])) p (.tup [V.ref f, V.ref d])) l (.lst [V.ref p])) := x1.trans (.of (zd.trans (zp.trans zl)))
    have nl0 : H l = none := dmn _ (zd.free (zp.free nl))
    have c1 : Cases TX (lawX_B P w K mg base TX.a_L_s5_both_right (.ref TX.cdl_L_s5_both_right) A outer s0 H E) 6 [some (.int (r : Int)), some (.int (t : Int)), some bk, some bn, some bs, some (.ref l), none, none] H l 1 (upd (upd (upd H1 d (.tup [V.str "count", bn])) p (.tup [V.ref f, V.ref d])) l (.lst [V.ref p])) := by
      refine ⟨nl0, x4, Tabs.same tb1 (zd.trans (zp.trans zl)), [.ref p], upd_same, rfl, fun v hv => ?_⟩
      rw [List.mem_singleton.mp hv]
      exact ⟨p, f, d, _, 3, _, "count", bn, dn, rfl, zl _ _ upd_same, zl _ _ (zp _ _ upd_same), lam.ext (.of (zd.trans (zp.trans zl))), rfl, rfl, qn, sn', fun H' E R x lo => ⟨_, rfl, _, rfl, _, _, rfl, .inl ⟨nn _ x, lo⟩⟩⟩
    generalize upd (upd (upd H1 d (.tup [V.str "count", bn])) p (.tup [V.ref f, V.ref d])) l (.lst [V.ref p]) = G1 at c1 ⊢
    refine case_seq (i := 0) (ix := 2) c1 (by decide) rfl rfl rfl rfl qk sk' (fun H' E R x lo => ⟨_, rfl, _, rfl, _, _, rfl, .inr ⟨bt, nk _ x, lo⟩⟩) fun G2 c2 => ?_
    refine case_seq (i := 3) (ix := 3) c2 (by decide) rfl rfl rfl rfl qn sn' (fun H' E R x lo => ⟨_, rfl, _, rfl, _, _, rfl, .inl ⟨nn _ x, lo⟩⟩) fun G3 c3 => ?_
    refine case_seq (i := 0) (ix := 2) c3 (by decide) rfl rfl rfl rfl qk sk' (fun H' E R x lo => ⟨_, rfl, _, rfl, _, _, rfl, .inr (.inl ⟨nk _ x, lo⟩)⟩) fun G4 c4 => ?_
    refine case_seq (i := 3) (ix := 3) c4 (by decide) rfl rfl rfl rfl qn sn' (fun H' E R x lo => ⟨_, rfl, _, rfl, _, _, rfl, .inr (.inr ⟨br, nn _ x, lo⟩)⟩) fun G5 c5 => ?_
    refine case_seq (i := 0) (ix := 2) c5 (by decide) rfl rfl rfl rfl qk sk' (fun H' E R x lo => ⟨_, rfl, _, rfl, _, _, rfl, .inr (.inl ⟨nk _ x, lo⟩)⟩) fun G6 c6 => ?_
    refine case_seq (i := 3) (ix := 3) c6 (by decide) rfl rfl rfl rfl qn sn' (fun H' E R x lo => ⟨_, rfl, _, rfl, _, _, rfl, .inr (.inr ⟨br, nn _ x, lo⟩)⟩) fun G7 c7 => ?_
    refine case_seq (i := 0) (ix := 2) c7 (by decide) rfl rfl rfl rfl qk sk' (fun H' E R x lo => ⟨_, rfl, _, rfl, _, _, rfl, .inl ⟨nk _ x, lo⟩⟩) fun G8 c8 => ?_
    refine case_seq (i := 3) (ix := 4) c8 (by decide) rfl rfl rfl rfl qs ss' (fun H' E R x lo => ⟨_, rfl, _, rfl, _, _, rfl, .inr ⟨br, ns _ x, lo⟩⟩) fun G9 c9 => ?_
    obtain ⟨vs, e1, e2, e3⟩ := c9.lst
    have o9 := c9.old
    have tb9 := c9.tabs
    refine ⟨.ref l, rfl, l, rfl, ⟨_, .inl (.inl e1)⟩, fun D nD => ?_⟩
    refine lc_bools (K := K) (walk_list (K := K) (a := l) (xs := vs)) (List.replicate vs.length true) (by simp) (by omega) nD (fun H' s => .inl (.inl (s _ _ e1))) ?_ ?_ (fun x σ' H' Q Q' h h' => ?_) (fun σ' H' Q Q' h => h _ _)
    · rintro j y Hy Hy' hj sy ⟨rfl, hy⟩ b hb R hR
      obtain ⟨p', f', d', t', i', C', nm, x, dx, rfl, h2, h3, ⟨cc, ar, bd, sc, lp, h4, h5⟩, h6, h7, h8, h9, h10⟩ := (e3 y (List.mem_of_getElem? hy)).ex
      have eb : b = true := by
        have := List.mem_of_getElem? hb
        rw [List.mem_replicate] at this
        exact this.2
      subst eb
      obtain ⟨v1, v2, v3⟩ := h9.repr (by decide) (by decide)
      refine ⟨p', _, rfl, .inl (.inl (sy _ _ h2)), rfl, _, _, rfl, _, _, rfl, rfl, rfl, rfl, ?_⟩
      refine ⟨f', cc, t', ar, bd, sc, rfl, lp, sy _ _ h4, sy _ _ h5, fun H1' s1 E' R' hE hR' => ⟨s1 _ _ (sy _ _ h4), h10 _ _ _ (o9.trans (.of (sy.trans s1))) fun dd H2' s2 hdd => hE i' C' dd nm x H2' h6 h7 hdd fun H3' tt s3 htt => ?_⟩⟩
      have s13 := s1.trans (s2.trans s3)
      have x13 : LamX.ExtN H H3' := o9.trans (.of (sy.trans s13))
      refine ⟨.ref tt, .tuple [.str nm, dx], rfl, .tupq (.inl (.inl htt)) (.cons (.strq _) (.cons (Dq.extN x13 h8) .nil)), v1, v2, v3, ?_⟩
      refine ⟨.ref d', rfl, .ref d', .tuple [.str nm, dx], rfl, .tupq (.inl (.inl (s13 _ _ (sy _ _ h3)))) (.cons (.strq _) (.cons (Dq.extN x13 h8) .nil)), v1, v2, v3, rfl, ?_⟩
      have := hR _ s13
      simpa using this
    · intro H1' s1 hD
      refine ⟨D, _, rfl, .inl (.inl hD), ?_⟩
      have ea : (List.replicate vs.length true).all id = true := by simp
      rw [ea]
      exact q _ (o9.trans (.of s1)) (Tabs.same tb9 s1)
    · obtain ⟨a', xs', z1, z2, z3, v', r', z4, v2', r2', z5, z6, z7⟩ := h'
      exact ⟨a', xs', z1, z2, z3, v', r', z4, v2', r2', z5, z6, h _ _ z7⟩
end
section
variable {P : Program} {w : World} {K : PySem.W.Frag} {mg : Str → Option Value} {base : Heap}
/-- nested(hand, of(hand, odd(lo, hi))) -/
theorem draw_bad {σ : L2.St} {G : Hp} {p : Addr} {n lo hi : Int} {o : HO} {tl : TA} {R : VK} (hσ : σ[2]? = some (some (.ref p))) (pp : Pot G p n) (hn : n ≤ 80000) (hsys : G sysModules = some o) (nps : p ≠ sysModules) (hb : 0 ≤ lo ∧ lo ≤ hi ∧ hi ≤ 10 ^ 18)
    (htl : ∀ (H : Hp) (Q : List V → Hp → Prop), Q [.int lo, .int hi] H → tl σ H Q) (k : ∀ H' x d, But p G H' → Pot H' p (n + 31) → Dq K (off p H') x d → Sn 30 300 d → Bad lo hi d → R x H') :
    tCall (sp_L_s5_nested K) [] E0 (tCons (tVar 2) (tCons (tCall (sp_L_s5_of K) [] E0 (tCons (tVar 2) (tCons (tCall (sp_L_s5_odd K) [] E0 tl) tNil))) tNil)) σ G R := by
  refine ⟨.ref p, hσ, .ref p, hσ, htl _ _ ⟨lo, hi, o, rfl, hb, hsys, fun H9 lx xs9 s9 nlx hlx hxl hall9 => ?_⟩⟩
  have p9 := pp.same s9
  have hlxp : lx ≠ p := pp.ne nlx
  refine ⟨p, lx, xs9, _, rfl, p9, by omega, .inl (.inl hlx), hlxp, (fun z => by rw [z] at hxl; cases hxl), by omega, fun H10 v b10 p10 hv10 => ?_⟩
  obtain ⟨d, hd, hsn, hbad⟩ := hall9 v hv10
  obtain ⟨up, hup⟩ : ∃ u, G p = some u := by obtain ⟨_, _, _, h, _⟩ := pp; exact ⟨_, h⟩
  have hd10 : Dq K (off p H10) v d := Dq.same (off_but b10) (Dq.same (off_new hup) hd)
  have b0 : But p G H10 := (But.of s9).trans b10
  exact ⟨p, v, d, _, o, lo, hi, rfl, p10, by omega, b0 _ _ (Ne.symm nps) hsys, nps, hd10, hsn, hbad, fun H11 x' d' b11 p11 hq hs hb => k H11 x' d' (b0.trans b11) (p11.mono (by omega)) hq hs hb⟩
theorem rl_one (n : Nat) : rl 1 (n + 1) = [n + 1] := by
  have := rl_edge (k := 1) (c := n) (by decide)
  rw [bin_one, Nat.add_comm] at this
  exact this
theorem rl_60 : rl 60 (0 + 1) = [1] := by
  have := rl_edge (k := 60) (c := 0) (by decide)
  rw [Nat.add_zero, bin_self] at this
  exact this
def sp_law (K : PySem.W.Frag) (cs : List (Addr × Addr)) : Sp := fun vs H Q _ => ∃ (a : Addr) (ns : List Int) (o : HO), vs = [.ref a] ∧ SqL K H a (ns.map V.int) ∧ ns.length ≤ 63 ∧ H sysModules = some o ∧ (∀ ps, o ≠ .tbl ps) ∧ (∀ p ∈ cs, H p.2 = some (.tbl #[])) ∧ ∀ H', Q (.bl true) H'
theorem ok_law (TX : Tx K mg) (TB : LamX.TabB base mg TX.cdl_L_s5_both_right TX.ptl_L_s5_both_right) : FnG P w K mg base CX0 10 TX.a_law TX.fd_law ["_law_script"] (sp_law K [(TX.cdl_L_s5_both_right, TX.ptl_L_s5_both_right)]) := by
  refine Fun.okG TX.f_law sc_law (fun vs H Q E h => ?_) (fun cdv A hgd outer s H vs Q E hr h => ?_)
  · obtain ⟨a, ns, o, rfl, _⟩ := h; rfl
  · obtain ⟨a, ns, o, rfl, hS, hlen, hsys, hot, htab, q⟩ := h
    refine ⟨_, (pss_cons (ps_for PassesOwn.never rfl (pi_range1 (by rfl) TX.b_range (pa_cons (pe_callB (id := "max") (call_max2 rfl) (by rfl) TX.b_max (by decide +kernel) (pa_cons pe_int (pa_cons (pe_callB (id := "min") (call_min2 rfl) (by rfl) TX.b_min (by decide +kernel) (pa_cons pe_int (pa_cons (pe_callB (id := "len") (k_len (K := K) rfl) (by rfl) TX.b_len (by decide +kernel) (pa_cons (pv 0) pa_nil)) pa_nil))) pa_nil))) pa_nil)) (pg_name (i := 1) sc_law.nd rfl (.inl rfl))
        (pss_cons (ps_set (i := 2) sc_law.nd rfl (.inl rfl) (pe_call (ok_L_s5_hand TX) (hr.mono (by decide)) (by rfl) TX.g_L_s5_hand TX.f_L_s5_hand.kp TX.bd_L_s5_hand .nil pass0 (pa_cons (pv 0) (pa_cons (pv 1) pa_nil))))
        (pss_cons (ps_for PassesOwn.never rfl (pi_range1 (by rfl) TX.b_range (pa_cons pe_int pa_nil)) (pg_name (i := 3) sc_law.nd rfl (.inl rfl))
          (pss_cons (ps_set (i := 4) sc_law.nd rfl (.inl rfl) (pe_call (ok_L_s5_nested TX) (hr.mono (by decide)) (by rfl) TX.g_L_s5_nested TX.f_L_s5_nested.kp TX.bd_L_s5_nested .nil pass0 (pa_cons (pv 2) (pa_cons (pe_call (ok_L_s5_of TX) (hr.mono (by decide)) (by rfl) TX.g_L_s5_of TX.f_L_s5_of.kp TX.bd_L_s5_of .nil pass0 (pa_cons (pv 2) (pa_cons (pe_call (ok_L_s5_odd TX) (hr.mono (by decide)) (by rfl) TX.g_L_s5_odd TX.f_L_s5_odd.kp TX.bd_L_s5_odd .nil pass0 (pa_cons pe_int (pa_cons pe_int pa_nil))) pa_nil))) pa_nil))))
          (pss_cons (ps_set (i := 5) sc_law.nd rfl (.inl rfl) (pe_call (ok_L_s5_nested TX) (hr.mono (by decide)) (by rfl) TX.g_L_s5_nested TX.f_L_s5_nested.kp TX.bd_L_s5_nested .nil pass0 (pa_cons (pv 2) (pa_cons (pe_call (ok_L_s5_of TX) (hr.mono (by decide)) (by rfl) TX.g_L_s5_of TX.f_L_s5_of.kp TX.bd_L_s5_of .nil pass0 (pa_cons (pv 2) (pa_cons (pe_call (ok_L_s5_odd TX) (hr.mono (by decide)) (by rfl) TX.g_L_s5_odd TX.f_L_s5_odd.kp TX.bd_L_s5_odd .nil pass0 (pa_cons pe_int (pa_cons (pe_op op_powW pe_int pe_int) pa_nil))) pa_nil))) pa_nil))))
          (pss_cons (ps_set (i := 6) sc_law.nd rfl (.inl rfl) (pe_call (ok_L_s5_nested TX) (hr.mono (by decide)) (by rfl) TX.g_L_s5_nested TX.f_L_s5_nested.kp TX.bd_L_s5_nested .nil pass0 (pa_cons (pv 2) (pa_cons (pe_call (ok_L_s5_of TX) (hr.mono (by decide)) (by rfl) TX.g_L_s5_of TX.f_L_s5_of.kp TX.bd_L_s5_of .nil pass0 (pa_cons (pv 2) (pa_cons (pe_call (ok_L_s5_odd TX) (hr.mono (by decide)) (by rfl) TX.g_L_s5_odd TX.f_L_s5_odd.kp TX.bd_L_s5_odd .nil pass0 (pa_cons pe_int (pa_cons pe_int pa_nil))) pa_nil))) pa_nil))))
          (pss_cons (ps_par (i := 7) (j := 8) (by rfl) sc_law.nd rfl rfl (by decide) rfl rfl (pa_cons (pe_op op_add pe_int (pe_call (ok_L_s5_take TX) (hr.mono (by decide)) (by rfl) TX.g_L_s5_take TX.f_L_s5_take.kp TX.bd_L_s5_take .nil pass0 (pa_cons (pv 2) (pa_cons pe_int pa_nil)))) (pa_cons (pe_call (ok_L_s5_take TX) (hr.mono (by decide)) (by rfl) TX.g_L_s5_take TX.f_L_s5_take.kp TX.bd_L_s5_take .nil pass0 (pa_cons (pv 2) (pa_cons (pe_op op_add (pe_op op_powW pe_int pe_int) pe_int) pa_nil))) pa_nil)) (by rfl))
          (pss_one (ps_if (pt_not (pt_val (pe_callG ((fun _ => ok_L_s5_both_right TX TB) TX) hgd (hr.mono (by decide)) (by rfl) TX.g_L_s5_both_right TX.f_L_s5_both_right.kp TX.bd_L_s5_both_right .nil pass0 (pa_cons (pv 7) (pa_cons (pv 8) (pa_cons (pv 4) (pa_cons (pv 5) (pa_cons (pv 6) pa_nil))))))))
            (pss_one (ps_ret pe_bl))
            pss_nil)))))))
        (pss_one (ps_if (PW.pt (pw_or (pt_cmpR (op_neD hr.units) (pe_call (ok_policy_runs TX) (hr.mono (by decide)) (by rfl) TX.g_policy_runs TX.f_policy_runs.kp TX.bd_policy_runs .nil passN (pa_cons pe_int (pa_cons (pe_op op_powW pe_int pe_int) pa_nil))) (pe_tup (pa_cons (pe_op op_powW pe_int pe_int) pa_nil)) (nomark _)) (pw_or (pt_cmpR op_ne (pe_call (ok_policy_merge TX) (hr.mono (by decide)) (by rfl) TX.g_policy_merge TX.f_policy_merge.kp TX.bd_policy_merge .nil passN (pa_cons pe_int (pa_cons (pe_op op_powW pe_int pe_int) pa_nil))) pe_int (nomark _)) (pw_or1 (pt_cmpR op_ne (pe_call (ok_policy_merge TX) (hr.mono (by decide)) (by rfl) TX.g_policy_merge TX.f_policy_merge.kp TX.bd_policy_merge .nil passN (pa_cons pe_int (pa_cons pe_int pa_nil))) pe_int (nomark _))))))
          (pss_one (ps_ret pe_bl))
          pss_nil)))))
      (pss_one (ps_ret pe_bl))), ?_⟩
    have tb0 : LamX.Tabs (TTs TX) H := fun p hp => by
      rw [List.mem_singleton.mp hp]; exact LamX.TabS.nil (htab _ (List.mem_cons_self ..))
    have e18 : (10 : Int) ^ (18 : Int).toNat = 10 ^ 18 := by decide +kernel
    refine ⟨_, rfl, a, _, rfl, .inl hS, _, _, rfl, _, _, rfl, ?_⟩
    obtain ⟨m, hm, hm2⟩ : ∃ m : Nat, (if (if ((ns.map V.int).length : Int) < 3 then ((ns.map V.int).length : Int) else 3) > 1 then (if ((ns.map V.int).length : Int) < 3 then ((ns.map V.int).length : Int) else 3) else 1) = (m : Int) ∧ m ≤ 3 := by
      refine ⟨(if (if ((ns.map V.int).length : Int) < 3 then ((ns.map V.int).length : Int) else 3) > 1 then (if ((ns.map V.int).length : Int) < 3 then ((ns.map V.int).length : Int) else 3) else 1).toNat, ?_, ?_⟩ <;> (split <;> split <;> omega)
    rw [hm]
    refine ⟨_, rfl, by omega, by omega, for_range (lo := 0) (n := m) (fun i σ G => ∃ y1 y2 y3 y4 y5 y6 y7 y8, σ = [some (.ref a), y1, y2, y3, y4, y5, y6, y7, y8] ∧ LamX.ExtN H G ∧ LamX.Tabs (TTs TX) G) ⟨_, _, _, _, _, _, _, _, rfl, .refl _, tb0⟩ ?_ ?_⟩
    rotate_left
    · rintro σ G ⟨y1, y2, y3, y4, y5, y6, y7, y8, rfl, x1, tb1⟩
      exact q _
    rintro i σ H1 hi ⟨y1, y2, y3, y4, y5, y6, y7, y8, rfl, x1, tb1⟩
    rw [show (0 : Int) + ((i : Nat) : Int) = ((i : Nat) : Int) by omega]
    refine ⟨_, rfl, _, rfl, a, ns, i, rfl, extN_seq x1 hS, by omega, fun H2 p s2 np pp => ?_⟩
    have hsys2 : H2 sysModules = some o := s2 _ _ (x1 _ _ hsys hot)
    have nps : p ≠ sysModules := fun z => by rw [z, x1 _ _ hsys hot] at np; cases np
    have tb2 := Tabs.same tb1 s2
    refine ⟨_, rfl, by decide, by decide, for_range (lo := 0) (n := 6) (fun j σ G => ∃ y3 y4 y5 y6 y7 y8, σ = [some (.ref a), some (.int (i : Int)), some (.ref p), y3, y4, y5, y6, y7, y8] ∧ ButN p H2 G ∧ Pot G p (200 * (j : Int)) ∧ LamX.Tabs (TTs TX) G) ⟨_, _, _, _, _, _, rfl, fun _ _ _ h _ => h, by simpa using pp, tb2⟩ ?_ ?_⟩
    · rintro j σ G hj ⟨y3, y4, y5, y6, y7, y8, rfl, bG, pG, tbG⟩
      have hj' : j < 6 := hj
      have hsG := bG _ _ (Ne.symm nps) hsys2 hot
      refine draw_bad (lo := 1) (hi := 60) rfl pG (by omega) hsG nps (by decide) (fun H Q h => h) fun G1 bk dk b1 p1 qk sk ek => ?_
      have hs1 := b1 _ _ (Ne.symm nps) hsG
      refine draw_bad (lo := 0) (hi := 10 ^ (18 : Int).toNat) rfl p1 (by omega) hs1 nps (by decide +kernel) (fun H Q h => ⟨_, _, rfl, rfl, ⟨by decide, by decide +kernel⟩, h⟩) fun G2 bn dn b2 p2 qn sn en => ?_
      have hs2 := b2 _ _ (Ne.symm nps) hs1
      rw [e18] at en
      refine draw_bad (lo := 0) (hi := 60) rfl p2 (by omega) hs2 nps (by decide) (fun H Q h => h) fun G3 bs ds b3 p3 qs ss es => ?_
      refine ⟨.ref p, rfl, p, 60, _, rfl, p3, by omega, by decide, by decide, fun G4 u b4 p4 u0 u1 => ⟨_, _, rfl, rfl, ?_⟩⟩
      refine ⟨.ref p, rfl, _, _, rfl, rfl, ⟨by decide, by decide +kernel⟩, _, _, rfl, rfl, p, _, _, rfl, p4, by omega, by rw [e18]; decide +kernel, by rw [e18]; decide +kernel, fun G5 v b5 p5 v0 v1 => ?_⟩
      rw [e18] at v1
      have b15 := b2.trans (b3.trans (b4.trans b5))
      have b25 := b3.trans (b4.trans b5)
      have b35 := b4.trans b5
      have qk5 := Dq.same off_sub (Dq.same (off_but b15) qk)
      have qn5 := Dq.same off_sub (Dq.same (off_but b25) qn)
      have qs5 := Dq.same off_sub (Dq.same (off_but b35) qs)
      have bA := b1.trans b15
      have tb5 := pG.tabs tbG bA
      obtain ⟨r, er, er1, er2⟩ : ∃ r : Nat, 1 + u = (r : Int) ∧ 1 ≤ r ∧ r ≤ 60 := ⟨(1 + u).toNat, by omega, by omega, by omega⟩
      obtain ⟨t, rfl, et⟩ : ∃ t : Nat, v = (t : Int) ∧ t ≤ 10 ^ 18 := ⟨v.toNat, by omega, by omega⟩
      refine ⟨_, _, rfl, ?_⟩
      refine ⟨_, rfl, _, rfl, _, rfl, _, rfl, _, rfl, r, t, bk, bn, bs, dk, dn, ds, by dsimp only; rw [er]; rfl, er1, er2, et, ⟨qk5, sk, ek⟩, ⟨qn5, sn, en⟩, ⟨qs5, ss, es⟩, tb5, fun G6 x6 tb6 => ⟨true, rfl, iteF ?_⟩⟩
      exact ⟨_, _, _, _, _, _, rfl, bG.trans ((ButN.of bA).trans (.ext x6)), (p5.ext x6).mono (by omega), tb6⟩
    · rintro σ G ⟨y3, y4, y5, y6, y7, y8, rfl, bG, pG, tbG⟩
      have n18 : (10 : Int) ^ (18 : Int).toNat = ((999999999999999999 + 1 : Nat) : Int) := by decide +kernel
      refine ⟨_, _, rfl, rfl, ⟨by decide, by decide +kernel⟩, ?_⟩
      refine ⟨_, _, rfl, .inl ⟨1, 999999999999999999 + 1, rfl, congrArg V.int n18, by decide, by decide, by decide, fun G1 t1 s1 ht1 => ⟨_, _, rfl, rfl, ⟨by decide, by decide +kernel⟩, sz60 (by simp), fun t2 nt2 => ?_⟩⟩⟩
      rw [rl_one] at ht1
      have z2 := same_upd (o := .tup [V.int (10 ^ (18 : Int).toNat)]) nt2
      have h2 : SqT K (upd G1 t2 (.tup [V.int (10 ^ (18 : Int).toNat)])) t2 (([((999999999999999999 + 1 : Nat) : Int)]).map V.int) := .inl (.inl (by rw [n18]; exact upd_same))
      have s12 := s1.trans z2
      generalize upd G1 t2 (.tup [V.int (10 ^ (18 : Int).toNat)]) = G2 at z2 h2 s12 ⊢
      refine ne_ints (ns := [((999999999999999999 + 1 : Nat) : Int)]) (Same.tup z2 ht1) h2 ⟨false, rfl, iteF ?_⟩
      refine ⟨_, _, rfl, rfl, ⟨by decide, by decide +kernel⟩, _, _, rfl, .inl ⟨1, 999999999999999999 + 1, rfl, congrArg V.int n18, by decide, by decide, by decide, fun G3 s3 => ?_⟩⟩
      rw [rl_one, rl_one]
      refine ⟨rfl, false, rfl, iteF ?_⟩
      refine ⟨_, _, rfl, .inl ⟨60, 0, rfl, rfl, by decide, by decide, by decide, fun G4 s4 => ?_⟩⟩
      rw [rl_60, rl_zero]
      refine ⟨rfl, false, rfl, iteF ?_⟩
      have sA := s12.trans (s3.trans s4)
      exact ⟨_, _, _, _, _, _, _, _, rfl, ButN.out1 x1 ((ButN.same s2).trans (bG.trans (.same sA))) np, Tabs.same tbG sA⟩
end
theorem all_mk {l : PySem.W.OpenLaw} {w : World} {K : PySem.W.Frag} {h : Heap} {mg : Str → Option Value} {fa : Addr} (X : K.In h) (G : h.Ns mainGlobals mg) (hfa : mg "law" = some (.ref fa))
    {f_is_int : Addr} {od_is_int an_is_int : Option Addr} {sl_is_int : Array (Option Value)} {oc_is_int kV_is_int dc_is_int pm_is_int cd_is_int ct_is_int : Value}
    (a_is_int : PySem.W.nsIn K mainGlobals "is_int" = some (some (.ref f_is_int))) (l_is_int : K.lookup f_is_int = some ⟨oc_is_int, od_is_int, .func (PySem.W.fnOf "is_int" "is_int" (defArgs s_is_int) (defBody s_is_int) (defScope s_is_int) .none kV_is_int dc_is_int pm_is_int an_is_int cd_is_int ct_is_int), sl_is_int⟩) (c_is_int : PySem.W.codeIn K cd_is_int "is_int" = true) (k_is_int : PySem.W.keepIn K (.ref f_is_int) = true)
    {f_is_count : Addr} {od_is_count an_is_count : Option Addr} {sl_is_count : Array (Option Value)} {oc_is_count kV_is_count dc_is_count pm_is_count cd_is_count ct_is_count : Value}
    (a_is_count : PySem.W.nsIn K mainGlobals "is_count" = some (some (.ref f_is_count))) (l_is_count : K.lookup f_is_count = some ⟨oc_is_count, od_is_count, .func (PySem.W.fnOf "is_count" "is_count" (defArgs s_is_count) (defBody s_is_count) (defScope s_is_count) .none kV_is_count dc_is_count pm_is_count an_is_count cd_is_count ct_is_count), sl_is_count⟩) (c_is_count : PySem.W.codeIn K cd_is_count "is_count" = true) (k_is_count : PySem.W.keepIn K (.ref f_is_count) = true)
    {f_is_count_up_to : Addr} {od_is_count_up_to an_is_count_up_to : Option Addr} {sl_is_count_up_to : Array (Option Value)} {oc_is_count_up_to kV_is_count_up_to dc_is_count_up_to pm_is_count_up_to cd_is_count_up_to ct_is_count_up_to : Value}
    (a_is_count_up_to : PySem.W.nsIn K mainGlobals "is_count_up_to" = some (some (.ref f_is_count_up_to))) (l_is_count_up_to : K.lookup f_is_count_up_to = some ⟨oc_is_count_up_to, od_is_count_up_to, .func (PySem.W.fnOf "is_count_up_to" "is_count_up_to" (defArgs s_is_count_up_to) (defBody s_is_count_up_to) (defScope s_is_count_up_to) .none kV_is_count_up_to dc_is_count_up_to pm_is_count_up_to an_is_count_up_to cd_is_count_up_to ct_is_count_up_to), sl_is_count_up_to⟩) (c_is_count_up_to : PySem.W.codeIn K cd_is_count_up_to "is_count_up_to" = true) (k_is_count_up_to : PySem.W.keepIn K (.ref f_is_count_up_to) = true)
    {f_choose : Addr} {od_choose an_choose : Option Addr} {sl_choose : Array (Option Value)} {oc_choose kV_choose dc_choose pm_choose cd_choose ct_choose : Value}
    (a_choose : PySem.W.nsIn K mainGlobals "choose" = some (some (.ref f_choose))) (l_choose : K.lookup f_choose = some ⟨oc_choose, od_choose, .func (PySem.W.fnOf "choose" "choose" (defArgs s_choose) (defBody s_choose) (defScope s_choose) .none kV_choose dc_choose pm_choose an_choose cd_choose ct_choose), sl_choose⟩) (c_choose : PySem.W.codeIn K cd_choose "choose" = true) (k_choose : PySem.W.keepIn K (.ref f_choose) = true)
    {f_least_writes : Addr} {od_least_writes an_least_writes : Option Addr} {sl_least_writes : Array (Option Value)} {oc_least_writes kV_least_writes dc_least_writes pm_least_writes cd_least_writes ct_least_writes : Value}
    (a_least_writes : PySem.W.nsIn K mainGlobals "least_writes" = some (some (.ref f_least_writes))) (l_least_writes : K.lookup f_least_writes = some ⟨oc_least_writes, od_least_writes, .func (PySem.W.fnOf "least_writes" "least_writes" (defArgs s_least_writes) (defBody s_least_writes) (defScope s_least_writes) .none kV_least_writes dc_least_writes pm_least_writes an_least_writes cd_least_writes ct_least_writes), sl_least_writes⟩) (c_least_writes : PySem.W.codeIn K cd_least_writes "least_writes" = true) (k_least_writes : PySem.W.keepIn K (.ref f_least_writes) = true)
    {f_check_number : Addr} {od_check_number an_check_number : Option Addr} {sl_check_number : Array (Option Value)} {oc_check_number kV_check_number dc_check_number pm_check_number cd_check_number ct_check_number : Value}
    (a_check_number : PySem.W.nsIn K mainGlobals "check_number" = some (some (.ref f_check_number))) (l_check_number : K.lookup f_check_number = some ⟨oc_check_number, od_check_number, .func (PySem.W.fnOf "check_number" "check_number" (defArgs s_check_number) (defBody s_check_number) (defScope s_check_number) .none kV_check_number dc_check_number pm_check_number an_check_number cd_check_number ct_check_number), sl_check_number⟩) (c_check_number : PySem.W.codeIn K cd_check_number "check_number" = true) (k_check_number : PySem.W.keepIn K (.ref f_check_number) = true)
    {f_check_runs : Addr} {od_check_runs an_check_runs : Option Addr} {sl_check_runs : Array (Option Value)} {oc_check_runs kV_check_runs dc_check_runs pm_check_runs cd_check_runs ct_check_runs : Value}
    (a_check_runs : PySem.W.nsIn K mainGlobals "check_runs" = some (some (.ref f_check_runs))) (l_check_runs : K.lookup f_check_runs = some ⟨oc_check_runs, od_check_runs, .func (PySem.W.fnOf "check_runs" "check_runs" (defArgs s_check_runs) (defBody s_check_runs) (defScope s_check_runs) .none kV_check_runs dc_check_runs pm_check_runs an_check_runs cd_check_runs ct_check_runs), sl_check_runs⟩) (c_check_runs : PySem.W.codeIn K cd_check_runs "check_runs" = true) (k_check_runs : PySem.W.keepIn K (.ref f_check_runs) = true)
    {f_writes_needed : Addr} {od_writes_needed an_writes_needed : Option Addr} {sl_writes_needed : Array (Option Value)} {oc_writes_needed kV_writes_needed dc_writes_needed pm_writes_needed cd_writes_needed ct_writes_needed : Value}
    (a_writes_needed : PySem.W.nsIn K mainGlobals "writes_needed" = some (some (.ref f_writes_needed))) (l_writes_needed : K.lookup f_writes_needed = some ⟨oc_writes_needed, od_writes_needed, .func (PySem.W.fnOf "writes_needed" "writes_needed" (defArgs s_writes_needed) (defBody s_writes_needed) (defScope s_writes_needed) .none kV_writes_needed dc_writes_needed pm_writes_needed an_writes_needed cd_writes_needed ct_writes_needed), sl_writes_needed⟩) (c_writes_needed : PySem.W.codeIn K cd_writes_needed "writes_needed" = true) (k_writes_needed : PySem.W.keepIn K (.ref f_writes_needed) = true)
    {f_policy_merge : Addr} {od_policy_merge an_policy_merge : Option Addr} {sl_policy_merge : Array (Option Value)} {oc_policy_merge kV_policy_merge dc_policy_merge pm_policy_merge cd_policy_merge ct_policy_merge : Value}
    (a_policy_merge : PySem.W.nsIn K mainGlobals "policy_merge" = some (some (.ref f_policy_merge))) (l_policy_merge : K.lookup f_policy_merge = some ⟨oc_policy_merge, od_policy_merge, .func (PySem.W.fnOf "policy_merge" "policy_merge" (defArgs s_policy_merge) (defBody s_policy_merge) (defScope s_policy_merge) .none kV_policy_merge dc_policy_merge pm_policy_merge an_policy_merge cd_policy_merge ct_policy_merge), sl_policy_merge⟩) (c_policy_merge : PySem.W.codeIn K cd_policy_merge "policy_merge" = true) (k_policy_merge : PySem.W.keepIn K (.ref f_policy_merge) = true)
    {f_run_lengths : Addr} {od_run_lengths an_run_lengths : Option Addr} {sl_run_lengths : Array (Option Value)} {oc_run_lengths kV_run_lengths dc_run_lengths pm_run_lengths cd_run_lengths ct_run_lengths : Value}
    (a_run_lengths : PySem.W.nsIn K mainGlobals "run_lengths" = some (some (.ref f_run_lengths))) (l_run_lengths : K.lookup f_run_lengths = some ⟨oc_run_lengths, od_run_lengths, .func (PySem.W.fnOf "run_lengths" "run_lengths" (defArgs s_run_lengths) (defBody s_run_lengths) (defScope s_run_lengths) .none kV_run_lengths dc_run_lengths pm_run_lengths an_run_lengths cd_run_lengths ct_run_lengths), sl_run_lengths⟩) (c_run_lengths : PySem.W.codeIn K cd_run_lengths "run_lengths" = true) (k_run_lengths : PySem.W.keepIn K (.ref f_run_lengths) = true)
    {f_policy_runs : Addr} {od_policy_runs an_policy_runs : Option Addr} {sl_policy_runs : Array (Option Value)} {oc_policy_runs kV_policy_runs dc_policy_runs pm_policy_runs cd_policy_runs ct_policy_runs : Value}
    (a_policy_runs : PySem.W.nsIn K mainGlobals "policy_runs" = some (some (.ref f_policy_runs))) (l_policy_runs : K.lookup f_policy_runs = some ⟨oc_policy_runs, od_policy_runs, .func (PySem.W.fnOf "policy_runs" "policy_runs" (defArgs s_policy_runs) (defBody s_policy_runs) (defScope s_policy_runs) .none kV_policy_runs dc_policy_runs pm_policy_runs an_policy_runs cd_policy_runs ct_policy_runs), sl_policy_runs⟩) (c_policy_runs : PySem.W.codeIn K cd_policy_runs "policy_runs" = true) (k_policy_runs : PySem.W.keepIn K (.ref f_policy_runs) = true)
    {f_policy_schedule : Addr} {od_policy_schedule an_policy_schedule : Option Addr} {sl_policy_schedule : Array (Option Value)} {oc_policy_schedule kV_policy_schedule dc_policy_schedule pm_policy_schedule cd_policy_schedule ct_policy_schedule : Value}
    (a_policy_schedule : PySem.W.nsIn K mainGlobals "policy_schedule" = some (some (.ref f_policy_schedule))) (l_policy_schedule : K.lookup f_policy_schedule = some ⟨oc_policy_schedule, od_policy_schedule, .func (PySem.W.fnOf "policy_schedule" "policy_schedule" (defArgs s_policy_schedule) (defBody s_policy_schedule) (defScope s_policy_schedule) .none kV_policy_schedule dc_policy_schedule pm_policy_schedule an_policy_schedule cd_policy_schedule ct_policy_schedule), sl_policy_schedule⟩) (c_policy_schedule : PySem.W.codeIn K cd_policy_schedule "policy_schedule" = true) (k_policy_schedule : PySem.W.keepIn K (.ref f_policy_schedule) = true)
    {f_L_s5_hand : Addr} {od_L_s5_hand an_L_s5_hand : Option Addr} {sl_L_s5_hand : Array (Option Value)} {oc_L_s5_hand kV_L_s5_hand dc_L_s5_hand pm_L_s5_hand cd_L_s5_hand ct_L_s5_hand : Value}
    (a_L_s5_hand : PySem.W.nsIn K mainGlobals "_law_s5_hand" = some (some (.ref f_L_s5_hand))) (l_L_s5_hand : K.lookup f_L_s5_hand = some ⟨oc_L_s5_hand, od_L_s5_hand, .func (PySem.W.fnOf "_law_s5_hand" "_law_s5_hand" (defArgs s_L_s5_hand) (defBody s_L_s5_hand) (defScope s_L_s5_hand) .none kV_L_s5_hand dc_L_s5_hand pm_L_s5_hand an_L_s5_hand cd_L_s5_hand ct_L_s5_hand), sl_L_s5_hand⟩) (c_L_s5_hand : PySem.W.codeIn K cd_L_s5_hand "_law_s5_hand" = true) (k_L_s5_hand : PySem.W.keepIn K (.ref f_L_s5_hand) = true)
    {f_L_s5_take : Addr} {od_L_s5_take an_L_s5_take : Option Addr} {sl_L_s5_take : Array (Option Value)} {oc_L_s5_take kV_L_s5_take dc_L_s5_take pm_L_s5_take cd_L_s5_take ct_L_s5_take : Value}
    (a_L_s5_take : PySem.W.nsIn K mainGlobals "_law_s5_take" = some (some (.ref f_L_s5_take))) (l_L_s5_take : K.lookup f_L_s5_take = some ⟨oc_L_s5_take, od_L_s5_take, .func (PySem.W.fnOf "_law_s5_take" "_law_s5_take" (defArgs s_L_s5_take) (defBody s_L_s5_take) (defScope s_L_s5_take) .none kV_L_s5_take dc_L_s5_take pm_L_s5_take an_L_s5_take cd_L_s5_take ct_L_s5_take), sl_L_s5_take⟩) (c_L_s5_take : PySem.W.codeIn K cd_L_s5_take "_law_s5_take" = true) (k_L_s5_take : PySem.W.keepIn K (.ref f_L_s5_take) = true)
    {f_L_s5_of : Addr} {od_L_s5_of an_L_s5_of : Option Addr} {sl_L_s5_of : Array (Option Value)} {oc_L_s5_of kV_L_s5_of dc_L_s5_of pm_L_s5_of cd_L_s5_of ct_L_s5_of : Value}
    (a_L_s5_of : PySem.W.nsIn K mainGlobals "_law_s5_of" = some (some (.ref f_L_s5_of))) (l_L_s5_of : K.lookup f_L_s5_of = some ⟨oc_L_s5_of, od_L_s5_of, .func (PySem.W.fnOf "_law_s5_of" "_law_s5_of" (defArgs s_L_s5_of) (defBody s_L_s5_of) (defScope s_L_s5_of) .none kV_L_s5_of dc_L_s5_of pm_L_s5_of an_L_s5_of cd_L_s5_of ct_L_s5_of), sl_L_s5_of⟩) (c_L_s5_of : PySem.W.codeIn K cd_L_s5_of "_law_s5_of" = true) (k_L_s5_of : PySem.W.keepIn K (.ref f_L_s5_of) = true)
    {f_L_s5_odd : Addr} {od_L_s5_odd an_L_s5_odd : Option Addr} {sl_L_s5_odd : Array (Option Value)} {oc_L_s5_odd kV_L_s5_odd dc_L_s5_odd pm_L_s5_odd cd_L_s5_odd ct_L_s5_odd : Value}
    (a_L_s5_odd : PySem.W.nsIn K mainGlobals "_law_s5_odd" = some (some (.ref f_L_s5_odd))) (l_L_s5_odd : K.lookup f_L_s5_odd = some ⟨oc_L_s5_odd, od_L_s5_odd, .func (PySem.W.fnOf "_law_s5_odd" "_law_s5_odd" (defArgs s_L_s5_odd) (defBody s_L_s5_odd) (defScope s_L_s5_odd) .none kV_L_s5_odd dc_L_s5_odd pm_L_s5_odd an_L_s5_odd cd_L_s5_odd ct_L_s5_odd), sl_L_s5_odd⟩) (c_L_s5_odd : PySem.W.codeIn K cd_L_s5_odd "_law_s5_odd" = true) (k_L_s5_odd : PySem.W.keepIn K (.ref f_L_s5_odd) = true)
    {f_L_s5_nested : Addr} {od_L_s5_nested an_L_s5_nested : Option Addr} {sl_L_s5_nested : Array (Option Value)} {oc_L_s5_nested kV_L_s5_nested dc_L_s5_nested pm_L_s5_nested cd_L_s5_nested ct_L_s5_nested : Value}
    (a_L_s5_nested : PySem.W.nsIn K mainGlobals "_law_s5_nested" = some (some (.ref f_L_s5_nested))) (l_L_s5_nested : K.lookup f_L_s5_nested = some ⟨oc_L_s5_nested, od_L_s5_nested, .func (PySem.W.fnOf "_law_s5_nested" "_law_s5_nested" (defArgs s_L_s5_nested) (defBody s_L_s5_nested) (defScope s_L_s5_nested) .none kV_L_s5_nested dc_L_s5_nested pm_L_s5_nested an_L_s5_nested cd_L_s5_nested ct_L_s5_nested), sl_L_s5_nested⟩) (c_L_s5_nested : PySem.W.codeIn K cd_L_s5_nested "_law_s5_nested" = true) (k_L_s5_nested : PySem.W.keepIn K (.ref f_L_s5_nested) = true)
    {f_L_s5_met : Addr} {od_L_s5_met an_L_s5_met : Option Addr} {sl_L_s5_met : Array (Option Value)} {oc_L_s5_met kV_L_s5_met dc_L_s5_met pm_L_s5_met cd_L_s5_met ct_L_s5_met : Value}
    (a_L_s5_met : PySem.W.nsIn K mainGlobals "_law_s5_met" = some (some (.ref f_L_s5_met))) (l_L_s5_met : K.lookup f_L_s5_met = some ⟨oc_L_s5_met, od_L_s5_met, .func (PySem.W.fnOf "_law_s5_met" "_law_s5_met" (defArgs s_L_s5_met) (defBody s_L_s5_met) (defScope s_L_s5_met) .none kV_L_s5_met dc_L_s5_met pm_L_s5_met an_L_s5_met cd_L_s5_met ct_L_s5_met), sl_L_s5_met⟩) (c_L_s5_met : PySem.W.codeIn K cd_L_s5_met "_law_s5_met" = true) (k_L_s5_met : PySem.W.keepIn K (.ref f_L_s5_met) = true)
    {f_L_s5_both_right : Addr} {od_L_s5_both_right an_L_s5_both_right : Option Addr} {sl_L_s5_both_right : Array (Option Value)} {oc_L_s5_both_right kV_L_s5_both_right dc_L_s5_both_right pm_L_s5_both_right ct_L_s5_both_right : Value} {cdA_L_s5_both_right : Addr}
    (a_L_s5_both_right : PySem.W.nsIn K mainGlobals "_law_s5_both_right" = some (some (.ref f_L_s5_both_right))) (l_L_s5_both_right : K.lookup f_L_s5_both_right = some ⟨oc_L_s5_both_right, od_L_s5_both_right, .func (PySem.W.fnOf "_law_s5_both_right" "_law_s5_both_right" (defArgs s_L_s5_both_right) (defBody s_L_s5_both_right) (defScope s_L_s5_both_right) .none kV_L_s5_both_right dc_L_s5_both_right pm_L_s5_both_right an_L_s5_both_right (.ref cdA_L_s5_both_right) ct_L_s5_both_right), sl_L_s5_both_right⟩) (c_L_s5_both_right : PySem.W.codeIn K (.ref cdA_L_s5_both_right) "_law_s5_both_right" = true) (k_L_s5_both_right : PySem.W.keepIn K (.ref f_L_s5_both_right) = true)
    {f_law : Addr} {od_law an_law : Option Addr} {sl_law : Array (Option Value)} {oc_law kV_law dc_law pm_law cd_law ct_law : Value}
    (a_law : PySem.W.nsIn K mainGlobals "law" = some (some (.ref f_law))) (l_law : K.lookup f_law = some ⟨oc_law, od_law, .func (PySem.W.fnOf "law" "law" (defArgs s_law) (defBody s_law) (defScope s_law) .none kV_law dc_law pm_law an_law cd_law ct_law), sl_law⟩) (c_law : PySem.W.codeIn K cd_law "law" = true) (k_law : PySem.W.keepIn K (.ref f_law) = true)
    {ptA_L_s5_both_right : Addr} (tbA : ∀ P ∈ [ptA_L_s5_both_right], h.get? P = some (PySem.W.tabObj #[]))
    (hdA_L_s5_both_right : PySem.W.codeHdIn K cdA_L_s5_both_right ptA_L_s5_both_right = true) (ntA_L_s5_both_right : K.lookup ptA_L_s5_both_right = none) (nyA_L_s5_both_right : decide (cdA_L_s5_both_right ≠ sysModules ∧ ptA_L_s5_both_right ≠ sysModules) = true)
    (z_isinstance : PySem.W.nsIn K mainGlobals "isinstance" = some none)
    (z_int : PySem.W.nsIn K mainGlobals "int" = some none)
    (z_bool : PySem.W.nsIn K mainGlobals "bool" = some none)
    (z_range : PySem.W.nsIn K mainGlobals "range" = some none)
    (z_min : PySem.W.nsIn K mainGlobals "min" = some none)
    (z_len : PySem.W.nsIn K mainGlobals "len" = some none)
    (z_tuple : PySem.W.nsIn K mainGlobals "tuple" = some none)
    (z_abs : PySem.W.nsIn K mainGlobals "abs" = some none)
    (z_ValueError : PySem.W.nsIn K mainGlobals "ValueError" = some none)
    (z_all : PySem.W.nsIn K mainGlobals "all" = some none)
    (z_repr : PySem.W.nsIn K mainGlobals "repr" = some none)
    (z_max : PySem.W.nsIn K mainGlobals "max" = some none)
    {t_MOST_BUDGET : Tok} (y_MOST_BUDGET : PySem.W.nsIn K mainGlobals "MOST_BUDGET" = some (some (.int (60) t_MOST_BUDGET)))
    {t_MOST_FLUSHES : Tok} (y_MOST_FLUSHES : PySem.W.nsIn K mainGlobals "MOST_FLUSHES" = some (some (.int (60) t_MOST_FLUSHES)))
    {t_MOST_POSITION : Tok} (y_MOST_POSITION : PySem.W.nsIn K mainGlobals "MOST_POSITION" = some (some (.int (1000000000000000000) t_MOST_POSITION)))
    {C_MergeBudgetError : Addr} (ac_MergeBudgetError : PySem.W.nsIn K mainGlobals "MergeBudgetError" = some (some (.ref C_MergeBudgetError))) (kc_MergeBudgetError : PySem.W.keepIn K (.ref C_MergeBudgetError) = true) {kd_MergeBudgetError : ClassData} (kl_MergeBudgetError : PySem.W.clsIn K C_MergeBudgetError = some kd_MergeBudgetError) (kt_MergeBudgetError : PySem.W.typeIn K (.ref C_MergeBudgetError) = some (.type "type"))
    (xp_MergeBudgetError : PySem.W.findIn K (.ref C_MergeBudgetError) "__getattribute__" = some (some (.builtin "BaseException.__getattribute__"))) (xq_MergeBudgetError : PySem.W.findIn K (.ref C_MergeBudgetError) "__getattr__" = some none) (xr_MergeBudgetError : PySem.W.subIn K (.ref C_MergeBudgetError) (.type "BaseException") = some true) (xs_MergeBudgetError : PySem.W.hasDictIn K C_MergeBudgetError = true) (xt_MergeBudgetError : PySem.W.findIn K (.ref C_MergeBudgetError) "__class__" = some (some (.builtin "object.__class__"))) (xu_MergeBudgetError : PySem.W.mroIn K C_MergeBudgetError (.type "object") = some true)
    (xi_MergeBudgetError : PySem.W.excIn K C_MergeBudgetError PySem.HandSPX.veTail "ValueError.__new__" = true)
    {C_InvalidSchedule : Addr} (ac_InvalidSchedule : PySem.W.nsIn K mainGlobals "InvalidSchedule" = some (some (.ref C_InvalidSchedule))) (kc_InvalidSchedule : PySem.W.keepIn K (.ref C_InvalidSchedule) = true) {kd_InvalidSchedule : ClassData} (kl_InvalidSchedule : PySem.W.clsIn K C_InvalidSchedule = some kd_InvalidSchedule) (kt_InvalidSchedule : PySem.W.typeIn K (.ref C_InvalidSchedule) = some (.type "type"))
    (xp_InvalidSchedule : PySem.W.findIn K (.ref C_InvalidSchedule) "__getattribute__" = some (some (.builtin "BaseException.__getattribute__"))) (xq_InvalidSchedule : PySem.W.findIn K (.ref C_InvalidSchedule) "__getattr__" = some none) (xr_InvalidSchedule : PySem.W.subIn K (.ref C_InvalidSchedule) (.type "BaseException") = some true) (xs_InvalidSchedule : PySem.W.hasDictIn K C_InvalidSchedule = true) (xt_InvalidSchedule : PySem.W.findIn K (.ref C_InvalidSchedule) "__class__" = some (some (.builtin "object.__class__"))) (xu_InvalidSchedule : PySem.W.mroIn K C_InvalidSchedule (.type "object") = some true)
    {nm_InvalidSchedule q_InvalidSchedule : Str} {N_InvalidSchedule : Addr} {bs_InvalidSchedule bm_InvalidSchedule : List Value} {sn_InvalidSchedule : _} {sub_InvalidSchedule : _} {ab_InvalidSchedule : _} {col_InvalidSchedule : _} {dd_InvalidSchedule : _} {k0_InvalidSchedule : _} {k1_InvalidSchedule : _} {k2_InvalidSchedule : _} {k3_InvalidSchedule : _} {k5_InvalidSchedule : _}
    (xL_InvalidSchedule : K.lookup C_InvalidSchedule = some (excClassObj nm_InvalidSchedule q_InvalidSchedule C_InvalidSchedule N_InvalidSchedule bs_InvalidSchedule bm_InvalidSchedule true sn_InvalidSchedule sub_InvalidSchedule ab_InvalidSchedule col_InvalidSchedule dd_InvalidSchedule k0_InvalidSchedule k1_InvalidSchedule k2_InvalidSchedule k3_InvalidSchedule k5_InvalidSchedule "ValueError.__new__")) (rv_InvalidSchedule : PySem.HandSPX.refsVE bm_InvalidSchedule = true)
    {I_InvalidSchedule : Addr} {iod_InvalidSchedule ian_InvalidSchedule : Option Addr} {isl_InvalidSchedule : Array (Option Value)} {ioc_InvalidSchedule ikV_InvalidSchedule idc_InvalidSchedule ipm_InvalidSchedule icd_InvalidSchedule ict_InvalidSchedule : Value}
    (ic_InvalidSchedule : PySem.W.findIn K (.ref C_InvalidSchedule) "__init__" = some (some (.ref I_InvalidSchedule))) (oa_InvalidSchedule : PySem.W.findIn K (.ref C_InvalidSchedule) "__setattr__" = some (some (.builtin "object.__setattr__"))) (oe_InvalidSchedule : PySem.W.findIn K (.ref C_InvalidSchedule) "value" = some none) (of_InvalidSchedule : PySem.W.typeIn K (.ref I_InvalidSchedule) = some (.type "function"))
    (il_InvalidSchedule : K.lookup I_InvalidSchedule = some ⟨ioc_InvalidSchedule, iod_InvalidSchedule, .func (PySem.W.fnOf "__init__" "InvalidSchedule.__init__" (defArgs s_init_InvalidSchedule) (defBody s_init_InvalidSchedule) (defScope s_init_InvalidSchedule) .none ikV_InvalidSchedule idc_InvalidSchedule ipm_InvalidSchedule ian_InvalidSchedule icd_InvalidSchedule ict_InvalidSchedule), isl_InvalidSchedule⟩) (ie_InvalidSchedule : PySem.W.codeIn K icd_InvalidSchedule "InvalidSchedule.__init__" = true) (ik_InvalidSchedule : PySem.W.keepIn K (.ref I_InvalidSchedule) = true)
    {C_InvalidCount : Addr} (ac_InvalidCount : PySem.W.nsIn K mainGlobals "InvalidCount" = some (some (.ref C_InvalidCount))) (kc_InvalidCount : PySem.W.keepIn K (.ref C_InvalidCount) = true) {kd_InvalidCount : ClassData} (kl_InvalidCount : PySem.W.clsIn K C_InvalidCount = some kd_InvalidCount) (kt_InvalidCount : PySem.W.typeIn K (.ref C_InvalidCount) = some (.type "type"))
    (xp_InvalidCount : PySem.W.findIn K (.ref C_InvalidCount) "__getattribute__" = some (some (.builtin "BaseException.__getattribute__"))) (xq_InvalidCount : PySem.W.findIn K (.ref C_InvalidCount) "__getattr__" = some none) (xr_InvalidCount : PySem.W.subIn K (.ref C_InvalidCount) (.type "BaseException") = some true) (xs_InvalidCount : PySem.W.hasDictIn K C_InvalidCount = true) (xt_InvalidCount : PySem.W.findIn K (.ref C_InvalidCount) "__class__" = some (some (.builtin "object.__class__"))) (xu_InvalidCount : PySem.W.mroIn K C_InvalidCount (.type "object") = some true)
    {nm_InvalidCount q_InvalidCount : Str} {N_InvalidCount : Addr} {bs_InvalidCount bm_InvalidCount : List Value} {sn_InvalidCount : _} {sub_InvalidCount : _} {ab_InvalidCount : _} {col_InvalidCount : _} {dd_InvalidCount : _} {k0_InvalidCount : _} {k1_InvalidCount : _} {k2_InvalidCount : _} {k3_InvalidCount : _} {k5_InvalidCount : _}
    (xL_InvalidCount : K.lookup C_InvalidCount = some (excClassObj nm_InvalidCount q_InvalidCount C_InvalidCount N_InvalidCount bs_InvalidCount bm_InvalidCount true sn_InvalidCount sub_InvalidCount ab_InvalidCount col_InvalidCount dd_InvalidCount k0_InvalidCount k1_InvalidCount k2_InvalidCount k3_InvalidCount k5_InvalidCount "ValueError.__new__")) (rv_InvalidCount : PySem.HandSPX.refsVE bm_InvalidCount = true)
    {I_InvalidCount : Addr} {iod_InvalidCount ian_InvalidCount : Option Addr} {isl_InvalidCount : Array (Option Value)} {ioc_InvalidCount ikV_InvalidCount idc_InvalidCount ipm_InvalidCount icd_InvalidCount ict_InvalidCount : Value}
    (ic_InvalidCount : PySem.W.findIn K (.ref C_InvalidCount) "__init__" = some (some (.ref I_InvalidCount))) (oa_InvalidCount : PySem.W.findIn K (.ref C_InvalidCount) "__setattr__" = some (some (.builtin "object.__setattr__"))) (oe_InvalidCount : PySem.W.findIn K (.ref C_InvalidCount) "value" = some none) (of_InvalidCount : PySem.W.typeIn K (.ref I_InvalidCount) = some (.type "function"))
    (il_InvalidCount : K.lookup I_InvalidCount = some ⟨ioc_InvalidCount, iod_InvalidCount, .func (PySem.W.fnOf "__init__" "InvalidCount.__init__" (defArgs s_init_InvalidCount) (defBody s_init_InvalidCount) (defScope s_init_InvalidCount) .none ikV_InvalidCount idc_InvalidCount ipm_InvalidCount ian_InvalidCount icd_InvalidCount ict_InvalidCount), isl_InvalidCount⟩) (ie_InvalidCount : PySem.W.codeIn K icd_InvalidCount "InvalidCount.__init__" = true) (ik_InvalidCount : PySem.W.keepIn K (.ref I_InvalidCount) = true)
    {C_InvalidBudget : Addr} (ac_InvalidBudget : PySem.W.nsIn K mainGlobals "InvalidBudget" = some (some (.ref C_InvalidBudget))) (kc_InvalidBudget : PySem.W.keepIn K (.ref C_InvalidBudget) = true) {kd_InvalidBudget : ClassData} (kl_InvalidBudget : PySem.W.clsIn K C_InvalidBudget = some kd_InvalidBudget) (kt_InvalidBudget : PySem.W.typeIn K (.ref C_InvalidBudget) = some (.type "type"))
    (xp_InvalidBudget : PySem.W.findIn K (.ref C_InvalidBudget) "__getattribute__" = some (some (.builtin "BaseException.__getattribute__"))) (xq_InvalidBudget : PySem.W.findIn K (.ref C_InvalidBudget) "__getattr__" = some none) (xr_InvalidBudget : PySem.W.subIn K (.ref C_InvalidBudget) (.type "BaseException") = some true) (xs_InvalidBudget : PySem.W.hasDictIn K C_InvalidBudget = true) (xt_InvalidBudget : PySem.W.findIn K (.ref C_InvalidBudget) "__class__" = some (some (.builtin "object.__class__"))) (xu_InvalidBudget : PySem.W.mroIn K C_InvalidBudget (.type "object") = some true)
    {nm_InvalidBudget q_InvalidBudget : Str} {N_InvalidBudget : Addr} {bs_InvalidBudget bm_InvalidBudget : List Value} {sn_InvalidBudget : _} {sub_InvalidBudget : _} {ab_InvalidBudget : _} {col_InvalidBudget : _} {dd_InvalidBudget : _} {k0_InvalidBudget : _} {k1_InvalidBudget : _} {k2_InvalidBudget : _} {k3_InvalidBudget : _} {k5_InvalidBudget : _}
    (xL_InvalidBudget : K.lookup C_InvalidBudget = some (excClassObj nm_InvalidBudget q_InvalidBudget C_InvalidBudget N_InvalidBudget bs_InvalidBudget bm_InvalidBudget true sn_InvalidBudget sub_InvalidBudget ab_InvalidBudget col_InvalidBudget dd_InvalidBudget k0_InvalidBudget k1_InvalidBudget k2_InvalidBudget k3_InvalidBudget k5_InvalidBudget "ValueError.__new__")) (rv_InvalidBudget : PySem.HandSPX.refsVE bm_InvalidBudget = true)
    {I_InvalidBudget : Addr} {iod_InvalidBudget ian_InvalidBudget : Option Addr} {isl_InvalidBudget : Array (Option Value)} {ioc_InvalidBudget ikV_InvalidBudget idc_InvalidBudget ipm_InvalidBudget icd_InvalidBudget ict_InvalidBudget : Value}
    (ic_InvalidBudget : PySem.W.findIn K (.ref C_InvalidBudget) "__init__" = some (some (.ref I_InvalidBudget))) (oa_InvalidBudget : PySem.W.findIn K (.ref C_InvalidBudget) "__setattr__" = some (some (.builtin "object.__setattr__"))) (oe_InvalidBudget : PySem.W.findIn K (.ref C_InvalidBudget) "value" = some none) (of_InvalidBudget : PySem.W.typeIn K (.ref I_InvalidBudget) = some (.type "function"))
    (il_InvalidBudget : K.lookup I_InvalidBudget = some ⟨ioc_InvalidBudget, iod_InvalidBudget, .func (PySem.W.fnOf "__init__" "InvalidBudget.__init__" (defArgs s_init_InvalidBudget) (defBody s_init_InvalidBudget) (defScope s_init_InvalidBudget) .none ikV_InvalidBudget idc_InvalidBudget ipm_InvalidBudget ian_InvalidBudget icd_InvalidBudget ict_InvalidBudget), isl_InvalidBudget⟩) (ie_InvalidBudget : PySem.W.codeIn K icd_InvalidBudget "InvalidBudget.__init__" = true) (ik_InvalidBudget : PySem.W.keepIn K (.ref I_InvalidBudget) = true)
    {C_InvalidState : Addr} (ac_InvalidState : PySem.W.nsIn K mainGlobals "InvalidState" = some (some (.ref C_InvalidState))) (kc_InvalidState : PySem.W.keepIn K (.ref C_InvalidState) = true) {kd_InvalidState : ClassData} (kl_InvalidState : PySem.W.clsIn K C_InvalidState = some kd_InvalidState) (kt_InvalidState : PySem.W.typeIn K (.ref C_InvalidState) = some (.type "type"))
    (xp_InvalidState : PySem.W.findIn K (.ref C_InvalidState) "__getattribute__" = some (some (.builtin "BaseException.__getattribute__"))) (xq_InvalidState : PySem.W.findIn K (.ref C_InvalidState) "__getattr__" = some none) (xr_InvalidState : PySem.W.subIn K (.ref C_InvalidState) (.type "BaseException") = some true) (xs_InvalidState : PySem.W.hasDictIn K C_InvalidState = true) (xt_InvalidState : PySem.W.findIn K (.ref C_InvalidState) "__class__" = some (some (.builtin "object.__class__"))) (xu_InvalidState : PySem.W.mroIn K C_InvalidState (.type "object") = some true)
    {nm_InvalidState q_InvalidState : Str} {N_InvalidState : Addr} {bs_InvalidState bm_InvalidState : List Value} {sn_InvalidState : _} {sub_InvalidState : _} {ab_InvalidState : _} {col_InvalidState : _} {dd_InvalidState : _} {k0_InvalidState : _} {k1_InvalidState : _} {k2_InvalidState : _} {k3_InvalidState : _} {k5_InvalidState : _}
    (xL_InvalidState : K.lookup C_InvalidState = some (excClassObj nm_InvalidState q_InvalidState C_InvalidState N_InvalidState bs_InvalidState bm_InvalidState true sn_InvalidState sub_InvalidState ab_InvalidState col_InvalidState dd_InvalidState k0_InvalidState k1_InvalidState k2_InvalidState k3_InvalidState k5_InvalidState "ValueError.__new__")) (rv_InvalidState : PySem.HandSPX.refsVE bm_InvalidState = true)
    {I_InvalidState : Addr} {iod_InvalidState ian_InvalidState : Option Addr} {isl_InvalidState : Array (Option Value)} {ioc_InvalidState ikV_InvalidState idc_InvalidState ipm_InvalidState icd_InvalidState ict_InvalidState : Value}
    (ic_InvalidState : PySem.W.findIn K (.ref C_InvalidState) "__init__" = some (some (.ref I_InvalidState))) (oa_InvalidState : PySem.W.findIn K (.ref C_InvalidState) "__setattr__" = some (some (.builtin "object.__setattr__"))) (oe_InvalidState : PySem.W.findIn K (.ref C_InvalidState) "value" = some none) (of_InvalidState : PySem.W.typeIn K (.ref I_InvalidState) = some (.type "function"))
    (il_InvalidState : K.lookup I_InvalidState = some ⟨ioc_InvalidState, iod_InvalidState, .func (PySem.W.fnOf "__init__" "InvalidState.__init__" (defArgs s_init_InvalidState) (defBody s_init_InvalidState) (defScope s_init_InvalidState) .none ikV_InvalidState idc_InvalidState ipm_InvalidState ian_InvalidState icd_InvalidState ict_InvalidState), isl_InvalidState⟩) (ie_InvalidState : PySem.W.codeIn K icd_InvalidState "InvalidState.__init__" = true) (ik_InvalidState : PySem.W.keepIn K (.ref I_InvalidState) = true)
    {C_InvalidMerge : Addr} (ac_InvalidMerge : PySem.W.nsIn K mainGlobals "InvalidMerge" = some (some (.ref C_InvalidMerge))) (kc_InvalidMerge : PySem.W.keepIn K (.ref C_InvalidMerge) = true) {kd_InvalidMerge : ClassData} (kl_InvalidMerge : PySem.W.clsIn K C_InvalidMerge = some kd_InvalidMerge) (kt_InvalidMerge : PySem.W.typeIn K (.ref C_InvalidMerge) = some (.type "type"))
    (xp_InvalidMerge : PySem.W.findIn K (.ref C_InvalidMerge) "__getattribute__" = some (some (.builtin "BaseException.__getattribute__"))) (xq_InvalidMerge : PySem.W.findIn K (.ref C_InvalidMerge) "__getattr__" = some none) (xr_InvalidMerge : PySem.W.subIn K (.ref C_InvalidMerge) (.type "BaseException") = some true) (xs_InvalidMerge : PySem.W.hasDictIn K C_InvalidMerge = true) (xt_InvalidMerge : PySem.W.findIn K (.ref C_InvalidMerge) "__class__" = some (some (.builtin "object.__class__"))) (xu_InvalidMerge : PySem.W.mroIn K C_InvalidMerge (.type "object") = some true)
    {nm_InvalidMerge q_InvalidMerge : Str} {N_InvalidMerge : Addr} {bs_InvalidMerge bm_InvalidMerge : List Value} {sn_InvalidMerge : _} {sub_InvalidMerge : _} {ab_InvalidMerge : _} {col_InvalidMerge : _} {dd_InvalidMerge : _} {k0_InvalidMerge : _} {k1_InvalidMerge : _} {k2_InvalidMerge : _} {k3_InvalidMerge : _} {k5_InvalidMerge : _}
    (xL_InvalidMerge : K.lookup C_InvalidMerge = some (excClassObj nm_InvalidMerge q_InvalidMerge C_InvalidMerge N_InvalidMerge bs_InvalidMerge bm_InvalidMerge true sn_InvalidMerge sub_InvalidMerge ab_InvalidMerge col_InvalidMerge dd_InvalidMerge k0_InvalidMerge k1_InvalidMerge k2_InvalidMerge k3_InvalidMerge k5_InvalidMerge "ValueError.__new__")) (rv_InvalidMerge : PySem.HandSPX.refsVE bm_InvalidMerge = true)
    {I_InvalidMerge : Addr} {iod_InvalidMerge ian_InvalidMerge : Option Addr} {isl_InvalidMerge : Array (Option Value)} {ioc_InvalidMerge ikV_InvalidMerge idc_InvalidMerge ipm_InvalidMerge icd_InvalidMerge ict_InvalidMerge : Value}
    (ic_InvalidMerge : PySem.W.findIn K (.ref C_InvalidMerge) "__init__" = some (some (.ref I_InvalidMerge))) (oa_InvalidMerge : PySem.W.findIn K (.ref C_InvalidMerge) "__setattr__" = some (some (.builtin "object.__setattr__"))) (oe_InvalidMerge : PySem.W.findIn K (.ref C_InvalidMerge) "value" = some none) (of_InvalidMerge : PySem.W.typeIn K (.ref I_InvalidMerge) = some (.type "function"))
    (il_InvalidMerge : K.lookup I_InvalidMerge = some ⟨ioc_InvalidMerge, iod_InvalidMerge, .func (PySem.W.fnOf "__init__" "InvalidMerge.__init__" (defArgs s_init_InvalidMerge) (defBody s_init_InvalidMerge) (defScope s_init_InvalidMerge) .none ikV_InvalidMerge idc_InvalidMerge ipm_InvalidMerge ian_InvalidMerge icd_InvalidMerge ict_InvalidMerge), isl_InvalidMerge⟩) (ie_InvalidMerge : PySem.W.codeIn K icd_InvalidMerge "InvalidMerge.__init__" = true) (ik_InvalidMerge : PySem.W.keepIn K (.ref I_InvalidMerge) = true)
    (gsp : PySem.W.specialIn K (.builtin "object.__class__") "__get__" = some (some (.builtin "getset_descriptor.__get__"))) (gta : PySem.W.takesIn K (.builtin "object.__class__") = some true) (kits : kitT [(C_InvalidSchedule, kd_InvalidSchedule.mro), (C_InvalidCount, kd_InvalidCount.mro), (C_InvalidBudget, kd_InvalidBudget.mro), (C_InvalidState, kd_InvalidState.mro), (C_InvalidMerge, kd_InvalidMerge.mro)] C_MergeBudgetError = true) (kitn : decide ([C_InvalidSchedule, C_InvalidCount, C_InvalidBudget, C_InvalidState, C_InvalidMerge].Nodup) = true) (kitz : decide (C_MergeBudgetError ∈ [C_InvalidSchedule, C_InvalidCount, C_InvalidBudget, C_InvalidState, C_InvalidMerge]) = false)
    : ∃ (fd : FuncData) (cs : List (Addr × Addr)), (∀ p ∈ cs, h.get? p.2 = some { cls := .none, data := .fields #[] }) ∧ (∀ p ∈ cs, K.lookup p.2 = none) ∧ (∀ p ∈ cs, PySem.W.CodeHd h p.1 p.2) ∧ (∀ p ∈ cs, p.1 ≠ sysModules ∧ p.2 ≠ sysModules) ∧ (∀ (s : Shared) (v : Value), BindsTo s fd ⟨[v], []⟩ [("_law_script", v)]) ∧ (∀ base : Heap, K.In base → base.Ns mainGlobals mg → (∀ p ∈ cs, LamX.TabB base mg p.1 p.2) → FnG l.prog w K mg base CX0 10 fa fd ["_law_script"] (sp_law K cs)) ∧ ∀ (H : Hp) (a : Addr) (ns : List Int) (o : HO), ns.length ≤ 63 → SqL K H a (ns.map V.int) → H sysModules = some o → (∀ ps, o ≠ .tbl ps) → (∀ p ∈ cs, H p.2 = some (.tbl #[])) → sp_law K cs [.ref a] H (fun v _ => v = .bl true) fun _ _ _ => False := by
  have e := hfa.symm.trans (PySem.W.mg_of X G a_law)
  cases e
  have F_is_int := fun_mk (st := s_is_int) l_is_int c_is_int k_is_int
  have B_is_int := F_is_int.binds (ps := ["value"]) fun _ _ _ _ _ _ us hl => match us, hl with | [_], _ => rfl
  have F_is_count := fun_mk (st := s_is_count) l_is_count c_is_count k_is_count
  have B_is_count := F_is_count.binds (ps := ["value"]) fun _ _ _ _ _ _ us hl => match us, hl with | [_], _ => rfl
  have F_is_count_up_to := fun_mk (st := s_is_count_up_to) l_is_count_up_to c_is_count_up_to k_is_count_up_to
  have B_is_count_up_to := F_is_count_up_to.binds (ps := ["value", "most"]) fun _ _ _ _ _ _ us hl => match us, hl with | [_, _], _ => rfl
  have F_choose := fun_mk (st := s_choose) l_choose c_choose k_choose
  have B_choose := F_choose.binds (ps := ["n", "k"]) fun _ _ _ _ _ _ us hl => match us, hl with | [_, _], _ => rfl
  have F_least_writes := fun_mk (st := s_least_writes) l_least_writes c_least_writes k_least_writes
  have B_least_writes := F_least_writes.binds (ps := ["n", "k"]) fun _ _ _ _ _ _ us hl => match us, hl with | [_, _], _ => rfl
  have F_check_number := fun_mk (st := s_check_number) l_check_number c_check_number k_check_number
  have B_check_number := F_check_number.binds (ps := ["number", "most"]) fun _ _ _ _ _ _ us hl => match us, hl with | [_, _], _ => rfl
  have F_check_runs := fun_mk (st := s_check_runs) l_check_runs c_check_runs k_check_runs
  have B_check_runs := F_check_runs.binds (ps := ["k"]) fun _ _ _ _ _ _ us hl => match us, hl with | [_], _ => rfl
  have F_writes_needed := fun_mk (st := s_writes_needed) l_writes_needed c_writes_needed k_writes_needed
  have B_writes_needed := F_writes_needed.binds (ps := ["n", "k"]) fun _ _ _ _ _ _ us hl => match us, hl with | [_, _], _ => rfl
  have F_policy_merge := fun_mk (st := s_policy_merge) l_policy_merge c_policy_merge k_policy_merge
  have B_policy_merge := F_policy_merge.binds (ps := ["k", "i"]) fun _ _ _ _ _ _ us hl => match us, hl with | [_, _], _ => rfl
  have F_run_lengths := fun_mk (st := s_run_lengths) l_run_lengths c_run_lengths k_run_lengths
  have B_run_lengths := F_run_lengths.binds (ps := ["k", "n"]) fun _ _ _ _ _ _ us hl => match us, hl with | [_, _], _ => rfl
  have F_policy_runs := fun_mk (st := s_policy_runs) l_policy_runs c_policy_runs k_policy_runs
  have B_policy_runs := F_policy_runs.binds (ps := ["k", "n"]) fun _ _ _ _ _ _ us hl => match us, hl with | [_, _], _ => rfl
  have F_policy_schedule := fun_mk (st := s_policy_schedule) l_policy_schedule c_policy_schedule k_policy_schedule
  have B_policy_schedule := F_policy_schedule.binds (ps := ["k", "n"]) fun _ _ _ _ _ _ us hl => match us, hl with | [_, _], _ => rfl
  have F_L_s5_hand := fun_mk (st := s_L_s5_hand) l_L_s5_hand c_L_s5_hand k_L_s5_hand
  have B_L_s5_hand := F_L_s5_hand.binds (ps := ["_law_script", "_law_nth"]) fun _ _ _ _ _ _ us hl => match us, hl with | [_, _], _ => rfl
  have F_L_s5_take := fun_mk (st := s_L_s5_take) l_L_s5_take c_L_s5_take k_L_s5_take
  have B_L_s5_take := F_L_s5_take.binds (ps := ["_law_hand", "_law_size"]) fun _ _ _ _ _ _ us hl => match us, hl with | [_, _], _ => rfl
  have F_L_s5_of := fun_mk (st := s_L_s5_of) l_L_s5_of c_L_s5_of k_L_s5_of
  have B_L_s5_of := F_L_s5_of.binds (ps := ["_law_hand", "_law_options"]) fun _ _ _ _ _ _ us hl => match us, hl with | [_, _], _ => rfl
  have F_L_s5_odd := fun_mk (st := s_L_s5_odd) l_L_s5_odd c_L_s5_odd k_L_s5_odd
  have B_L_s5_odd := F_L_s5_odd.binds (ps := ["_law_low", "_law_high"]) fun _ _ _ _ _ _ us hl => match us, hl with | [_, _], _ => rfl
  have F_L_s5_nested := fun_mk (st := s_L_s5_nested) l_L_s5_nested c_L_s5_nested k_L_s5_nested
  have B_L_s5_nested := F_L_s5_nested.binds (ps := ["_law_hand", "_law_item"]) fun _ _ _ _ _ _ us hl => match us, hl with | [_, _], _ => rfl
  have F_L_s5_met := fun_mk (st := s_L_s5_met) l_L_s5_met c_L_s5_met k_L_s5_met
  have B_L_s5_met := F_L_s5_met.binds (ps := ["_law_call"]) fun _ _ _ _ _ _ us hl => match us, hl with | [_], _ => rfl
  have F_L_s5_both_right := fun_mk (st := s_L_s5_both_right) l_L_s5_both_right c_L_s5_both_right k_L_s5_both_right
  have B_L_s5_both_right := F_L_s5_both_right.binds (ps := ["_law_room", "_law_total", "_law_bad_k", "_law_bad_n", "_law_bad_short"]) fun _ _ _ _ _ _ us hl => match us, hl with | [_, _, _, _, _], _ => rfl
  have F_law := fun_mk (st := s_law) l_law c_law k_law
  have B_law := F_law.binds (ps := ["_law_script"]) fun _ _ _ _ _ _ us hl => match us, hl with | [_], _ => rfl
  have FI_InvalidSchedule := fun_mk (st := s_init_InvalidSchedule) il_InvalidSchedule ie_InvalidSchedule ik_InvalidSchedule
  have BI_InvalidSchedule := FI_InvalidSchedule.binds (ps := ["self", "value"]) fun _ _ _ _ _ _ us hl => match us, hl with | [_, _], _ => rfl
  have FI_InvalidCount := fun_mk (st := s_init_InvalidCount) il_InvalidCount ie_InvalidCount ik_InvalidCount
  have BI_InvalidCount := FI_InvalidCount.binds (ps := ["self", "value"]) fun _ _ _ _ _ _ us hl => match us, hl with | [_, _], _ => rfl
  have FI_InvalidBudget := fun_mk (st := s_init_InvalidBudget) il_InvalidBudget ie_InvalidBudget ik_InvalidBudget
  have BI_InvalidBudget := FI_InvalidBudget.binds (ps := ["self", "value"]) fun _ _ _ _ _ _ us hl => match us, hl with | [_, _], _ => rfl
  have FI_InvalidState := fun_mk (st := s_init_InvalidState) il_InvalidState ie_InvalidState ik_InvalidState
  have BI_InvalidState := FI_InvalidState.binds (ps := ["self", "value"]) fun _ _ _ _ _ _ us hl => match us, hl with | [_, _], _ => rfl
  have FI_InvalidMerge := fun_mk (st := s_init_InvalidMerge) il_InvalidMerge ie_InvalidMerge ik_InvalidMerge
  have BI_InvalidMerge := FI_InvalidMerge.binds (ps := ["self", "value"]) fun _ _ _ _ _ _ us hl => match us, hl with | [_, _], _ => rfl
  have KT := kitB_mk (K := K) (m := C_MergeBudgetError) [(C_InvalidSchedule, kd_InvalidSchedule), (C_InvalidCount, kd_InvalidCount), (C_InvalidBudget, kd_InvalidBudget), (C_InvalidState, kd_InvalidState), (C_InvalidMerge, kd_InvalidMerge)] (by simp only [List.forall_mem_cons, List.not_mem_nil, false_implies, implies_true, and_true]; exact ⟨⟨kl_InvalidSchedule, kt_InvalidSchedule⟩, ⟨kl_InvalidCount, kt_InvalidCount⟩, ⟨kl_InvalidBudget, kt_InvalidBudget⟩, ⟨kl_InvalidState, kt_InvalidState⟩, ⟨kl_InvalidMerge, kt_InvalidMerge⟩⟩) kl_MergeBudgetError kt_MergeBudgetError kits
  let TX : Tx K mg := ⟨_, _, F_is_int, PySem.W.mg_of X G a_is_int, B_is_int, _, _, F_is_count, PySem.W.mg_of X G a_is_count, B_is_count, _, _, F_is_count_up_to, PySem.W.mg_of X G a_is_count_up_to, B_is_count_up_to, _, _, F_choose, PySem.W.mg_of X G a_choose, B_choose, _, _, F_least_writes, PySem.W.mg_of X G a_least_writes, B_least_writes, _, _, F_check_number, PySem.W.mg_of X G a_check_number, B_check_number, _, _, F_check_runs, PySem.W.mg_of X G a_check_runs, B_check_runs, _, _, F_writes_needed, PySem.W.mg_of X G a_writes_needed, B_writes_needed, _, _, F_policy_merge, PySem.W.mg_of X G a_policy_merge, B_policy_merge, _, _, F_run_lengths, PySem.W.mg_of X G a_run_lengths, B_run_lengths, _, _, F_policy_runs, PySem.W.mg_of X G a_policy_runs, B_policy_runs, _, _, F_policy_schedule, PySem.W.mg_of X G a_policy_schedule, B_policy_schedule, _, _, F_L_s5_hand, PySem.W.mg_of X G a_L_s5_hand, B_L_s5_hand, _, _, F_L_s5_take, PySem.W.mg_of X G a_L_s5_take, B_L_s5_take, _, _, F_L_s5_of, PySem.W.mg_of X G a_L_s5_of, B_L_s5_of, _, _, F_L_s5_odd, PySem.W.mg_of X G a_L_s5_odd, B_L_s5_odd, _, _, F_L_s5_nested, PySem.W.mg_of X G a_L_s5_nested, B_L_s5_nested, _, _, F_L_s5_met, PySem.W.mg_of X G a_L_s5_met, B_L_s5_met, _, _, F_L_s5_both_right, PySem.W.mg_of X G a_L_s5_both_right, B_L_s5_both_right, _, _, F_law, PySem.W.mg_of X G a_law, B_law, PySem.W.mg_none_of X G z_isinstance, PySem.W.mg_none_of X G z_int, PySem.W.mg_none_of X G z_bool, PySem.W.mg_none_of X G z_range, PySem.W.mg_none_of X G z_min, PySem.W.mg_none_of X G z_len, PySem.W.mg_none_of X G z_tuple, PySem.W.mg_none_of X G z_abs, PySem.W.mg_none_of X G z_ValueError, PySem.W.mg_none_of X G z_all, PySem.W.mg_none_of X G z_repr, PySem.W.mg_none_of X G z_max, _, PySem.W.mg_of X G ac_MergeBudgetError, kc_MergeBudgetError, ⟨xp_MergeBudgetError, xq_MergeBudgetError, xr_MergeBudgetError, xs_MergeBudgetError, xt_MergeBudgetError, gsp, gta, xu_MergeBudgetError⟩, ⟨xp_MergeBudgetError, xq_MergeBudgetError, xr_MergeBudgetError, xs_MergeBudgetError⟩, xi_MergeBudgetError, _, PySem.W.mg_of X G ac_InvalidSchedule, kc_InvalidSchedule, ⟨xp_InvalidSchedule, xq_InvalidSchedule, xr_InvalidSchedule, xs_InvalidSchedule, xt_InvalidSchedule, gsp, gta, xu_InvalidSchedule⟩, ⟨xp_InvalidSchedule, xq_InvalidSchedule, xr_InvalidSchedule, xs_InvalidSchedule⟩, ⟨⟨_, _, _, _, _, _, _, _, _, _, _, _, _, _, _, xL_InvalidSchedule, rv_InvalidSchedule⟩, oa_InvalidSchedule, xr_InvalidSchedule, kt_InvalidSchedule, kc_InvalidSchedule⟩, oe_InvalidSchedule, _, _, ic_InvalidSchedule, of_InvalidSchedule, FI_InvalidSchedule, BI_InvalidSchedule, _, PySem.W.mg_of X G ac_InvalidCount, kc_InvalidCount, ⟨xp_InvalidCount, xq_InvalidCount, xr_InvalidCount, xs_InvalidCount, xt_InvalidCount, gsp, gta, xu_InvalidCount⟩, ⟨xp_InvalidCount, xq_InvalidCount, xr_InvalidCount, xs_InvalidCount⟩, ⟨⟨_, _, _, _, _, _, _, _, _, _, _, _, _, _, _, xL_InvalidCount, rv_InvalidCount⟩, oa_InvalidCount, xr_InvalidCount, kt_InvalidCount, kc_InvalidCount⟩, oe_InvalidCount, _, _, ic_InvalidCount, of_InvalidCount, FI_InvalidCount, BI_InvalidCount, _, PySem.W.mg_of X G ac_InvalidBudget, kc_InvalidBudget, ⟨xp_InvalidBudget, xq_InvalidBudget, xr_InvalidBudget, xs_InvalidBudget, xt_InvalidBudget, gsp, gta, xu_InvalidBudget⟩, ⟨xp_InvalidBudget, xq_InvalidBudget, xr_InvalidBudget, xs_InvalidBudget⟩, ⟨⟨_, _, _, _, _, _, _, _, _, _, _, _, _, _, _, xL_InvalidBudget, rv_InvalidBudget⟩, oa_InvalidBudget, xr_InvalidBudget, kt_InvalidBudget, kc_InvalidBudget⟩, oe_InvalidBudget, _, _, ic_InvalidBudget, of_InvalidBudget, FI_InvalidBudget, BI_InvalidBudget, _, PySem.W.mg_of X G ac_InvalidState, kc_InvalidState, ⟨xp_InvalidState, xq_InvalidState, xr_InvalidState, xs_InvalidState, xt_InvalidState, gsp, gta, xu_InvalidState⟩, ⟨xp_InvalidState, xq_InvalidState, xr_InvalidState, xs_InvalidState⟩, ⟨⟨_, _, _, _, _, _, _, _, _, _, _, _, _, _, _, xL_InvalidState, rv_InvalidState⟩, oa_InvalidState, xr_InvalidState, kt_InvalidState, kc_InvalidState⟩, oe_InvalidState, _, _, ic_InvalidState, of_InvalidState, FI_InvalidState, BI_InvalidState, _, PySem.W.mg_of X G ac_InvalidMerge, kc_InvalidMerge, ⟨xp_InvalidMerge, xq_InvalidMerge, xr_InvalidMerge, xs_InvalidMerge, xt_InvalidMerge, gsp, gta, xu_InvalidMerge⟩, ⟨xp_InvalidMerge, xq_InvalidMerge, xr_InvalidMerge, xs_InvalidMerge⟩, ⟨⟨_, _, _, _, _, _, _, _, _, _, _, _, _, _, _, xL_InvalidMerge, rv_InvalidMerge⟩, oa_InvalidMerge, xr_InvalidMerge, kt_InvalidMerge, kc_InvalidMerge⟩, oe_InvalidMerge, _, _, ic_InvalidMerge, of_InvalidMerge, FI_InvalidMerge, BI_InvalidMerge, KT, of_decide_eq_true kitn, of_decide_eq_false kitz, cdA_L_s5_both_right, ptA_L_s5_both_right, ⟨_, _, _, _, _, _, _, _, rfl, l_L_s5_both_right, c_L_s5_both_right⟩, _, PySem.W.mg_of X G y_MOST_BUDGET, _, PySem.W.mg_of X G y_MOST_FLUSHES, _, PySem.W.mg_of X G y_MOST_POSITION⟩
  exact ⟨TX.fd_law, [(cdA_L_s5_both_right, ptA_L_s5_both_right)], (fun p hp => by rcases List.mem_cons.mp hp with e | hp; (rw [e]; exact tbA _ (by simp)); cases hp), (fun p hp => by rcases List.mem_cons.mp hp with e | hp; (rw [e]; exact ntA_L_s5_both_right); cases hp), (fun p hp => by rcases List.mem_cons.mp hp with e | hp; (rw [e]; exact PySem.W.codeHd_of_K X hdA_L_s5_both_right); cases hp), (fun p hp => by rcases List.mem_cons.mp hp with e | hp; (rw [e]; exact of_decide_eq_true nyA_L_s5_both_right); cases hp), fun s v => .of_eq rfl, fun base _ _ tb => ok_law TX (tb (cdA_L_s5_both_right, ptA_L_s5_both_right) (by simp)), fun H a ns o h1 h2 h3 h3b h4 => ⟨a, ns, o, rfl, h2, h1, h3, h3b, h4, fun _ => rfl⟩⟩
end MB
open PySem PySem.W PyProof.Rows
set_option maxHeartbeats 0 in
theorem PySem.Challenge.cw_mergebudget_k27_policies_refused_holds : PySem.Challenge.rw_mergebudget_k27_policies_refused.Holds := by
  w_on; o_law; k_head; (case hw => w_witness2)
  k_fill
  refine MB.walk_ofT (l := PySem.Challenge.rw_mergebudget_k27_policies_refused) (n := 63) (k := 10) (x := "_law_script") (sp := MB.sp_law) rfl (by decide) rfl ⟨rfl, by decide, by decide⟩ (by decide +kernel) ?KS (fun w h Y => PySem.W.km_in_of Y) ?F
  case F =>
    intro w mg fa h Y KX G hmg
    refine' MB.all_mk KX G hmg ?a_is_int ?l_is_int ?c_is_int ?k_is_int ?a_is_count ?l_is_count ?c_is_count ?k_is_count ?a_is_count_up_to ?l_is_count_up_to ?c_is_count_up_to ?k_is_count_up_to ?a_choose ?l_choose ?c_choose ?k_choose ?a_least_writes ?l_least_writes ?c_least_writes ?k_least_writes ?a_check_number ?l_check_number ?c_check_number ?k_check_number ?a_check_runs ?l_check_runs ?c_check_runs ?k_check_runs ?a_writes_needed ?l_writes_needed ?c_writes_needed ?k_writes_needed ?a_policy_merge ?l_policy_merge ?c_policy_merge ?k_policy_merge ?a_run_lengths ?l_run_lengths ?c_run_lengths ?k_run_lengths ?a_policy_runs ?l_policy_runs ?c_policy_runs ?k_policy_runs ?a_policy_schedule ?l_policy_schedule ?c_policy_schedule ?k_policy_schedule ?a_L_s5_hand ?l_L_s5_hand ?c_L_s5_hand ?k_L_s5_hand ?a_L_s5_take ?l_L_s5_take ?c_L_s5_take ?k_L_s5_take ?a_L_s5_of ?l_L_s5_of ?c_L_s5_of ?k_L_s5_of ?a_L_s5_odd ?l_L_s5_odd ?c_L_s5_odd ?k_L_s5_odd ?a_L_s5_nested ?l_L_s5_nested ?c_L_s5_nested ?k_L_s5_nested ?a_L_s5_met ?l_L_s5_met ?c_L_s5_met ?k_L_s5_met ?a_L_s5_both_right ?l_L_s5_both_right ?c_L_s5_both_right ?k_L_s5_both_right ?a_law ?l_law ?c_law ?k_law ?tbA ?hdA_L_s5_both_right ?ntA_L_s5_both_right ?nyA_L_s5_both_right ?z_isinstance ?z_int ?z_bool ?z_range ?z_min ?z_len ?z_tuple ?z_abs ?z_ValueError ?z_all ?z_repr ?z_max ?y_MOST_BUDGET ?y_MOST_FLUSHES ?y_MOST_POSITION ?ac_MergeBudgetError ?kc_MergeBudgetError ?kl_MergeBudgetError ?kt_MergeBudgetError ?xp_MergeBudgetError ?xq_MergeBudgetError ?xr_MergeBudgetError ?xs_MergeBudgetError ?xt_MergeBudgetError ?xu_MergeBudgetError ?xi_MergeBudgetError ?ac_InvalidSchedule ?kc_InvalidSchedule ?kl_InvalidSchedule ?kt_InvalidSchedule ?xp_InvalidSchedule ?xq_InvalidSchedule ?xr_InvalidSchedule ?xs_InvalidSchedule ?xt_InvalidSchedule ?xu_InvalidSchedule ?xL_InvalidSchedule ?rv_InvalidSchedule ?ic_InvalidSchedule ?oa_InvalidSchedule ?oe_InvalidSchedule ?of_InvalidSchedule ?il_InvalidSchedule ?ie_InvalidSchedule ?ik_InvalidSchedule ?ac_InvalidCount ?kc_InvalidCount ?kl_InvalidCount ?kt_InvalidCount ?xp_InvalidCount ?xq_InvalidCount ?xr_InvalidCount ?xs_InvalidCount ?xt_InvalidCount ?xu_InvalidCount ?xL_InvalidCount ?rv_InvalidCount ?ic_InvalidCount ?oa_InvalidCount ?oe_InvalidCount ?of_InvalidCount ?il_InvalidCount ?ie_InvalidCount ?ik_InvalidCount ?ac_InvalidBudget ?kc_InvalidBudget ?kl_InvalidBudget ?kt_InvalidBudget ?xp_InvalidBudget ?xq_InvalidBudget ?xr_InvalidBudget ?xs_InvalidBudget ?xt_InvalidBudget ?xu_InvalidBudget ?xL_InvalidBudget ?rv_InvalidBudget ?ic_InvalidBudget ?oa_InvalidBudget ?oe_InvalidBudget ?of_InvalidBudget ?il_InvalidBudget ?ie_InvalidBudget ?ik_InvalidBudget ?ac_InvalidState ?kc_InvalidState ?kl_InvalidState ?kt_InvalidState ?xp_InvalidState ?xq_InvalidState ?xr_InvalidState ?xs_InvalidState ?xt_InvalidState ?xu_InvalidState ?xL_InvalidState ?rv_InvalidState ?ic_InvalidState ?oa_InvalidState ?oe_InvalidState ?of_InvalidState ?il_InvalidState ?ie_InvalidState ?ik_InvalidState ?ac_InvalidMerge ?kc_InvalidMerge ?kl_InvalidMerge ?kt_InvalidMerge ?xp_InvalidMerge ?xq_InvalidMerge ?xr_InvalidMerge ?xs_InvalidMerge ?xt_InvalidMerge ?xu_InvalidMerge ?xL_InvalidMerge ?rv_InvalidMerge ?ic_InvalidMerge ?oa_InvalidMerge ?oe_InvalidMerge ?of_InvalidMerge ?il_InvalidMerge ?ie_InvalidMerge ?ik_InvalidMerge ?gsp ?gta ?kits ?kitn ?kitz
    (case a_is_int => k_is); (case l_is_int => k_is); (case c_is_int => k_is); (case k_is_int => k_is); (case a_is_count => k_is); (case l_is_count => k_is); (case c_is_count => k_is); (case k_is_count => k_is); (case a_is_count_up_to => k_is); (case l_is_count_up_to => k_is); (case c_is_count_up_to => k_is); (case k_is_count_up_to => k_is); (case a_choose => k_is); (case l_choose => k_is); (case c_choose => k_is); (case k_choose => k_is); (case a_least_writes => k_is); (case l_least_writes => k_is); (case c_least_writes => k_is); (case k_least_writes => k_is); (case a_check_number => k_is); (case l_check_number => k_is); (case c_check_number => k_is); (case k_check_number => k_is); (case a_check_runs => k_is); (case l_check_runs => k_is); (case c_check_runs => k_is); (case k_check_runs => k_is); (case a_writes_needed => k_is); (case l_writes_needed => k_is); (case c_writes_needed => k_is); (case k_writes_needed => k_is); (case a_policy_merge => k_is); (case l_policy_merge => k_is); (case c_policy_merge => k_is); (case k_policy_merge => k_is); (case a_run_lengths => k_is); (case l_run_lengths => k_is); (case c_run_lengths => k_is); (case k_run_lengths => k_is); (case a_policy_runs => k_is); (case l_policy_runs => k_is); (case c_policy_runs => k_is); (case k_policy_runs => k_is); (case a_policy_schedule => k_is); (case l_policy_schedule => k_is); (case c_policy_schedule => k_is); (case k_policy_schedule => k_is); (case a_L_s5_hand => k_is); (case l_L_s5_hand => k_is); (case c_L_s5_hand => k_is); (case k_L_s5_hand => k_is); (case a_L_s5_take => k_is); (case l_L_s5_take => k_is); (case c_L_s5_take => k_is); (case k_L_s5_take => k_is); (case a_L_s5_of => k_is); (case l_L_s5_of => k_is); (case c_L_s5_of => k_is); (case k_L_s5_of => k_is); (case a_L_s5_odd => k_is); (case l_L_s5_odd => k_is); (case c_L_s5_odd => k_is); (case k_L_s5_odd => k_is); (case a_L_s5_nested => k_is); (case l_L_s5_nested => k_is); (case c_L_s5_nested => k_is); (case k_L_s5_nested => k_is); (case a_L_s5_met => k_is); (case l_L_s5_met => k_is); (case c_L_s5_met => k_is); (case k_L_s5_met => k_is); (case a_L_s5_both_right => k_is); (case l_L_s5_both_right => k_is); (case c_L_s5_both_right => k_is); (case k_L_s5_both_right => k_is); (case a_law => k_is); (case l_law => k_is); (case c_law => k_is); (case k_law => k_is); (case tbA => exact PySem.W.km_tabs_of Y); (case hdA_L_s5_both_right => first | k_is | rfl | decide +kernel); (case ntA_L_s5_both_right => first | k_is | rfl | decide +kernel); (case nyA_L_s5_both_right => first | k_is | rfl | decide +kernel); (case z_isinstance => k_is); (case z_int => k_is); (case z_bool => k_is); (case z_range => k_is); (case z_min => k_is); (case z_len => k_is); (case z_tuple => k_is); (case z_abs => k_is); (case z_ValueError => k_is); (case z_all => k_is); (case z_repr => k_is); (case z_max => k_is); (case y_MOST_BUDGET => k_is); (case y_MOST_FLUSHES => k_is); (case y_MOST_POSITION => k_is); (case ac_MergeBudgetError => k_is); (case kc_MergeBudgetError => k_is); (case kl_MergeBudgetError => k_is); (case kt_MergeBudgetError => k_is); (case xp_MergeBudgetError => k_is); (case xq_MergeBudgetError => k_is); (case xr_MergeBudgetError => k_is); (case xs_MergeBudgetError => k_is); (case xt_MergeBudgetError => k_is); (case xu_MergeBudgetError => k_is); (case xi_MergeBudgetError => first | k_exc | k_is); (case ac_InvalidSchedule => k_is); (case kc_InvalidSchedule => k_is); (case kl_InvalidSchedule => k_is); (case kt_InvalidSchedule => k_is); (case xp_InvalidSchedule => k_is); (case xq_InvalidSchedule => k_is); (case xr_InvalidSchedule => k_is); (case xs_InvalidSchedule => k_is); (case xt_InvalidSchedule => k_is); (case xu_InvalidSchedule => k_is); (case xL_InvalidSchedule => k_is); (case rv_InvalidSchedule => decide +kernel); (case ic_InvalidSchedule => k_is); (case oa_InvalidSchedule => k_is); (case oe_InvalidSchedule => k_is); (case of_InvalidSchedule => k_is); (case il_InvalidSchedule => k_is); (case ie_InvalidSchedule => k_is); (case ik_InvalidSchedule => k_is); (case ac_InvalidCount => k_is); (case kc_InvalidCount => k_is); (case kl_InvalidCount => k_is); (case kt_InvalidCount => k_is); (case xp_InvalidCount => k_is); (case xq_InvalidCount => k_is); (case xr_InvalidCount => k_is); (case xs_InvalidCount => k_is); (case xt_InvalidCount => k_is); (case xu_InvalidCount => k_is); (case xL_InvalidCount => k_is); (case rv_InvalidCount => decide +kernel); (case ic_InvalidCount => k_is); (case oa_InvalidCount => k_is); (case oe_InvalidCount => k_is); (case of_InvalidCount => k_is); (case il_InvalidCount => k_is); (case ie_InvalidCount => k_is); (case ik_InvalidCount => k_is); (case ac_InvalidBudget => k_is); (case kc_InvalidBudget => k_is); (case kl_InvalidBudget => k_is); (case kt_InvalidBudget => k_is); (case xp_InvalidBudget => k_is); (case xq_InvalidBudget => k_is); (case xr_InvalidBudget => k_is); (case xs_InvalidBudget => k_is); (case xt_InvalidBudget => k_is); (case xu_InvalidBudget => k_is); (case xL_InvalidBudget => k_is); (case rv_InvalidBudget => decide +kernel); (case ic_InvalidBudget => k_is); (case oa_InvalidBudget => k_is); (case oe_InvalidBudget => k_is); (case of_InvalidBudget => k_is); (case il_InvalidBudget => k_is); (case ie_InvalidBudget => k_is); (case ik_InvalidBudget => k_is); (case ac_InvalidState => k_is); (case kc_InvalidState => k_is); (case kl_InvalidState => k_is); (case kt_InvalidState => k_is); (case xp_InvalidState => k_is); (case xq_InvalidState => k_is); (case xr_InvalidState => k_is); (case xs_InvalidState => k_is); (case xt_InvalidState => k_is); (case xu_InvalidState => k_is); (case xL_InvalidState => k_is); (case rv_InvalidState => decide +kernel); (case ic_InvalidState => k_is); (case oa_InvalidState => k_is); (case oe_InvalidState => k_is); (case of_InvalidState => k_is); (case il_InvalidState => k_is); (case ie_InvalidState => k_is); (case ik_InvalidState => k_is); (case ac_InvalidMerge => k_is); (case kc_InvalidMerge => k_is); (case kl_InvalidMerge => k_is); (case kt_InvalidMerge => k_is); (case xp_InvalidMerge => k_is); (case xq_InvalidMerge => k_is); (case xr_InvalidMerge => k_is); (case xs_InvalidMerge => k_is); (case xt_InvalidMerge => k_is); (case xu_InvalidMerge => k_is); (case xL_InvalidMerge => k_is); (case rv_InvalidMerge => decide +kernel); (case ic_InvalidMerge => k_is); (case oa_InvalidMerge => k_is); (case oe_InvalidMerge => k_is); (case of_InvalidMerge => k_is); (case il_InvalidMerge => k_is); (case ie_InvalidMerge => k_is); (case ik_InvalidMerge => k_is); (case gsp => k_is); (case gta => k_is); (case kits => decide +kernel); (case kitn => decide +kernel); (case kitz => decide +kernel)
  case KS => exact fun p => by first | rfl | decide +kernel | k_is
