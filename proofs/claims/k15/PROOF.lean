import PyProof.Rows.All
import Wide.All
import OpenK.AllK
import Wide.FinOn
import HandS.ForMost
import HandS.IsInst
import HandS.Wide
import HandS.TupAny
import HandS.TupMul
import HandS.Rev
import HandS.Style
import HandS.Strs
import HandS.Walk
import KE.GoesEnum
import HandS.Dict
import HandS.TupSets
import KE.KDictPairs
import HandS.List
import KE.KRevSl
import PyProof.ReprRoads
import PyProof.ReprBulk
import HandS.WideMore
import HandS.WideBits
import HandS.SortKw
import HandS.SortInts
import KE.DataMinMax
import PySem.Challenge.RW_mergebudget_k15_stages_one_to_three_by_n
set_option Elab.async false
set_option linter.all false
set_option maxRecDepth 100000
namespace MB
inductive T where
  | nil
  | node (l r : T)
  deriving DecidableEq

namespace T
def size : T → Nat
  | nil => 0
  | node l r => l.size + 1 + r.size
def runs : T → Nat
  | nil => 0
  | node _ r => 1 + r.runs
def sch : T → List Nat
  | nil => []
  | node l r => l.sch ++ l.runs :: r.sch
def rc : T → List Nat
  | nil => []
  | node l r => l.rc ++ 1 :: r.rc.map (· + 1)
def wr : T → List Nat
  | nil => []
  | node l r => l.wr.map (· + 1) ++ 1 :: r.wr
/-- parents: off, the number of the first node; p, the parent of the root -/
def par (off p : Int) : T → List Int
  | nil => []
  | node l r => par off (off + l.size) l ++ p :: par (off + l.size + 1) (off + l.size) r
def mir : T → T
  | nil => nil
  | node l r => node r.mir l.mir
def push (t : T) (m : Nat) : T :=
  if m = t.runs then node t nil else match t with
    | nil => nil
    | node l r => node l (push r m)
/-- the first flush of the run that a flush that merges m writes -/
def start (t : T) (m : Nat) : Nat :=
  if m = t.runs then 0 else match t with
    | nil => 0
    | node l r => l.size + 1 + start r m
/-- the stack: intervals of the right spine -/
def stk (off : Nat) : T → List (Nat × Nat)
  | nil => []
  | node l r => (off, off + l.size + 1) :: stk (off + l.size + 1) r
def graft : T → T → T
  | nil, t => t
  | node l r, t => node l (graft r t)

theorem sch_len : ∀ t : T, t.sch.length = t.size
  | nil => rfl
  | node l r => by simp [sch, size, sch_len l, sch_len r]; omega
theorem rc_len : ∀ t : T, t.rc.length = t.size
  | nil => rfl
  | node l r => by simp [rc, size, rc_len l, rc_len r]; omega
theorem wr_len : ∀ t : T, t.wr.length = t.size
  | nil => rfl
  | node l r => by simp [wr, size, wr_len l, wr_len r]; omega
theorem par_len : ∀ (t : T) (off p : Int), (t.par off p).length = t.size
  | nil, _, _ => rfl
  | node l r, off, p => by simp [par, size, par_len l, par_len r]; omega
theorem runs_le : ∀ t : T, t.runs ≤ t.size
  | nil => Nat.le_refl _
  | node l r => by have := runs_le r; simp [runs, size]; omega
theorem sum_sch : ∀ t : T, t.sch.sum + t.runs = t.size
  | nil => rfl
  | node l r => by
    have h1 := sum_sch l; have h2 := sum_sch r
    simp [sch, runs, size, List.sum_append]; omega
theorem stk_len : ∀ (t : T) (off : Nat), (t.stk off).length = t.runs
  | nil, _ => rfl
  | node l r, off => by simp [stk, runs, stk_len r]; omega

/-! ### push -/
theorem push_eq {t : T} : t.push t.runs = node t nil := by
  unfold push; rw [if_pos rfl]
theorem push_node {l r : T} {m : Nat} (h : m ≤ r.runs) : (node l r).push m = node l (r.push m) := by
  conv => lhs; unfold push
  rw [if_neg (by simp [runs]; omega)]
theorem start_eq {t : T} : t.start t.runs = 0 := by
  unfold start; rw [if_pos rfl]
theorem start_node {l r : T} {m : Nat} (h : m ≤ r.runs) : (node l r).start m = l.size + 1 + r.start m := by
  conv => lhs; unfold start
  rw [if_neg (by simp [runs]; omega)]
/-- the two ways of a push -/
theorem push_ind {C : T → Nat → Prop} (h1 : ∀ t, C t t.runs) (h2 : ∀ l r m, m ≤ r.runs → C r m → C (node l r) m) : ∀ (t : T) (m : Nat), m ≤ t.runs → C t m
  | nil, m, h => by
    have : m = nil.runs := by simp [runs] at h ⊢; omega
    rw [this]; exact h1 nil
  | node l r, m, h => by
    by_cases e : m = (node l r).runs
    · rw [e]; exact h1 _
    · have hm : m ≤ r.runs := by simp [runs] at h e; omega
      exact h2 l r m hm (push_ind h1 h2 r m hm)
theorem push_sch : ∀ (t : T) (m : Nat), m ≤ t.runs → (t.push m).sch = t.sch ++ [m] :=
  push_ind (fun t => by rw [push_eq]; simp [sch]) fun l r m h ih => by rw [push_node h]; simp [sch, ih]
theorem push_size : ∀ (t : T) (m : Nat), m ≤ t.runs → (t.push m).size = t.size + 1 :=
  push_ind (fun t => by rw [push_eq]; simp [size]) fun l r m h ih => by rw [push_node h]; simp [size, ih]; omega
theorem push_runs : ∀ (t : T) (m : Nat), m ≤ t.runs → (t.push m).runs = t.runs - m + 1 :=
  push_ind (fun t => by rw [push_eq]; simp [runs]) fun l r m h ih => by rw [push_node h]; simp [runs, ih]; omega
theorem push_rc : ∀ (t : T) (m : Nat), m ≤ t.runs → (t.push m).rc = t.rc ++ [t.runs - m + 1] :=
  push_ind (fun t => by rw [push_eq]; simp [rc]) fun l r m h ih => by
    rw [push_node h]; simp [rc, ih, runs]; omega
theorem start_le : ∀ (t : T) (m : Nat), m ≤ t.runs → t.start m ≤ t.size :=
  push_ind (fun t => by rw [start_eq]; omega) fun l r m h ih => by rw [start_node h]; simp [size]; omega
theorem push_wr : ∀ (t : T) (m : Nat), m ≤ t.runs → (t.push m).wr = t.wr.take (t.start m) ++ ((t.wr.drop (t.start m)).map (· + 1) ++ [1]) :=
  push_ind (fun t => by rw [push_eq, start_eq]; simp [wr]) fun l r m h ih => by
    rw [push_node h, start_node h]
    have e : (wr (node l r)) = (l.wr.map (· + 1) ++ [1]) ++ r.wr := by simp [wr]
    have el : (l.wr.map (· + 1) ++ [1]).length = l.size + 1 := by simp [wr_len]
    rw [e, List.take_append, List.drop_append, el]
    rw [List.take_of_length_le (by rw [el]; omega), List.drop_eq_nil_of_le (by rw [el]; omega)]
    rw [show l.size + 1 + r.start m - (l.size + 1) = r.start m by omega]
    simp [wr, ih]
theorem stk_push : ∀ (t : T) (m : Nat), m ≤ t.runs → ∀ off, (t.push m).stk off = (t.stk off).take (t.runs - m) ++ [(off + t.start m, off + t.size + 1)] :=
  push_ind (fun t off => by rw [push_eq, start_eq]; simp [stk]) fun l r m h ih off => by
    rw [push_node h, start_node h]
    have hh : (node l r).runs - m = (r.runs - m) + 1 := by simp [runs]; omega
    rw [hh]
    simp [stk, ih, size]
    omega
theorem stk_at : ∀ (t : T) (m : Nat), m ≤ t.runs → ∀ off, 0 < m → ∃ e, (t.stk off)[t.runs - m]? = some (off + t.start m, e) :=
  push_ind (fun t off h => by
      rw [start_eq, Nat.sub_self]
      cases t with
      | nil => simp [runs] at h
      | node l r => exact ⟨_, rfl⟩) fun l r m h ih off h0 => by
    rw [start_node h]
    have hh : (node l r).runs - m = (r.runs - m) + 1 := by simp [runs]; omega
    rw [hh]
    obtain ⟨e, he⟩ := ih (off + l.size + 1) h0
    refine ⟨e, ?_⟩
    simp only [stk, List.getElem?_cons_succ, he]
    congr 2; omega
theorem start_zero : ∀ (t : T) (m : Nat), m ≤ t.runs → m = 0 → t.start m = t.size :=
  push_ind (fun t h => by
      rw [start_eq]
      cases t with
      | nil => rfl
      | node l r => simp [runs] at h) fun l r m h ih h0 => by
    rw [start_node h, ih h0]; simp [size]

/-! ### schedules and trees -/
theorem graft_nil : ∀ t : T, t.graft nil = t
  | nil => rfl
  | node l r => by simp [graft, graft_nil r]
theorem graft_assoc : ∀ a b c : T, (a.graft b).graft c = a.graft (b.graft c)
  | nil, _, _ => rfl
  | node l r, b, c => by simp [graft, graft_assoc r b c]
theorem graft_runs : ∀ a b : T, (a.graft b).runs = a.runs + b.runs
  | nil, b => by simp [graft, runs]
  | node l r, b => by simp [graft, runs, graft_runs r b]; omega
theorem graft_push : ∀ (u l : T), (u.graft l).push l.runs = u.graft (node l nil)
  | nil, l => by simp [graft, push_eq]
  | node a b, l => by
    simp only [graft]
    rw [push_node (by rw [graft_runs]; omega), graft_push b l]
theorem foldl_sch : ∀ (t u : T), t.sch.foldl push u = u.graft t
  | nil, u => by simp [sch, graft_nil]
  | node l r, u => by
    simp only [sch, List.foldl_append, List.foldl_cons]
    rw [foldl_sch l u, graft_push, foldl_sch r, graft_assoc]
    rfl
theorem sch_inj {a b : T} (h : a.sch = b.sch) : a = b := by
  have e1 := foldl_sch a nil
  have e2 := foldl_sch b nil
  rw [h, e2] at e1
  exact e1.symm
end T

/-- a schedule that begins with `runs` runs -/
def Ok : Nat → List Nat → Prop
  | _, [] => True
  | k, m :: r => m ≤ k ∧ Ok (k - m + 1) r
theorem ok_tree : ∀ (p : List Nat) (u : T), Ok u.runs p → ∃ t : T, t.sch = u.sch ++ p ∧ p.foldl T.push u = t
  | [], u, _ => ⟨u, by simp, rfl⟩
  | m :: r, u, h => by
    obtain ⟨h1, h2⟩ := h
    rw [← T.push_runs u m h1] at h2
    obtain ⟨t, e1, e2⟩ := ok_tree r (u.push m) h2
    exact ⟨t, by rw [e1, T.push_sch u m h1]; simp, e2⟩
theorem tree_ex {p : List Nat} (h : Ok 0 p) : ∃ t : T, t.sch = p := by
  obtain ⟨t, e, _⟩ := ok_tree p .nil h
  exact ⟨t, by rw [e]; rfl⟩
theorem ok_app : ∀ (p q : List Nat) (k k' : Nat), Ok k p → k' + p.sum = k + p.length → Ok k' q → Ok k (p ++ q)
  | [], q, k, k', _, e, h => by
    have : k' = k := by simpa using e
    subst this; exact h
  | m :: r, q, k, k', h, e, hq => ⟨h.1, ok_app r q (k - m + 1) k' h.2 (by have := h.1; simp at e; omega) hq⟩
theorem ok_sch_from : ∀ (t : T) (k : Nat), Ok k t.sch
  | .nil, _ => trivial
  | .node l r, k => by
    refine ok_app l.sch _ k (k + l.runs) (ok_sch_from l k) (by have := T.sum_sch l; rw [T.sch_len]; omega) ?_
    exact ⟨by omega, ok_sch_from r _⟩
theorem ok_take : ∀ (p : List Nat) (k i : Nat), Ok k p → Ok k (p.take i)
  | [], _, i, _ => by cases i <;> trivial
  | m :: r, k, 0, _ => trivial
  | m :: r, k, i + 1, h => ⟨h.1, ok_take r _ i h.2⟩
/-- the tree of the first i flushes -/
def pre (t : T) (i : Nat) : T := (t.sch.take i).foldl T.push .nil
theorem pre_sch (t : T) (i : Nat) : (pre t i).sch = t.sch.take i := by
  obtain ⟨u, e1, e2⟩ := ok_tree (t.sch.take i) .nil (ok_take _ _ i (ok_sch_from t _))
  unfold pre; rw [e2, e1]; rfl
theorem pre_size {t : T} {i : Nat} (h : i ≤ t.size) : (pre t i).size = i := by
  rw [← T.sch_len, pre_sch, List.length_take, T.sch_len]; omega
theorem pre_zero (t : T) : pre t 0 = .nil := rfl
theorem pre_all (t : T) : pre t t.size = t := T.sch_inj (by rw [pre_sch, List.take_of_length_le (by rw [T.sch_len]; exact Nat.le_refl _)])
theorem ok_last : ∀ (p : List Nat) (k m : Nat) (q : List Nat), Ok k (p ++ m :: q) → m + p.sum ≤ k + p.length
  | [], k, m, q, h => by simpa using h.1
  | a :: r, k, m, q, h => by
    have := ok_last r (k - a + 1) m q h.2
    have h1 := h.1
    simp; omega
theorem pre_succ {t : T} {i : Nat} {m : Nat} (h : t.sch[i]? = some m) : pre t (i + 1) = (pre t i).push m ∧ m ≤ (pre t i).runs := by
  have hi : i < t.sch.length := (List.getElem?_eq_some_iff.mp h).1
  constructor
  · unfold pre
    rw [List.take_add_one, h]
    simp
  · have e : t.sch = t.sch.take i ++ m :: t.sch.drop (i + 1) := by
      have h2 := List.getElem?_eq_some_iff.mp h
      obtain ⟨h3, h4⟩ := h2
      rw [← h4]
      simp
    have h1 := ok_sch_from t 0
    rw [e] at h1
    have h2 := ok_last _ _ _ _ h1
    have h3 := T.sum_sch (pre t i)
    rw [pre_sch] at h3
    have h4 : (pre t i).size = (t.sch.take i).length := by rw [← T.sch_len, pre_sch]
    omega
theorem rc_take : ∀ (t : T) (i : Nat), (pre t i).rc = t.rc.take i := by
  intro t i
  by_cases hi : i ≤ t.size
  · suffices h : ∀ k, i + k = t.size → (pre t i).rc = t.rc.take i from h (t.size - i) (by omega)
    intro k
    induction k generalizing i with
    | zero =>
      intro e
      rw [show i = t.size by omega, pre_all, List.take_of_length_le (by rw [T.rc_len]; omega)]
    | succ k ih =>
      intro e
      have hl : i < t.sch.length := by rw [T.sch_len]; omega
      obtain ⟨e1, h1⟩ := pre_succ (List.getElem?_eq_getElem hl)
      have h2 := ih (i + 1) (by omega) (by omega)
      rw [e1, T.push_rc _ _ h1] at h2
      have h3 := congrArg (List.take i) h2
      rw [List.take_append_of_le_length (by rw [T.rc_len, pre_size (by omega)]; omega), List.take_take, List.take_of_length_le (by rw [T.rc_len, pre_size (by omega)]; omega)] at h3
      rw [h3]; congr 1; omega
  · have e : t.sch.take i = t.sch := List.take_of_length_le (by rw [T.sch_len]; omega)
    have : pre t i = t := T.sch_inj (by rw [pre_sch, e])
    rw [this, List.take_of_length_le (by rw [T.rc_len]; omega)]
theorem rc_at {t : T} {i m : Nat} (h : t.sch[i]? = some m) : t.rc[i]? = some ((pre t i).runs - m + 1) := by
  obtain ⟨e1, h1⟩ := pre_succ h
  have hi : i < t.size := by rw [← T.sch_len]; exact (List.getElem?_eq_some_iff.mp h).1
  have h2 := rc_take t (i + 1)
  rw [e1, T.push_rc _ _ h1] at h2
  have h3 := congrArg (fun l : List Nat => l[i]?) h2
  simp only [List.getElem?_take] at h3
  rw [List.getElem?_append_right (by rw [T.rc_len, pre_size (by omega)]; omega), T.rc_len, pre_size (by omega)] at h3
  simp at h3
  exact h3.symm
theorem pre_runs {t : T} {i : Nat} (h : i < t.size) : t.rc[i]? = some (pre t (i + 1)).runs := by
  have hl : i < t.sch.length := by rw [T.sch_len]; exact h
  obtain ⟨e1, h1⟩ := pre_succ (List.getElem?_eq_getElem hl)
  rw [rc_at (List.getElem?_eq_getElem hl), e1, T.push_runs _ _ h1]
/-! ### write counts by place -/
theorem wr_step {t : T} {m : Nat} (h : m ≤ t.runs) (k : Nat) : ((t.push m).wr.getD k 0) = if t.start m ≤ k ∧ k < t.size + 1 then t.wr.getD k 0 + 1 else t.wr.getD k 0 := by
  have hs := T.start_le t m h
  have hl := T.wr_len t
  rw [T.push_wr t m h]
  simp only [List.getD_eq_getElem?_getD]
  by_cases h1 : k < t.start m
  · rw [List.getElem?_append_left (by rw [List.length_take]; omega), List.getElem?_take, if_pos h1, if_neg (by omega)]
  · have e : (t.wr.take (t.start m)).length = t.start m := by rw [List.length_take]; omega
    rw [List.getElem?_append_right (by omega), e]
    by_cases h2 : k < t.size
    · rw [List.getElem?_append_left (by rw [List.length_map, List.length_drop]; omega), List.getElem?_map, List.getElem?_drop, if_pos (by omega), show t.start m + (k - t.start m) = k by omega]
      rw [List.getElem?_eq_getElem (by omega)]
      rfl
    · by_cases h3 : k = t.size
      · have e2 : ((t.wr.drop (t.start m)).map (· + 1)).length = k - t.start m := by rw [List.length_map, List.length_drop]; omega
        rw [List.getElem?_append_right (by omega), e2, Nat.sub_self, if_pos (by omega), List.getElem?_eq_none (by omega : t.wr.length ≤ k)]
        rfl
      · rw [List.getElem?_eq_none (by simp; omega), if_neg (by omega), List.getElem?_eq_none (by omega : t.wr.length ≤ k)]
theorem list_by {c d : List Nat} (hl : c.length = d.length) (h : ∀ k, k < c.length → c[k]? = some (d.getD k 0)) : c = d := by
  refine List.ext_getElem? fun k => ?_
  by_cases hk : k < c.length
  · rw [h k hk, List.getD_eq_getElem?_getD, List.getElem?_eq_getElem (by omega)]
    rfl
  · rw [List.getElem?_eq_none (by omega), List.getElem?_eq_none (by omega)]
theorem stk_last {t : T} {i m : Nat} (h : t.sch[i]? = some m) : (pre t (i + 1)).stk 0 = ((pre t i).stk 0).take ((pre t i).runs - m) ++ [((pre t i).start m, i + 1)] := by
  obtain ⟨e, h1⟩ := pre_succ h
  have hi : i < t.size := by rw [← T.sch_len]; exact (List.getElem?_eq_some_iff.mp h).1
  rw [e, T.stk_push _ _ h1, Nat.zero_add, Nat.zero_add, pre_size (by omega)]

/-! ### subtrees -/
inductive Sub (t : T) : Nat → T → Nat → Int → Prop
  | root : Sub t 0 t 1 (-1)
  | left {off k : Nat} {p : Int} {l r : T} : Sub t off (.node l r) k p → Sub t off l k ((off + l.size : Nat) : Int)
  | right {off k : Nat} {p : Int} {l r : T} : Sub t off (.node l r) k p → Sub t (off + l.size + 1) r (k + 1) ((off + l.size : Nat) : Int)
def T.parOf (t : T) : List Int := t.par 0 (-1)
theorem slice_left {α : Type} {L a b : List α} {x : α} {off : Nat} (h : (L.drop off).take (a.length + 1 + b.length) = a ++ x :: b) : (L.drop off).take a.length = a := by
  have := congrArg (List.take a.length) h
  rw [List.take_take, List.take_left' rfl, show min a.length (a.length + 1 + b.length) = a.length by omega] at this
  exact this
theorem slice_mid {α : Type} {L a b : List α} {x : α} {off : Nat} (h : (L.drop off).take (a.length + 1 + b.length) = a ++ x :: b) : L[off + a.length]? = some x := by
  have := congrArg (fun l : List α => l[a.length]?) h
  simp only [List.getElem?_take, List.getElem?_drop] at this
  rw [if_pos (by omega), List.getElem?_append_right (Nat.le_refl _), Nat.sub_self] at this
  simpa using this
theorem slice_right {α : Type} {L a b : List α} {x : α} {off : Nat} (h : (L.drop off).take (a.length + 1 + b.length) = a ++ x :: b) : (L.drop (off + a.length + 1)).take b.length = b := by
  have := congrArg (List.drop (a.length + 1)) h
  rw [List.drop_take, List.drop_drop] at this
  have e2 : List.drop (a.length + 1) (a ++ x :: b) = b := by
    rw [List.drop_append]; simp
  rw [e2] at this
  have h2 := congrArg (List.take b.length) this
  rw [List.take_take, List.take_length] at h2
  rw [← Nat.add_assoc] at h2
  rw [show b.length = min b.length (a.length + 1 + b.length - (a.length + 1)) by omega]
  exact h2
theorem sub_le {t : T} {off k : Nat} {s : T} {p : Int} (h : Sub t off s k p) : off + s.size ≤ t.size ∧ 1 ≤ k ∧ k ≤ off + 1 := by
  induction h with
  | root => exact ⟨by omega, by omega, by omega⟩
  | left _ ih => simp only [T.size] at ih; omega
  | right _ ih => simp only [T.size] at ih; omega
theorem sub_out {t : T} {off k : Nat} {s : T} {p : Int} (h : Sub t off s k p) : (p = -1 ∨ ((0 ≤ p ∧ p < t.size) ∧ (p + 1 = off ∨ p = ((off + s.size : Nat) : Int)))) := by
  cases h with
  | root => exact .inl rfl
  | left h => have := sub_le h; simp only [T.size] at this; exact .inr ⟨by omega, .inr rfl⟩
  | right h => have := sub_le h; simp only [T.size] at this; exact .inr ⟨by omega, .inl (by omega)⟩
theorem sub_rc {t : T} {off k : Nat} {s : T} {p : Int} (h : Sub t off s k p) : (t.rc.drop off).take s.size = s.rc.map (· + (k - 1)) := by
  induction h with
  | root => simp [← T.rc_len]
  | @left off k p l r h ih =>
    have e : (T.node l r).rc.map (· + (k - 1)) = l.rc.map (· + (k - 1)) ++ (1 + (k - 1)) :: (r.rc.map (· + 1)).map (· + (k - 1)) := by simp [T.rc]
    rw [e] at ih
    have hl : (l.rc.map (· + (k - 1))).length = l.size := by rw [List.length_map, T.rc_len]
    have hr : ((r.rc.map (· + 1)).map (· + (k - 1))).length = r.size := by rw [List.length_map, List.length_map, T.rc_len]
    have := slice_left (a := l.rc.map (· + (k - 1))) (b := (r.rc.map (· + 1)).map (· + (k - 1))) (L := t.rc) (off := off) (x := 1 + (k - 1)) (by rw [hl, hr]; exact ih)
    rw [hl] at this
    exact this
  | @right off k p l r h ih =>
    have e : (T.node l r).rc.map (· + (k - 1)) = l.rc.map (· + (k - 1)) ++ (1 + (k - 1)) :: (r.rc.map (· + 1)).map (· + (k - 1)) := by simp [T.rc]
    rw [e] at ih
    have hl : (l.rc.map (· + (k - 1))).length = l.size := by rw [List.length_map, T.rc_len]
    have hr : ((r.rc.map (· + 1)).map (· + (k - 1))).length = r.size := by rw [List.length_map, List.length_map, T.rc_len]
    have := slice_right (a := l.rc.map (· + (k - 1))) (b := (r.rc.map (· + 1)).map (· + (k - 1))) (L := t.rc) (off := off) (x := 1 + (k - 1)) (by rw [hl, hr]; exact ih)
    rw [hl, hr] at this
    rw [this, List.map_map]
    refine List.map_congr_left fun a _ => ?_
    have := (sub_le h).2.1
    simp only [Function.comp]
    omega
theorem sub_par {t : T} {off k : Nat} {s : T} {p : Int} (h : Sub t off s k p) : (t.parOf.drop off).take s.size = s.par (off : Int) p := by
  induction h with
  | root => simp only [T.parOf]; rw [List.drop_zero, List.take_of_length_le (by rw [T.par_len]; omega)]; rfl
  | @left off k p l r h ih =>
    simp only [T.par] at ih
    have hl := T.par_len l (off : Int) ((off : Int) + l.size)
    have hr := T.par_len r ((off : Int) + l.size + 1) ((off : Int) + l.size)
    have := slice_left (a := l.par (off : Int) ((off : Int) + l.size)) (b := r.par ((off : Int) + l.size + 1) ((off : Int) + l.size)) (L := t.parOf) (off := off) (x := p) (by rw [hl, hr]; exact ih)
    rw [hl] at this
    rw [this, Int.natCast_add]
  | @right off k p l r h ih =>
    simp only [T.par] at ih
    have hl := T.par_len l (off : Int) ((off : Int) + l.size)
    have hr := T.par_len r ((off : Int) + l.size + 1) ((off : Int) + l.size)
    have := slice_right (a := l.par (off : Int) ((off : Int) + l.size)) (b := r.par ((off : Int) + l.size + 1) ((off : Int) + l.size)) (L := t.parOf) (off := off) (x := p) (by rw [hl, hr]; exact ih)
    rw [hl, hr] at this
    rw [this]
    simp only [Int.natCast_add]
    rfl
theorem sub_root {t : T} {off k : Nat} {l r : T} {p : Int} (h : Sub t off (.node l r) k p) : t.parOf[off + l.size]? = some p := by
  have ih := sub_par h
  simp only [T.par] at ih
  have hl := T.par_len l (off : Int) ((off : Int) + l.size)
  have hr := T.par_len r ((off : Int) + l.size + 1) ((off : Int) + l.size)
  have := slice_mid (a := l.par (off : Int) ((off : Int) + l.size)) (b := r.par ((off : Int) + l.size + 1) ((off : Int) + l.size)) (L := t.parOf) (off := off) (x := p) (by rw [hl, hr]; exact ih)
  rw [hl] at this
  exact this
/-- the parents of a subtree: the root's alone lies outside -/
theorem par_in : ∀ (s : T) (off p : Int) (i : Nat) (q : Int), (s.par off p)[i]? = some q → (∃ l r, s = .node l r ∧ i = l.size ∧ q = p) ∨ (off ≤ q ∧ q < off + s.size ∧ ∀ l r, s = .node l r → i ≠ l.size)
  | .nil, _, _, _, _, h => by simp [T.par] at h
  | .node l r, off, p, i, q, h => by
    simp only [T.par] at h
    have hl := T.par_len l off (off + l.size)
    by_cases h1 : i < l.size
    · rw [List.getElem?_append_left (by omega)] at h
      refine .inr ?_
      rcases par_in l off (off + l.size) i q h with ⟨a, b, e, e2, e3⟩ | ⟨h2, h3, _⟩
      · refine ⟨by omega, by simp only [T.size]; omega, fun l' r' e' => by cases e'; omega⟩
      · refine ⟨by omega, by simp only [T.size]; omega, fun l' r' e' => by cases e'; omega⟩
    · rw [List.getElem?_append_right (by omega), hl] at h
      by_cases h2 : i = l.size
      · subst h2
        rw [Nat.sub_self] at h
        have : p = q := by simpa using h
        exact .inl ⟨l, r, rfl, rfl, this.symm⟩
      · obtain ⟨j, e⟩ : ∃ j, i - l.size = j + 1 := ⟨i - l.size - 1, by omega⟩
        rw [e, List.getElem?_cons_succ] at h
        refine .inr ?_
        rcases par_in r (off + l.size + 1) (off + l.size) j q h with ⟨a, b, e4, e2, e3⟩ | ⟨h4, h3, _⟩
        · refine ⟨by omega, by simp only [T.size]; omega, fun l' r' e' => by cases e'; omega⟩
        · refine ⟨by omega, by simp only [T.size]; omega, fun l' r' e' => by cases e'; omega⟩
theorem rc_pos : ∀ (s : T) (i v : Nat), s.rc[i]? = some v → 1 ≤ v
  | .nil, _, _, h => by simp [T.rc] at h
  | .node l r, i, v, h => by
    simp only [T.rc] at h
    by_cases h1 : i < l.size
    · rw [List.getElem?_append_left (by rw [T.rc_len]; exact h1)] at h
      exact rc_pos l i v h
    · rw [List.getElem?_append_right (by rw [T.rc_len]; omega), T.rc_len] at h
      rcases Nat.eq_zero_or_pos (i - l.size) with e | e
      · rw [e] at h; simp at h; omega
      · obtain ⟨j, e⟩ : ∃ j, i - l.size = j + 1 := ⟨i - l.size - 1, by omega⟩
        rw [e, List.getElem?_cons_succ, List.getElem?_map] at h
        cases h2 : r.rc[j]? with
        | none => rw [h2] at h; cases h
        | some u => rw [h2] at h; simp at h; omega
theorem rc_one {l r : T} {i : Nat} (h : (T.node l r).rc[i]? = some 1) : i ≤ l.size := by
  simp only [T.rc] at h
  by_cases h1 : i ≤ l.size
  · exact h1
  · rw [List.getElem?_append_right (by rw [T.rc_len]; omega), T.rc_len] at h
    obtain ⟨j, e⟩ : ∃ j, i - l.size = j + 1 := ⟨i - l.size - 1, by omega⟩
    rw [e, List.getElem?_cons_succ, List.getElem?_map] at h
    cases h2 : r.rc[j]? with
    | none => rw [h2] at h; cases h
    | some u =>
      have := rc_pos r j u h2
      rw [h2] at h; simp at h; omega
theorem rc_root (l r : T) : (T.node l r).rc[l.size]? = some 1 := by
  simp only [T.rc]
  rw [List.getElem?_append_right (by rw [T.rc_len]; exact Nat.le_refl _), T.rc_len, Nat.sub_self]; rfl
theorem sub_rc_at {t : T} {off k : Nat} {s : T} {p : Int} (h : Sub t off s k p) {i : Nat} (hi : i < s.size) : ∃ v, s.rc[i]? = some v ∧ t.rc[off + i]? = some (v + (k - 1)) := by
  have e := congrArg (fun l : List Nat => l[i]?) (sub_rc h)
  simp only [List.getElem?_take, List.getElem?_drop, List.getElem?_map] at e
  rw [if_pos hi] at e
  have hv := List.getElem?_eq_getElem (show i < s.rc.length by rw [T.rc_len]; exact hi)
  rw [hv] at e
  exact ⟨_, hv, e⟩
theorem sub_par_at {t : T} {off k : Nat} {s : T} {p : Int} (h : Sub t off s k p) {i : Nat} (hi : i < s.size) : ∃ q, (s.par (off : Int) p)[i]? = some q ∧ t.parOf[off + i]? = some q := by
  have e := congrArg (fun l : List Int => l[i]?) (sub_par h)
  simp only [List.getElem?_take, List.getElem?_drop] at e
  rw [if_pos hi] at e
  have hv := List.getElem?_eq_getElem (show i < (s.par (off : Int) p).length by rw [T.par_len]; exact hi)
  rw [hv] at e
  exact ⟨_, hv, e⟩
theorem filter_one {f : Nat → Bool} {n c : Nat} (hc : c < n) (h1 : f c = true) (h2 : ∀ i, i < n → f i = true → i = c) : (List.range n).filter f = [c] := by
  induction n with
  | zero => omega
  | succ n ih =>
    rw [List.range_succ, List.filter_append]
    by_cases e : c = n
    · subst e
      have e0 : (List.range c).filter f = [] := List.filter_eq_nil_iff.mpr fun i hi hf => by
        have := List.mem_range.mp hi
        have := h2 i (by omega) hf
        omega
      rw [e0]; simp [h1]
    · rw [ih (by omega) fun i hi hf => h2 i (by omega) hf]
      have : f n = false := by
        cases hf : f n with
        | false => rfl
        | true => exact absurd (h2 n (by omega) hf) (by omega)
      simp [this]
/-- the work of a list of subtrees -/
def todo : List (Nat × T × Nat × Int) → Nat
  | [] => 0
  | x :: r => 2 * x.2.1.size + 1 + todo r
theorem todo_app : ∀ a b, todo (a ++ b) = todo a + todo b
  | [], b => by simp [todo]
  | x :: r, b => by simp [todo, todo_app r b]; omega
theorem len_todo : ∀ L, L.length ≤ todo L
  | [] => Nat.le_refl _
  | x :: r => by have := len_todo r; simp [todo]; omega

/-! ### one step up -/
theorem getD_app_l {a b : List Nat} {i : Nat} (h : i < a.length) : (a ++ b).getD i 0 = a.getD i 0 := by
  simp only [List.getD_eq_getElem?_getD, List.getElem?_append_left h]
theorem getD_app_r {a b : List Nat} {i : Nat} (h : a.length ≤ i) : (a ++ b).getD i 0 = b.getD (i - a.length) 0 := by
  simp only [List.getD_eq_getElem?_getD, List.getElem?_append_right h]
theorem getD_map1 {a : List Nat} {i : Nat} (h : i < a.length) : (a.map (· + 1)).getD i 0 = a.getD i 0 + 1 := by
  simp only [List.getD_eq_getElem?_getD, List.getElem?_map, List.getElem?_eq_getElem h]; rfl
theorem wr_l {l r : T} {i : Nat} (h : i < l.size) : (T.node l r).wr.getD i 0 = l.wr.getD i 0 + 1 := by
  simp only [T.wr]
  rw [getD_app_l (by rw [List.length_map, T.wr_len]; exact h), getD_map1 (by rw [T.wr_len]; exact h)]
theorem wr_m {l r : T} : (T.node l r).wr.getD l.size 0 = 1 := by
  simp only [T.wr]
  rw [getD_app_r (by rw [List.length_map, T.wr_len]; exact Nat.le_refl _), List.length_map, T.wr_len, Nat.sub_self]; rfl
theorem wr_r {l r : T} {j : Nat} : (T.node l r).wr.getD (l.size + 1 + j) 0 = r.wr.getD j 0 := by
  simp only [T.wr]
  rw [getD_app_r (by rw [List.length_map, T.wr_len]; omega), List.length_map, T.wr_len, show l.size + 1 + j - l.size = j + 1 by omega, List.getD_cons_succ]
theorem rc_l {l r : T} {i : Nat} (h : i < l.size) : (T.node l r).rc.getD i 0 = l.rc.getD i 0 := by
  simp only [T.rc]
  rw [getD_app_l (by rw [T.rc_len]; exact h)]
theorem rc_m {l r : T} : (T.node l r).rc.getD l.size 0 = 1 := by
  simp only [T.rc]
  rw [getD_app_r (by rw [T.rc_len]; exact Nat.le_refl _), T.rc_len, Nat.sub_self]; rfl
theorem rc_r {l r : T} {j : Nat} (h : j < r.size) : (T.node l r).rc.getD (l.size + 1 + j) 0 = r.rc.getD j 0 + 1 := by
  simp only [T.rc]
  rw [getD_app_r (by rw [T.rc_len]; omega), T.rc_len, show l.size + 1 + j - l.size = j + 1 by omega, List.getD_cons_succ, getD_map1 (by rw [T.rc_len]; exact h)]
theorem up : ∀ (s : T) (off p : Int) (i : Nat) (q : Int), (s.par off p)[i]? = some q →
    (q = p ∧ s.wr.getD i 0 = 1 ∧ s.rc.getD i 0 = 1) ∨
    ∃ j : Nat, q = off + j ∧ j < s.size ∧ j ≠ i ∧ (i < j → s.wr.getD i 0 = s.wr.getD j 0 + 1 ∧ s.rc.getD i 0 = s.rc.getD j 0) ∧ (j < i → s.wr.getD i 0 = s.wr.getD j 0 ∧ s.rc.getD i 0 = s.rc.getD j 0 + 1)
  | .nil, _, _, _, _, h => by simp [T.par] at h
  | .node l r, off, p, i, q, h => by
    simp only [T.par] at h
    have hl := T.par_len l off (off + l.size)
    by_cases h1 : i < l.size
    · rw [List.getElem?_append_left (by omega)] at h
      refine .inr ?_
      rcases up l off (off + l.size) i q h with ⟨e, e1, e2⟩ | ⟨j, e, hj, hne, c1, c2⟩
      · exact ⟨l.size, e, by simp only [T.size]; omega, by omega, fun _ => ⟨by rw [wr_l h1, wr_m, e1], by rw [rc_l h1, rc_m, e2]⟩, fun z => by omega⟩
      · exact ⟨j, e, by simp only [T.size]; omega, hne, fun z => ⟨by rw [wr_l h1, wr_l hj, (c1 z).1], by rw [rc_l h1, rc_l hj, (c1 z).2]⟩, fun z => ⟨by rw [wr_l h1, wr_l hj, (c2 z).1], by rw [rc_l h1, rc_l hj, (c2 z).2]⟩⟩
    · rw [List.getElem?_append_right (by omega), hl] at h
      by_cases h2 : i = l.size
      · subst h2
        rw [Nat.sub_self] at h
        have : p = q := by simpa using h
        exact .inl ⟨this.symm, wr_m, rc_m⟩
      · obtain ⟨k, e⟩ : ∃ k, i = l.size + 1 + k := ⟨i - l.size - 1, by omega⟩
        subst e
        rw [show l.size + 1 + k - l.size = k + 1 by omega, List.getElem?_cons_succ] at h
        have hk : k < r.size := by
          have := (List.getElem?_eq_some_iff.mp h).1
          rw [T.par_len] at this; exact this
        refine .inr ?_
        rcases up r (off + l.size + 1) (off + l.size) k q h with ⟨e, e1, e2⟩ | ⟨j, e, hj, hne, c1, c2⟩
        · exact ⟨l.size, e, by simp only [T.size]; omega, by omega, fun z => by omega, fun _ => ⟨by rw [wr_r, wr_m, e1], by rw [rc_r hk, rc_m, e2]⟩⟩
        · exact ⟨l.size + 1 + j, by rw [e]; omega, by simp only [T.size]; omega, by omega, fun z => ⟨by rw [wr_r, wr_r, (c1 (by omega)).1], by rw [rc_r hk, rc_r hj, (c1 (by omega)).2]⟩, fun z => ⟨by rw [wr_r, wr_r, (c2 (by omega)).1], by rw [rc_r hk, rc_r hj, (c2 (by omega)).2]⟩⟩
theorem wr_pos {t : T} {i : Nat} (h : i < t.size) : 1 ≤ t.wr.getD i 0 := by
  induction t generalizing i with
  | nil => simp [T.size] at h
  | node l r ihl ihr =>
    by_cases h1 : i < l.size
    · rw [wr_l h1]; omega
    · by_cases h2 : i = l.size
      · subst h2; rw [wr_m]; exact Nat.le_refl _
      · obtain ⟨k, e⟩ : ∃ k, i = l.size + 1 + k := ⟨i - l.size - 1, by omega⟩
        subst e
        rw [wr_r]; exact ihr (by simp only [T.size] at h; omega)
theorem rc_posD {t : T} {i : Nat} (h : i < t.size) : 1 ≤ t.rc.getD i 0 := by
  have := List.getElem?_eq_getElem (show i < t.rc.length by rw [T.rc_len]; exact h)
  rw [List.getD_eq_getElem?_getD, this]
  exact rc_pos t i _ this

/-! ### mirrors -/
def mirN (N : Int) (q : Int) : Int := if q = -1 then -1 else N - 1 - q
theorem mir_size : ∀ t : T, t.mir.size = t.size
  | .nil => rfl
  | .node l r => by simp [T.mir, T.size, mir_size l, mir_size r]; omega
theorem mir_par : ∀ (s : T) (N off p : Int), 0 ≤ off → ((s.par off p).reverse).map (mirN N) = s.mir.par (N - off - s.size) (mirN N p)
  | .nil, _, _, _, _ => rfl
  | .node l r, N, off, p, h => by
    simp only [T.par, T.mir, List.reverse_append, List.reverse_cons, List.map_append, List.map_cons, List.map_nil]
    rw [mir_par l N off (off + l.size) h, mir_par r N (off + l.size + 1) (off + l.size) (by omega), mir_size]
    have e1 : mirN N (off + l.size) = N - 1 - (off + l.size) := by unfold mirN; rw [if_neg (by omega)]
    rw [e1]
    have e2 : N - off - ((T.node l r).size : Int) = N - (off + l.size + 1) - r.size := by simp only [T.size]; omega
    rw [e2]
    have e3 : N - (off + ↑l.size + 1) - ↑r.size + ↑r.size = N - 1 - (off + ↑l.size) := by omega
    rw [e3, show N - 1 - (off + (l.size : Int)) + 1 = N - off - l.size by omega]
    simp
theorem mir_parOf (t : T) : t.mir.parOf = (t.parOf.reverse).map (mirN t.size) := by
  unfold T.parOf
  rw [mir_par t t.size 0 (-1) (by omega)]
  rw [show ((t.size : Int) - 0 - t.size) = 0 by omega]
  rfl
theorem mir_wr : ∀ t : T, t.mir.wr = t.rc.reverse
  | .nil => rfl
  | .node l r => by simp [T.mir, T.wr, T.rc, mir_wr l, mir_wr r]
theorem mir_rc : ∀ t : T, t.mir.rc = t.wr.reverse
  | .nil => rfl
  | .node l r => by simp [T.mir, T.wr, T.rc, mir_rc l, mir_rc r]
theorem mir_mir : ∀ t : T, t.mir.mir = t
  | .nil => rfl
  | .node l r => by simp [T.mir, mir_mir l, mir_mir r]

/-! ### parents of a joined tree -/
theorem par_below {N : Int} : ∀ (s : T) (off p : Int), 0 ≤ off → (s.par off p).map (fun q => if q = -1 then N else q) = s.par off (if p = -1 then N else p)
  | .nil, _, _, _ => rfl
  | .node l r, off, p, h => by
    simp only [T.par, List.map_append, List.map_cons]
    rw [par_below l off _ h, par_below r (off + l.size + 1) _ (by omega), if_neg (by omega : ¬ off + (l.size : Int) = -1)]
theorem par_beyond {N : Int} : ∀ (s : T) (off p : Int), 0 ≤ off → (s.par off p).map (fun q => if q = -1 then N else q + N + 1) = s.par (off + N + 1) (if p = -1 then N else p + N + 1)
  | .nil, _, _, _ => rfl
  | .node l r, off, p, h => by
    simp only [T.par, List.map_append, List.map_cons]
    rw [par_beyond l off _ h, par_beyond r (off + l.size + 1) _ (by omega), if_neg (by omega : ¬ off + (l.size : Int) = -1)]
    have e1 : off + (l.size : Int) + N + 1 = off + N + 1 + l.size := by omega
    have e2 : off + (l.size : Int) + 1 + N + 1 = off + N + 1 + l.size + 1 := by omega
    rw [e1, e2]
theorem parOf_node (s u : T) : (T.node s u).parOf = s.parOf.map (fun q => if q = -1 then (s.size : Int) else q) ++ [-1] ++ u.parOf.map (fun q => if q = -1 then (s.size : Int) else q + s.size + 1) := by
  unfold T.parOf
  rw [par_below s 0 (-1) (by omega), par_beyond u 0 (-1) (by omega)]
  simp only [T.par]
  simp
theorem parOf_root (s u : T) : (T.node s u).parOf[s.size]? = some (-1) := by
  have := sub_root (t := T.node s u) .root
  simpa using this
theorem parOf_first {s u : T} {m : Nat} (h : m < s.size) : (T.node s u).parOf[m]? ≠ some (-1) := fun e => by
  rcases par_in _ _ _ _ _ e with ⟨l, r, e1, e2, _⟩ | ⟨h1, _, _⟩
  · cases e1; omega
  · omega

/-! ### runs as lists of flushes -/
theorem stk_pair : ∀ (t : T) (off j : Nat), j + 1 ≤ t.runs → (t.stk off)[t.runs - (j + 1)]? = some (off + t.start (j + 1), off + t.start j)
  | .nil, _, _, h => by simp [T.runs] at h
  | .node l r, off, j, h => by
    by_cases e : j = r.runs
    · subst e
      have e1 : (T.node l r).runs = r.runs + 1 := by simp [T.runs]; omega
      rw [e1, Nat.sub_self, ← e1, T.start_eq, T.start_node (Nat.le_refl _), T.start_eq]
      rfl
    · have h1 : j + 1 ≤ r.runs := by simp [T.runs] at h; omega
      have e1 : (T.node l r).runs - (j + 1) = (r.runs - (j + 1)) + 1 := by simp [T.runs]; omega
      rw [e1, T.start_node h1, T.start_node (by omega)]
      simp only [T.stk, List.getElem?_cons_succ]
      rw [stk_pair r (off + l.size + 1) j h1]
      congr 2 <;> omega
theorem start_anti : ∀ (t : T) (j : Nat), j + 1 ≤ t.runs → t.start (j + 1) < t.start j
  | .nil, _, h => by simp [T.runs] at h
  | .node l r, j, h => by
    by_cases e : j = r.runs
    · subst e
      have e1 : (T.node l r).runs = r.runs + 1 := by simp [T.runs]; omega
      rw [← e1, T.start_eq, T.start_node (Nat.le_refl _), T.start_eq]
      omega
    · have h1 : j + 1 ≤ r.runs := by simp [T.runs] at h; omega
      rw [T.start_node h1, T.start_node (by omega)]
      have := start_anti r j h1
      omega
/-- the flushes of [a, b) -/
def seg (a b : Nat) : List Nat := List.range' a (b - a)
theorem seg_app {a b c : Nat} (h1 : a ≤ b) (h2 : b ≤ c) : seg a b ++ seg b c = seg a c := by
  unfold seg
  have := List.range'_append_1 (s := a) (m := b - a) (n := c - b)
  rw [show a + (b - a) = b by omega, show b - a + (c - b) = c - a by omega] at this
  exact this
theorem seg_one (a : Nat) : seg a (a + 1) = [a] := by
  unfold seg
  rw [show a + 1 - a = 1 by omega]; rfl
theorem seg_nil (a : Nat) : seg a a = [] := by unfold seg; rw [Nat.sub_self]; rfl
theorem seg_len (a b : Nat) : (seg a b).length = b - a := by unfold seg; rw [List.length_range']
theorem seg_at {a b k : Nat} (h : a + k < b) : (seg a b)[k]? = some (a + k) := by
  unfold seg
  rw [List.getElem?_range' (by omega)]
  simp
theorem stk_take_succ {t : T} {j : Nat} (off : Nat) (h : j + 1 ≤ t.runs) : (t.stk off).take (t.runs - j) = (t.stk off).take (t.runs - (j + 1)) ++ [(off + t.start (j + 1), off + t.start j)] := by
  rw [show t.runs - j = (t.runs - (j + 1)) + 1 by omega, List.take_add_one, stk_pair t off j h]; rfl
/-- adjacent, from off on -/
theorem stk_starts : ∀ (t : T) (off : Nat), (t.stk off).map (·.1) = (off :: (t.stk off).map (·.2)).dropLast
  | .nil, _ => rfl
  | .node l r, off => by
    have ih := stk_starts r (off + l.size + 1)
    simp only [T.stk, List.map_cons]
    rw [ih]; rfl
theorem stk_stops : ∀ (t : T) (off : Nat), (off :: (t.stk off).map (·.2)).getLast? = some (off + t.size)
  | .nil, off => by simp [T.stk, T.size]
  | .node l r, off => by
    have ih := stk_stops r (off + l.size + 1)
    simp only [T.stk, List.map_cons, T.size]
    rw [List.getLast?_cons_cons, ih]
    congr 1; omega
theorem stk_lt : ∀ (t : T) (off : Nat) (p : Nat × Nat), p ∈ t.stk off → off ≤ p.1 ∧ p.1 < p.2 ∧ p.2 ≤ off + t.size
  | .nil, _, _, h => by simp [T.stk] at h
  | .node l r, off, p, h => by
    simp only [T.stk] at h
    rcases List.mem_cons.mp h with rfl | h
    · simp only [T.size]; omega
    · have := stk_lt r _ p h
      simp only [T.size]; omega
end MB

set_option maxHeartbeats 4000000
namespace MB
open PySem PySem.Spec PyProof.Rows L2

/-! ### great powers -/
def CPowW (i j : Int) : Prop := 0 ≤ j ∧ (Builtin.Int.intBits i : Int) * j ≤ 2 ^ 27
theorem op_powW {X : Cx} : OpR X (binaryOp .Pow) (rI CPowW fun i j => .int (i ^ j.toNat)) := opI fun _ _ _ _ _ _ _ hc q => pow_int hc.1 hc.2 q

/-! ### xs[i] op= e -/
theorem get_list {X : Cx} : PGet X (rIxL X.K) := by
  intro pins s σ H x y v u Q I rx ry h
  obtain ⟨p, xs, i, z, rfl, rfl, hq, he, q⟩ := h
  cases rx
  obtain ⟨t, rfl⟩ := ry
  obtain ⟨its, r, pl, hz⟩ := I.list hq
  obtain ⟨j, h1, h2, h3, h4, h5⟩ := atI_get he
  obtain ⟨w, ew, rw'⟩ := r.get h2
  have hl := r.length
  have hn := line63
  have fin : EP X pins σ Q w s := ⟨z, H, I, rw', q⟩
  by_cases h0 : 0 ≤ i
  · have hj : i.toNat = j := by
      rw [seqIndex_of h0 h5] at h1
      exact Option.some.inj h1
    exact getItem_listL pl.isList h0 (by omega) (by rw [hj]; exact ew) fin
  · have hj : (i + (its.toArray.size : Int)).toNat = j := by
      rw [seqIndex_neg (by omega) h4] at h1
      rw [List.size_toArray, ← hl]
      exact Option.some.inj h1
    exact wpAny_getItem_list_neg pl.isList (by omega) (by rw [List.size_toArray] <;> omega) (by omega) (by rw [hj]; simpa using ew) fin

/-! ### sum of a tuple of ints -/
theorem ints_at : ∀ {ns : List Int} {its : List Value}, Vals (ns.map V.int) its → ∀ (i : Nat) (v : Value), its[i]? = some v → ∃ t, v = .int (ns.getD i 0) t
  | [], _, .nil, i, v, h => by simp at h
  | n :: ns, u :: us, .cons r rr, 0, v, h => by
    obtain ⟨t, rfl⟩ := r
    simp at h
    exact ⟨t, by simp [h]⟩
  | n :: ns, u :: us, .cons r rr, i + 1, v, h => by
    have := ints_at rr i v (by simpa using h)
    simpa using this
theorem preSum_getD (ns : List Int) : ∀ k, k ≤ ns.length → preSum (fun i => ns.getD i 0) k = (ns.take k).sum
  | 0, _ => by simp [preSum]
  | k + 1, h => by
    have e : ns[k]? = some (ns.getD k 0) := by
      rw [List.getElem?_eq_getElem (by omega), List.getD_eq_getElem?_getD, List.getElem?_eq_getElem (by omega)]
      rfl
    rw [preSum, preSum_getD ns k (by omega), L2.sum_take e]
def rSumT (K : PySem.W.Frag) : List V → Hp → VK → Prop := fun xs H Q => ∃ (a : Addr) (ns : List Int), xs = [V.ref a] ∧ SqT K H a (ns.map V.int) ∧ Q (.int ns.sum) H
theorem cr_sumT {X : Cx} (hc : X.calm = true) : CallR X (.builtin "sum") (rSumT X.K) := by
  intro pins s σ H vs us Q I r h
  obtain ⟨a, ns, rfl, hs, q⟩ := h
  obtain ⟨its, rv, hl, _⟩ := I.tuple hs
  rw [Vals.ref1 r]
  have hT : s.heap.IsTuple a its.toArray := hl
  have hlt : a < s.heap.objs.size := by obtain ⟨_, e, _⟩ := hl; exact Heap.lt_size e
  refine PySem.call_sum_walkG (wpAny_pyIter_tuple hT ?_)
  refine ⟨s.heap.objs.size, [s.heap.objs.size, a], [s.heap.objs.size], its.toArray.size, _, _, fun i => ns.getD i 0, rfl, Walks.tuple (A := X.A.in1) (I.ok.hd hc) _ a (Nat.ne_of_lt hlt) its.toArray, ⟨⟨_, Heap.get?_push_size _ rfl, rfl, rfl⟩, hT.at fun o e => Heap.get?_push_of_some _ e⟩, fun b hb => ?_, fun i v hv => ints_at rv i v (by simpa using hv), fun h' tk t' hk => ?_⟩
  · show b < (s.heap.push _).objs.size
    rw [Heap.size_push]
    have e : b = s.heap.objs.size ∨ b = a := by simpa using hb
    rcases e with e | e
    · rw [e]; exact Nat.lt_succ_self _
    · rw [e]; exact Nat.lt_succ_of_lt hlt
  · have el : its.toArray.size = ns.length := by rw [List.size_toArray, ← rv.length, List.length_map]
    rw [el, preSum_getD ns _ (Nat.le_refl _), List.take_length]
    refine ⟨.int ns.sum, H, I.kept fun b o e => hk b o ?_ (Heap.get?_push_of_some _ e), ⟨_, rfl⟩, q⟩
    have := Heap.lt_size e
    simp only [List.mem_singleton]
    exact Nat.ne_of_lt this

/-! ### enumerate(tuple) -/
set_option maxHeartbeats 4000000 in
theorem meets_enumerate_newT (l : Addr) (items : Array Value) (n : Nat) (dct : Option Addr) (sl : Array (Option Value)) :
    Meets (Builtin.«enumerate.__new__» ⟨[.type "enumerate", .ref l], []⟩) (fun _ R s => s.heap.get? l = some { cls := .type "tuple", dict := dct, data := .seq items n, slots := sl } ∧
      R (.ok (.ret (.ref (s.heap.push { cls := .type "tuple_iterator", data := .fields #[.ref l, .int 0 0] }).objs.size)))
        { s with heap := (s.heap.push { cls := .type "tuple_iterator", data := .fields #[.ref l, .int 0 0] }).push { cls := .type "enumerate", data := .fields #[.none, .bool false, .ref s.heap.objs.size, rawInt 0, .none, .none] } }) :=
  .of_wp fun prog w A R s h => by
    obtain ⟨hp, g, d, tk, os⟩ := s; obtain ⟨hl, h⟩ := h
    have hsub := sub_enumerate
    have hL : Heap.IsTuple (Shared.heap ⟨hp, g, d, tk, os⟩) l items := ⟨_, hl, rfl, n, rfl⟩
    wp_walk using AutoSeq1.wpAny_loadPart' hl
    refine wpAny_stack_any fun st => wpAny_pure ?_
    split
    · rename_i c _ _ _ _ _
      cases (c == Value.type "enumerate")
      · wp_walk using AutoSeq1.wpAny_loadPart' hl, wpAny_pyIter_tuple hL
        exact ⟨_, rfl, h⟩
      · wp_walk using AutoSeq1.wpAny_loadPart' hl, wpAny_pyIter_tuple hL
        exact ⟨_, rfl, h⟩
    · wp_walk using AutoSeq1.wpAny_loadPart' hl, wpAny_pyIter_tuple hL
      exact ⟨_, rfl, h⟩
section
variable {prog : Program} {w : World} {A : Around} {E : Value → Shared → Prop} {s : Shared}
theorem call_enumerate_tuple {l : Addr} {items : Array Value} {Q : Value → Shared → Prop} (hL : s.heap.IsTuple l items)
    (h : ∀ h', IsEnum h' (s.heap.objs.size + 1) s.heap.objs.size 0 .none → h'.IsTupleIter s.heap.objs.size l 0 → h'.objs.size = s.heap.objs.size + 2 →
      (∀ b o, s.heap.get? b = some o → h'.get? b = some o) → Q (.ref (s.heap.objs.size + 1)) { s with heap := h' }) :
    wpAny (model prog w) A (call (.type "enumerate") [.ref l]) Q E s := by
  obtain ⟨⟨c, dct, dt, sl⟩, hl, hc, n, hd⟩ := hL
  replace hc : c = .type "tuple" := hc
  replace hd : dt = .seq items n := hd
  subst hc hd
  refine callType_new F.called_enumerate (by decide) (F.typeCall_enumerate_1 _) (F.newCall_enumerate_1 _) (fun obj => F.args_object_init_2 obj _) F.entry_enumerate_new
    (meets_enumerate_newT l items n dct sl) ⟨hl, ?_⟩
  have hz : (s.heap.push { cls := .type "tuple_iterator", data := .fields #[.ref l, .int 0 0] }).objs.size = s.heap.objs.size + 1 := Heap.size_push ..
  show _ ∧ _
  rw [hz]
  have he : IsEnum ((s.heap.push { cls := .type "tuple_iterator", data := .fields #[.ref l, .int 0 0] }).push
      { cls := .type "enumerate", data := .fields #[.none, .bool false, .ref s.heap.objs.size, rawInt 0, .none, .none] }) (s.heap.objs.size + 1) s.heap.objs.size 0 .none := by
    have := Heap.get?_push_size (s.heap.push { cls := .type "tuple_iterator", data := .fields #[.ref l, .int 0 0] })
      (o := { cls := .type "enumerate", data := .fields #[.none, .bool false, .ref s.heap.objs.size, rawInt 0, .none, .none] }) rfl
    rw [hz] at this; exact this
  refine ⟨⟨_, he, rfl⟩, h _ he ⟨_, Heap.get?_push_of_some _ (Heap.get?_push_size _ rfl), rfl, rfl⟩ (by rw [Heap.size_push, hz]) fun b o x => Heap.get?_push_of_some _ (Heap.get?_push_of_some _ x)⟩
end
def IteT (K : PySem.W.Frag) (a : Addr) : It :=
  ⟨fun i H => ∃ (xs : List V) (x : V), SqT K H a xs ∧ xs[i]? = some x, fun i H v H' => ∃ T x, v = .ref T ∧ H T = none ∧ H' = upd H T (.tup [.int (i : Nat), x]) ∧ ∀ xs, SqT K H a xs → xs[i]? = some x, fun i H => ∃ xs : List V, SqT K H a xs ∧ xs.length = i⟩
theorem tup_ne {h : Heap} {a it : Addr} {items : Array Value} {i : Nat} (h1 : h.IsTuple a items) (h2 : h.IsTupleIter it a i) : a ≠ it := fun e => by
  obtain ⟨o, ho, hc, n, hd⟩ := h1
  obtain ⟨o', ho', hc', hd'⟩ := h2
  rw [e] at ho
  rw [ho] at ho'
  cases ho'
  rw [hd] at hd'
  cases hd'
theorem turn_enumT {P : Program} {w : World} {K : PySem.W.Frag} {elts : List Expr} {kk : Nat} {tpos : Pos} (a e it : Addr) (hae : a ≠ e) :
    Turn P w K (.Tuple elts kk tpos) (IteT K a) [e, it] e (fun i h => (∃ old, IsEnum h e it ((i : Nat) : Int) old) ∧ h.IsTupleIter it a i ∧ e ≠ it) where
  mem := by simp
  obj := fun i h st b hb => by
    obtain ⟨⟨old, he⟩, ⟨o, ho, hc, hd⟩, _⟩ := st
    have e' : b = e ∨ b = it := by simpa using hb
    rcases e' with z | z
    · rw [z]; exact ⟨_, he, fun v q => nomatch q⟩
    · rw [z]; exact ⟨o, ho, fun v q => by rw [hd] at q; cases q⟩
  keep := fun i h h' st k => let ⟨⟨old, he⟩, hi, hne⟩ := st; ⟨⟨old, k e (by simp) _ he⟩, hi.at fun o q => k it (by simp) o q, hne⟩
  item := by
    intro X hP hw hK hc i pins s σ H E I hf st hg
    subst hP hw hK
    obtain ⟨⟨old, he⟩, hit, hne⟩ := st
    obtain ⟨xs, x, hq, hx⟩ := hg
    obtain ⟨its, rv, p, hz⟩ := I.tuple hq
    have p : s.heap.IsTuple a its.toArray := p
    have hat : a ≠ it := tup_ne p hit
    have hel : e < s.heap.objs.size := Heap.lt_size he
    have hil : it < s.heap.objs.size := by obtain ⟨_, q, _⟩ := hit; exact Heap.lt_size q
    have hlen : i < its.toArray.size := by
      rw [List.size_toArray, ← rv.length]; exact (List.getElem?_eq_some_iff.mp hx).1
    refine wpAny_pyNext_enum_itemD (Draws.tuple (prog := X.prog) (w := X.w) (A := X.A.in1) (I.ok.hd hc) it a hat its.toArray) he ⟨hit, p⟩ hlen hne (by simp; exact ⟨hne, fun z => hae z.symm⟩) fun u h' tk hu ho hit' hT hsz hk => ?_
    obtain ⟨u', hu', ru'⟩ := rv.get hx
    have eu : u = u' := by
      have h1 : its[i]? = some u := by simpa using hu
      rw [h1] at hu'; exact Option.some.inj hu'
    subst eu
    refine ⟨_, rfl, wpAny_letOwnedTupleGo_enum (s := { s with heap := h', toks := tk + 1 }) ho fun h'' he' sb => ?_⟩
    have hT2 : h''.get? s.heap.objs.size = some { cls := .type "tuple", data := .seq #[.int i tk, u] } := (sb.2 _ (Nat.ne_of_gt hel)).trans hT
    have new : ObjOk X.prog X.w (upd H s.heap.objs.size (.tup [.int (i : Nat), x])) h'' s.heap.objs.size (.tup [.int (i : Nat), x]) :=
      ⟨by show 2 ≤ sizeLine; decide, [.int i tk, u], .cons ⟨_, rfl⟩ (.cons ru' .nil), ⟨_, hT2, rfl, _, rfl⟩⟩
    have I1 : Inv X pins σ (upd H s.heap.objs.size (.tup [.int (i : Nat), x])) { s with heap := h'', toks := tk + 1 } :=
      I.turnedNew (ch := [e, it]) (fun b ob hb q => (sb.2 b (fun z => hb (by simp [z]))).trans (hk b ob (fun z => hb (by simp [z])) (fun z => hb (by simp [z])) q)) hf (Nat.le_refl _) new
    refine ⟨.ref s.heap.objs.size, _, I1, rfl, ⟨_, x, rfl, I.hok.fresh (Nat.le_refl _), rfl, fun ys hy => by rw [I.tuple_inj hy hq]; exact hx⟩, ⟨⟨u, ?_⟩, hit'.1.at fun o q => (sb.2 it (Ne.symm hne)).trans q, hne⟩, fun b hb => ?_⟩
    · have e1 : ((i + 1 : Nat) : Int) = (i : Int) + 1 := by omega
      rw [e1]; exact he'
    · have hb' : b < s.heap.objs.size := by
        have e' : b = e ∨ b = it := by simpa using hb
        rcases e' with z | z
        · rw [z]; exact hel
        · rw [z]; exact hil
      rw [upd_ne (Nat.ne_of_lt hb')]
      exact (hf b hb).1
  done := by
    intro X hP hw hK hc i pins s σ H E I hf st hg
    subst hP hw hK
    obtain ⟨⟨old, he⟩, hit, hne⟩ := st
    obtain ⟨xs, hq, hx⟩ := hg
    obtain ⟨its, rv, p, hz⟩ := I.tuple hq
    have p : s.heap.IsTuple a its.toArray := p
    have hat : a ≠ it := tup_ne p hit
    obtain ⟨f0, f1, f2, f3, f4, f5⟩ := hf it (by simp)
    have hlen : its.toArray.size = i := by rw [List.size_toArray, ← rv.length, hx]
    refine wpAny_pyNext_enum_endD (Draws.tuple (prog := X.prog) (w := X.w) (A := X.A.in1) (I.ok.hd hc) it a hat its.toArray) he ?_ fun h' eb => ⟨rfl, I.turned (t' := s.toks) (fun b o hb q => eb b o hb q) f0 f1 f3 f4 f5⟩
    rw [hlen]
    exact ⟨hit, p⟩
  self := fun A i s Q E st h => let ⟨⟨_, he⟩, _⟩ := st; wpAny_pyIter_enum he h
def iEnumT (K : PySem.W.Frag) (ta : TA) : TI := fun σ H R => ta σ H fun vs H1 => ∃ a xs, vs = [.ref a] ∧ SqT K H1 a xs ∧ R (IteT K a) H1
theorem pi_enumT {X : Cx} {e : Expr} {ta : TA} {p pos tpos : Pos} {elts : List Expr} {kk : Nat} (hg : Gl X "enumerate") (hm : X.mg "enumerate" = none) (ha : PA X [e] ta) (hs : starEach [e] X.env = [(false, eval e X.env)] := by rfl) :
    PI X (.Tuple elts kk tpos) (.Call (.Name "enumerate" p) [e] [] pos) (iEnumT X.K ta) := by
  refine ⟨fun pins s σ H R I h => ?_⟩
  refine Call_ (ld_blt I hg hm boot_enumerate (PyProof.Rows.callWith_type1 (thn (ha.run pos pins s σ H _ I h) fun us s1 ⟨vs, H1, I1, r1, q1⟩ => ?_) hs rfl))
  obtain ⟨a, xs, ex, hq, q⟩ := q1
  subst ex
  cases r1 with
  | cons r rr =>
    cases rr
    cases r
    obtain ⟨its, rv, p', hz⟩ := I1.tuple hq
    have hlt : a < s1.heap.objs.size := by obtain ⟨_, e, _⟩ := p'; exact Heap.lt_size e
    refine call_enumerate_tuple p' fun h' he hit hsz hk => wpAny_pyIter_enum he ?_
    have I2 : Inv X pins σ H1 { s1 with heap := h' } := I1.kept (t' := s1.toks) hk
    refine ⟨s1.heap.objs.size + 1, [s1.heap.objs.size + 1, s1.heap.objs.size], _, _, H1, rfl, I2, turn_enumT a (s1.heap.objs.size + 1) s1.heap.objs.size (Nat.ne_of_lt (Nat.lt_succ_of_lt hlt)), ⟨⟨.none, he⟩, hit, Nat.succ_ne_self _⟩, fun b hb => ?_, q⟩
    have e' : b = s1.heap.objs.size + 1 ∨ b = s1.heap.objs.size := by simpa using hb
    have hle : s1.heap.objs.size ≤ b := by
      rcases e' with z | z
      · rw [z]; exact Nat.le_add_right _ _
      · rw [z]; exact Nat.le_refl _
    exact I1.fpOk hle (I1.hok.fresh hle)
theorem walk_enumT {K : PySem.W.Frag} {a : Addr} {xs : List V} : Walk (IteT K a) xs.length (fun H => SqT K H a xs) (YPair (fun i => some (.int (i : Nat))) (fun i => xs[i]?)) := by
  refine ⟨fun i H hi hG => ⟨xs, xs[i], hG, List.getElem?_eq_getElem hi⟩, fun H hG => ⟨xs, hG, rfl⟩, fun i H x H' hi hG y => ?_⟩
  obtain ⟨T, x, e1, e2, e3, e4⟩ := y
  exact ⟨T, _, x, e1, e2, e3, rfl, e4 xs hG⟩

/-! ### tuple.index of an int -/
theorem flat_ints (ns : List Int) : (ns.map V.int).all flatV = true := by
  rw [List.all_map]
  exact List.all_eq_true.mpr fun _ _ => rfl
theorem mt_tindex {X : Cx} : MtR X "tuple.index" (fun x xs H Q => ∃ p, ∃ ys : List Int, ∃ z j, x = .ref p ∧ xs = [.int z] ∧ SqT X.K H p (ys.map V.int) ∧ ys[j]? = some z ∧ (∀ m, m < j → ys[m]? ≠ some z) ∧ Q (.int (j : Nat)) H) := by
  intro pins s σ H x xs v us Q I rx rs h
  obtain ⟨p, ys, z, j, rfl, rfl, hq, hy, hno, q⟩ := h
  cases rx
  obtain ⟨u, rfl, t, rfl⟩ := vals1 rs
  obtain ⟨its, r, pl, hz⟩ := I.tuple hq
  obtain ⟨⟨cls, dd, dt, sl⟩, ho, hc, n, hd⟩ := pl
  simp only at hc hd
  subst hc
  subst hd
  have hl : its.toArray.size = ys.length := by rw [List.size_toArray, ← r.length, List.length_map]
  have hj : j < its.toArray.size := by rw [hl]; exact (List.getElem?_eq_some_iff.mp hy).1
  have at' : ∀ (m : Nat) (hm : m < its.toArray.size), ∃ y t', ys[m]? = some y ∧ its.toArray[m] = Value.int y t' := fun m hm => by
    have hm' : m < ys.length := by rw [← hl]; exact hm
    obtain ⟨w, hw, t', hw'⟩ := r.get (i := m) (x := .int ys[m]) (by simp [hm'])
    refine ⟨ys[m], t', List.getElem?_eq_getElem hm', ?_⟩
    have e := (List.getElem?_eq_some_iff.mp hw).2
    rw [← hw', ← e]
    simp
  refine call_meets PySem.F.slot_tuple_index ⟨_, ho, rfl⟩ PySem.F.entry_tuple_index (PySem.F.args_tuple_index_2 _ _) (TI.tuple_indexAt p its.toArray n dd sl (.int z t) (eqU (.int z)) j hj ?_ ?_)
    ⟨ho, fun w hw => mem_eqAt (x := .int z) ⟨t, rfl⟩ rfl r (flat_ints ys) w (by simpa using hw), ⟨.int (j : Nat), H, I.tok _, ⟨_, rfl⟩, q⟩⟩
  · obtain ⟨y, t', h1, h2⟩ := at' j hj
    rw [hy] at h1
    cases h1
    rw [h2]
    show (z == z) = true
    exact beq_self_eq_true z
  · intro m hm hmj
    obtain ⟨y, t', h1, h2⟩ := at' m hm
    rw [h2]
    show (y == z) = false
    exact beq_eq_false_iff_ne.mpr fun e => hno m hmj (e ▸ h1)

/-! ### rules by the written part K itself (for a comprehension's block) -/
def rLen (K : PySem.W.Frag) : List V → Hp → VK → Prop := fun xs H Q => ∃ p ys, xs = [.ref p] ∧ (SqL K H p ys ∨ SqT K H p ys) ∧ Q (.int ys.length) H
def rTupOf (K : PySem.W.Frag) : List V → Hp → VK → Prop := fun xs H Q => ∃ p ys, xs = [.ref p] ∧ ((SqL K H p ys ∧ ∀ l, H l = none → Q (.ref l) (upd H l (.tup ys))) ∨ (SqT K H p ys ∧ Q (.ref p) H))
def rListOf (K : PySem.W.Frag) : List V → Hp → VK → Prop := fun xs H Q => ∃ p ys, xs = [.ref p] ∧ (SqL K H p ys ∨ SqT K H p ys) ∧ ∀ l, H l = none → Q (.ref l) (upd H l (.lst ys))
section
variable {X : Cx} {K : PySem.W.Frag}
theorem k_len (hK : X.K = K) : CallR X (.builtin "len") (rLen K) := by subst hK; exact call_len_seq
theorem k_tupOf (hK : X.K = K) : CallR X (.type "tuple") (rTupOf K) := by subst hK; exact call_tuple_of
theorem k_listOf (hK : X.K = K) : CallR X (.type "list") (rListOf K) := by subst hK; exact call_list_of
theorem k_isi (hK : X.K = K) : CallR X (.builtin "isinstance") (rIsi K) := by subst hK; exact call_isi
theorem k_ixT (hK : X.K = K) : IxR X (rIxT K) := by subst hK; exact ix_tup
theorem k_ixL (hK : X.K = K) : IxR X (rIxL K) := by subst hK; exact ix_list
theorem k_slT (hK : X.K = K) : SlR X (rSlA K) := by subst hK; exact sl_tupA
theorem k_catT (hK : X.K = K) : OpR X (binaryOp .Add) (rCatA K) := by subst hK; exact op_catA
theorem k_sumT (hK : X.K = K) (hc : X.calm = true) : CallR X (.builtin "sum") (rSumT K) := by subst hK; exact cr_sumT hc
end

/-! ### a statement, then the rest, with a word between them -/
def tCut (t u : TS) : TS := fun D σ H => ∃ Mid : L2.St → Hp → Prop, t { D with nx := Mid } σ H ∧ ∀ σ' H', Mid σ' H' → u D σ' H'
theorem pss_cut {X : Cx} {st : Stmt} {rest : List Stmt} {t u : TS} (h1 : PS X st t) (h2 : PSs X rest u) : PSs X (st :: rest) (tCut t u) := by
  refine ⟨fun pins s σ H D I h => ?_⟩
  obtain ⟨Mid, hm, hu⟩ := h
  refine wpAny_execs_cons (thn (h1.run pins s σ H { D with nx := Mid } I hm) fun f s1 q => ?_)
  cases f with
  | next =>
    obtain ⟨σ', H', I', q⟩ := q
    exact h2.run pins s1 σ' H' D I' (hu σ' H' q)
  | ret v => exact q
  | brk => exact q
  | cont => exact q

/-! ### a tuple that is known to be plain; its method index -/
def rTupOfZ (K : PySem.W.Frag) : List V → Hp → VK → Prop := fun xs H Q => ∃ p ys, xs = [.ref p] ∧ SqL K H p ys ∧ ∀ l o, H l = none → o.dict = none → Q (.ref l) (upd H l (.frz o (.tup ys)))
theorem k_tupOfZ {X : Cx} {K : PySem.W.Frag} (hK : X.K = K) : CallR X (.type "tuple") (rTupOfZ K) := by
  subst hK
  intro pins s σ H xs us Q I r h
  obtain ⟨p, ys, rfl, hq, q⟩ := h
  obtain ⟨u, rfl, rx⟩ := vals1 r
  cases rx
  obtain ⟨its, r', pl, hz⟩ := I.list hq
  have hlen := r'.length
  refine call_tuple_list pl.isList (fun h' kp => ?_) (by simp only [List.size_toArray] <;> omega)
  have I1 : Inv X pins σ H { s with heap := h' } := I.kept (t' := s.toks) kp
  have I2 : Inv X pins σ (upd H h'.objs.size (.frz { cls := .type "tuple", data := .seq its.toArray } (.tup ys))) { s with heap := h'.push { cls := .type "tuple", data := .seq its.toArray } } :=
    I1.laid (t' := s.toks) (fun b o e => Heap.get?_push_of_some _ e) (Nat.le_refl _) (show ObjOk X.prog X.w _ _ _ (.frz _ (.tup ys)) from ⟨Heap.get?_push_size _ rfl, hz, its, r', IsTup.new _ _⟩)
  exact ⟨.ref h'.objs.size, _, I2, rfl, q _ _ (I1.hok.fresh (Nat.le_refl _)) rfl⟩
def tTM (r : V → List V → Hp → VK → Prop) (to : TE) (t : TA) : TE := fun σ H Q => to σ H fun x H1 => (∃ a ob xs, x = .ref a ∧ H1 a = some (.frz ob (.tup xs)) ∧ ob.dict = none) ∧ t σ H1 fun xs H2 => r x xs H2 Q
theorem pe_tm {X : Cx} {o e : Expr} {es : List Expr} {to : TE} {t : TA} {name : Str} {apos cpos : Pos} {id : String} {r : V → List V → Hp → VK → Prop} (slot : Slot "tuple" name id) (hty : typeOf (.builtin id) = pure (.type "method_descriptor")) (hm : MtR X id r) (ho : PE X o to) (ha : PA X (e :: es) t)
    (hbase : attributeBase o name X.env (eval o X.env) = eval o X.env := by rfl)
    (hfew : ((backTo cpos (starEach (e :: es) X.env)).all (fun x => !x.1) && (backToKw cpos (keywordEach [] X.env)).all (fun x => x.1.isSome)
      && decide ((e :: es).length + ([] : List Keyword).length + (if ([] : List Keyword).isEmpty then 0 else 1) < 30)) = true := by rfl)
    (hline : (apos.endLine == cpos.line) = true := by rfl) (hs : starEach (e :: es) X.env = (false, eval e X.env) :: starEach es X.env := by rfl) (hplain : (backTo cpos (starEach es X.env)).any (·.1) = false := by rfl) :
    PE X (.Call (.Attribute o name apos) (e :: es) [] cpos) (tTM r to t) := by
  refine ⟨fun pins s σ H Q I h => ?_⟩
  refine wpAny_Call_method_late hbase hfew hline rfl (thn (ho.run pins s σ H _ I h) fun v s1 ⟨x, H1, I1, r1, ty, q1⟩ => ?_)
  obtain ⟨a, ob, xs, rfl, hf, hd⟩ := ty
  cases r1
  obtain ⟨hg, hz, its, rv, o', ho', hc, _⟩ := (show ObjOk X.prog X.w H1 s1.heap a (.frz ob (.tup xs)) from I1.hok a _ hf)
  have hc' : ob.cls = .type "tuple" := by rw [hg] at ho'; cases ho'; exact hc
  refine ⟨"tuple", id, PySem.F.plainAttrs_tuple, slot, hty, ⟨ob, hg, hc'⟩, fun b e => by cases e; exact ⟨ob, hg, hd⟩, ?_⟩
  have hA := ha.run cpos pins s1 σ H1 _ I1 q1
  rw [hs] at hA ⊢
  refine Calls.callWith_builtin (by show (false || (backTo cpos (starEach es X.env)).any (·.1)) = false; rw [hplain] <;> rfl) (Calls.evalArgs_plain ?_)
  exact thn hA fun us s2 ⟨vs, H2, I2, r2, q2⟩ => hm pins s2 σ H2 (.ref a) vs (.ref a) us Q I2 rfl r2 q2

/-! ### places in the text -/
def xAsg : Stmt → Expr
  | .Assign _ e _ => e
  | _ => .Constant .none 0 ⟨0, 0, 0, 0⟩
def xArg (i : Nat) : Expr → Expr
  | .Call _ as _ _ => as.getD i (.Constant .none 0 ⟨0, 0, 0, 0⟩)
  | _ => .Constant .none 0 ⟨0, 0, 0, 0⟩
def xLcSc : Expr → Scope
  | .ListComp _ _ sc _ => sc
  | _ => { kind := .function, names := [], isGenerator := false, isCoroutine := false }
/-! ### readings are monotone -/
theorem mono_pair {K : PySem.W.Frag} {n i j : Nat} (x : V) (σ' : L2.St) (H' : Hp) (Q Q' : L2.St → Hp → Prop) (h : ∀ a b, Q a b → Q' a b) (e : gTup K n (gCons (gName i) (gCons (gName j) gNil)) x σ' H' Q) : gTup K n (gCons (gName i) (gCons (gName j) gNil)) x σ' H' Q' := by
  obtain ⟨a, xs, e1, e2, e3, v, r, e4, v', r', e5, e6, q⟩ := e
  exact ⟨a, xs, e1, e2, e3, v, r, e4, v', r', e5, e6, h _ _ q⟩

section
variable {X : Cx} {K : PySem.W.Frag}
theorem k_piL {tg l : Expr} {tl : TE} (hK : X.K = K) (hl : PE X l tl) : PI X tg l (iList K tl) := by subst hK; exact pi_list hl
theorem k_piT {tg l : Expr} {tl : TE} (hK : X.K = K) (hl : PE X l tl) : PI X tg l (iTup K tl) := by subst hK; exact pi_tup hl
theorem k_pgT2 {x y : Str} {px py : Pos} {k : Nat} {pos : Pos} {t1 t2 : TG} (hK : X.K = K) (hc : X.calm = true) (h1 : PG X (.Name x px) t1) (h2 : PG X (.Name y py) t2) : PG X (.Tuple [.Name x px, .Name y py] k pos) (gTup K 2 (gCons t1 (gCons t2 gNil))) := by
  subst hK
  exact pg_tup hc (pgs_cons h1 (pgs_cons h2 pgs_nil))
end
end MB

set_option maxHeartbeats 4000000
namespace MB
open PySem PySem.Spec PyProof.Rows L2

/-! ### heaps -/
theorem same_upd {H : Hp} {p : Addr} {o : HO} (h : H p = none) : Same H (upd H p o) := fun b x e => by
  rw [upd_ne (ne_of_none e h)]
  exact e
/-- an object that was not tracked may change -/
theorem Same.mut {H H' : Hp} {p : Addr} {o : HO} (s : Same H H') (h : H p = none) : Same H (upd H' p o) := fun b x e => by
  rw [upd_ne (ne_of_none e h)]
  exact s _ _ e
theorem Same.tup {K : PySem.W.Frag} {H H' : Hp} {a : Addr} {xs : List V} (e : Same H H') (h : SqT K H a xs) : SqT K H' a xs := by
  rcases h with (h | ⟨o, h⟩) | h
  · exact .inl (.inl (e _ _ h))
  · exact .inl (.inr ⟨o, e _ _ h⟩)
  · exact .inr h
theorem Same.tupF {K : PySem.W.Frag} {H H' : Hp} {a : Addr} {o : Obj} {xs : List V} (e : Same H H') (h : H a = some (.frz o (.tup xs))) : SqT K H' a xs := .inl (.inr ⟨o, e _ _ h⟩)
theorem Dp.same {K : PySem.W.Frag} {H H' : Hp} (e : Same H H') : ∀ {v : V} {d : PyData}, Dp K H v d → Dp K H' v d := by
  intro v d h
  refine Dp.rec (motive_1 := fun v d _ => Dp K H' v d) (motive_2 := fun vs ds _ => DpAll K H' vs ds) ?_ ?_ ?_ ?_ ?_ ?_ ?_ ?_ h
  · exact .non
  · intro b; exact .bl b
  · intro i; exact .int i
  · intro x; exact .str x
  · intro a xs ds hs _ ih; exact .lst (e.seq hs) ih
  · intro a xs ds hs _ ih; exact .tup (Same.tup e hs) ih
  · exact .nil
  · intro v vs d ds _ _ h1 h2; exact .cons h1 h2
theorem DpAll.get {K : PySem.W.Frag} {H : Hp} : ∀ {vs : List V} {ds : List PyData}, DpAll K H vs ds → ∀ {i : Nat} {d : PyData}, ds[i]? = some d → ∃ v, vs[i]? = some v ∧ Dp K H v d
  | _, _, .nil, i, d, h => by simp at h
  | _, _, .cons a b, 0, d, h => by
    simp at h; subst h
    exact ⟨_, rfl, a⟩
  | _, _, .cons a b, i + 1, d, h => by
    obtain ⟨v, h1, h2⟩ := DpAll.get b (i := i) (d := d) (by simpa using h)
    exact ⟨v, by simpa using h1, h2⟩
theorem DpAll.len {K : PySem.W.Frag} {H : Hp} : ∀ {vs : List V} {ds : List PyData}, DpAll K H vs ds → vs.length = ds.length
  | _, _, .nil => rfl
  | _, _, .cons a b => by simp [DpAll.len b]
theorem DpAll.take {K : PySem.W.Frag} {H : Hp} : ∀ {vs : List V} {ds : List PyData} (n : Nat), DpAll K H vs ds → DpAll K H (vs.take n) (ds.take n)
  | _, _, 0, _ => .nil
  | _, _, _ + 1, .nil => .nil
  | _, _, n + 1, .cons a b => .cons a (DpAll.take n b)
theorem DpAll.append {K : PySem.W.Frag} {H : Hp} : ∀ {vs ws : List V} {ds es : List PyData}, DpAll K H vs ds → DpAll K H ws es → DpAll K H (vs ++ ws) (ds ++ es)
  | _, _, _, _, .nil, s => s
  | _, _, _, _, .cons a b, s => .cons a (DpAll.append b s)
theorem DpAll.same {K : PySem.W.Frag} {H H' : Hp} (e : Same H H') : ∀ {vs : List V} {ds : List PyData}, DpAll K H vs ds → DpAll K H' vs ds
  | _, _, .nil => .nil
  | _, _, .cons a b => .cons (Dp.same e a) (DpAll.same e b)
theorem dp_ints {K : PySem.W.Frag} {H : Hp} : ∀ ns : List Int, DpAll K H (ns.map V.int) (ns.map PyData.int)
  | [] => .nil
  | n :: ns => .cons (.int n) (dp_ints ns)
theorem ty_tup {K : PySem.W.Frag} {H : Hp} {a : Addr} {xs : List V} (h : SqT K H a xs) : TyX K H (.ref a) (.type "tuple") := by
  rcases h with (h | ⟨o, h⟩) | ⟨o, its, n, h, hc, _⟩
  · exact .base (.tup h)
  · exact .fTuple h
  · exact .kTuple h hc

/-! ### lists of numbers -/
def vi (p : List Nat) : List V := p.map fun (m : Nat) => V.int (m : Int)
def ci (p : List Nat) : List Int := p.map fun (m : Nat) => (m : Int)
theorem vi_ci (p : List Nat) : vi p = (ci p).map V.int := by simp [vi, ci]
theorem vi_len (p : List Nat) : (vi p).length = p.length := by simp [vi]
theorem vi_get {p : List Nat} {i m : Nat} (h : p[i]? = some m) : (vi p)[i]? = some (.int (m : Int)) := by simp [vi, h]
theorem vi_app (p q : List Nat) : vi (p ++ q) = vi p ++ vi q := by simp [vi]
theorem at_vi {p : List Nat} {i m : Nat} (h : p[i]? = some m) : atI (vi p) (i : Int) = some (.int (m : Int)) := atI_nat (vi_get h)
theorem sz60 {n : Nat} (h : n ≤ 100000) : n ≤ sizeLine := Nat.le_trans h (by decide)
theorem sz61 {n : Nat} (h : n ≤ 100000) : n < sizeLine := Nat.lt_of_le_of_lt h (by decide)
theorem decT {c : Prop} [Decidable c] (h : c) {A B : Prop} (a : A) : if decide c = true then A else B := by
  rw [if_pos (decide_eq_true h)]; exact a
theorem decF {c : Prop} [Decidable c] (h : ¬ c) {A B : Prop} (b : B) : if decide c = true then A else B := by
  rw [if_neg (by simp [h])]; exact b

/-! ### data of tuples: no list within -/
inductive Tf : PyData → Prop
  | non : Tf .none
  | bl (b : Bool) : Tf (.bool b)
  | int (i : Int) : Tf (.int i)
  | str (x : Str) : Tf (.str x)
  | tup {ds : List PyData} : (∀ d, d ∈ ds → Tf d) → Tf (.tuple ds)
theorem Tf.items {ds : List PyData} (h : Tf (.tuple ds)) : ∀ d, d ∈ ds → Tf d := by
  cases h with
  | tup h => exact h
theorem tf_ints (ns : List Int) : ∀ d, d ∈ ns.map PyData.int → Tf d := fun d h => by
  obtain ⟨i, _, rfl⟩ := List.mem_map.mp h
  exact .int i
/-- all tuples stay -/
def Keep (K : PySem.W.Frag) (H H' : Hp) : Prop := ∀ a xs, SqT K H a xs → SqT K H' a xs
theorem Keep.of {K : PySem.W.Frag} {H H' : Hp} (s : Same H H') : Keep K H H' := fun _ _ h => Same.tup s h
theorem Keep.trans {K : PySem.W.Frag} {H H1 H2 : Hp} (a : Keep K H H1) (b : Keep K H1 H2) : Keep K H H2 := fun _ _ h => b _ _ (a _ _ h)
theorem Keep.refl {K : PySem.W.Frag} {H : Hp} : Keep K H H := fun _ _ h => h
/-- all but the list at l stay -/
def But (l : Addr) (H H' : Hp) : Prop := ∀ b o, b ≠ l → H b = some o → H' b = some o
theorem But.refl {l : Addr} {H : Hp} : But l H H := fun _ _ _ h => h
theorem But.trans {l : Addr} {H H1 H2 : Hp} (a : But l H H1) (b : But l H1 H2) : But l H H2 := fun c o n h => b c o n (a c o n h)
theorem But.of {l : Addr} {H H' : Hp} (s : Same H H') : But l H H' := fun c o _ h => s c o h
theorem But.upd {l : Addr} {H : Hp} {o : HO} : But l H (L2.upd H l o) := fun c u n h => by rw [upd_ne n]; exact h
theorem But.keep {K : PySem.W.Frag} {l : Addr} {H H' : Hp} {ys : List V} (s : But l H H') (hl : H l = some (.lst ys)) : Keep K H H' := fun a xs h => by
  rcases h with (h | ⟨o, h⟩) | h
  · exact .inl (.inl (s _ _ (fun e => by rw [e, hl] at h; cases h) h))
  · exact .inl (.inr ⟨o, s _ _ (fun e => by rw [e, hl] at h; cases h) h⟩)
  · exact .inr h
theorem But.same {l : Addr} {H0 H H' : Hp} (s : Same H0 H) (b : But l H H') (n : H0 l = none) : Same H0 H' := fun c o e => b c o (ne_of_none e n) (s c o e)
theorem Dp.keep {K : PySem.W.Frag} {H H' : Hp} (e : Keep K H H') : ∀ {v : V} {d : PyData}, Tf d → Dp K H v d → Dp K H' v d := by
  intro v d t h
  refine Dp.rec (motive_1 := fun v d _ => Tf d → Dp K H' v d) (motive_2 := fun vs ds _ => (∀ d, d ∈ ds → Tf d) → DpAll K H' vs ds) ?_ ?_ ?_ ?_ ?_ ?_ ?_ ?_ h t
  · intro _; exact .non
  · intro b _; exact .bl b
  · intro i _; exact .int i
  · intro x _; exact .str x
  · intro a xs ds hs _ ih t; cases t
  · intro a xs ds hs _ ih t; exact .tup (e _ _ hs) (ih t.items)
  · intro _; exact .nil
  · intro v vs d ds _ _ h1 h2 t; exact .cons (h1 (t _ (List.mem_cons_self ..))) (h2 fun d hd => t d (List.mem_cons_of_mem _ hd))
theorem DpAll.keep {K : PySem.W.Frag} {H H' : Hp} (e : Keep K H H') : ∀ {vs : List V} {ds : List PyData}, (∀ d, d ∈ ds → Tf d) → DpAll K H vs ds → DpAll K H' vs ds
  | _, _, _, .nil => .nil
  | _, _, t, .cons a b => .cons (Dp.keep e (t _ (List.mem_cons_self ..)) a) (DpAll.keep e (fun d hd => t d (List.mem_cons_of_mem _ hd)) b)
theorem dp_ints_inv {K : PySem.W.Frag} {H : Hp} : ∀ {ns : List Int} {vs : List V}, DpAll K H vs (ns.map PyData.int) → vs = ns.map V.int
  | [], _, .nil => rfl
  | n :: ns, _, .cons a b => by
    cases a
    rw [dp_ints_inv b]
    rfl
theorem Dp.tupInv {K : PySem.W.Frag} {H : Hp} {v : V} {ds : List PyData} (h : Dp K H v (.tuple ds)) : ∃ a xs, v = .ref a ∧ SqT K H a xs ∧ DpAll K H xs ds := by
  cases h with
  | tup h1 h2 => exact ⟨_, _, rfl, h1, h2⟩
theorem Dp.intsInv {K : PySem.W.Frag} {H : Hp} {v : V} {ns : List Int} (h : Dp K H v (.tuple (ns.map PyData.int))) : ∃ a, v = .ref a ∧ SqT K H a (ns.map V.int) := by
  obtain ⟨a, xs, e, h1, h2⟩ := Dp.tupInv h
  rw [dp_ints_inv h2] at h1
  exact ⟨a, e, h1⟩

/-! ### a comprehension that gives an item at each turn -/
theorem lc_all {K : PySem.W.Frag} {J : It} {n : Nat} {G : Hp → Prop} {Y : Nat → Hp → V → Hp → Prop} (w : Walk J n G Y) {g : TG} {tt : TT} {te : TE} {vs : List Nat} {σ : L2.St} {H1 : Hp} {D : Addr} {Qd : Hp → Prop}
    (ds : List PyData) (hl : ds.length = n) (ht : ∀ d, d ∈ ds → Tf d) (hn : n ≤ 1000) (hD : H1 D = none) (hG : ∀ H, Same H1 H → G H)
    (hs : ∀ i x H H', i < n → Same H1 H → Y i H x H' → ∀ d, ds[i]? = some d → ∀ R : V → Hp → Prop, (∀ y H4, Same H H4 → Dp K H4 y d → R y H4) →
      g x (wipe σ vs) H' fun σ2 H2 => wipe σ2 vs = wipe σ vs ∧ tt σ2 H2 fun b H3 => b = true ∧ te σ2 H3 R)
    (hd : ∀ H acc, Same H1 H → H D = some (.lst acc) → DpAll K H acc ds → Qd H)
    (mg : ∀ x σ' H' (Q Q' : L2.St → Hp → Prop), (∀ a b, Q a b → Q' a b) → g x σ' H' Q → g x σ' H' Q') (mt : ∀ σ' H' (Q Q' : Bool → Hp → Prop), (∀ a b, Q a b → Q' a b) → tt σ' H' Q → tt σ' H' Q') :
    ∃ W : Nat → Nat → Hp → Prop, (∃ m, W 0 m (upd H1 D (.lst []))) ∧ ∀ i m H, W i m H →
      (J.stop i H ∧ Qd H) ∨ (J.go i H ∧ ∃ Nx : Hp → Prop, (∀ H', Nx H' → ∃ m', m' < m ∧ W (i + 1) m' H') ∧ ∀ x H', J.yld i H x H' → g x (wipe σ vs) H' fun σ2 H2 => wipe σ2 vs = wipe σ vs ∧ tt σ2 H2 fun b H3 =>
        if b = true then te σ2 H3 fun y H4 => ∃ acc, H4 D = some (.lst acc) ∧ acc.length < sizeLine ∧ Nx (upd H4 D (.lst (acc ++ [y]))) else Nx H3) := by
  refine lc_it w (fun i H => Same H1 H ∧ ∃ acc, H D = some (.lst acc) ∧ DpAll K H acc (ds.take i)) ⟨same_upd hD, [], upd_same, .nil⟩ (fun i H _ h => hG H h.1) ?_ ?_
  · rintro i x H H' hi ⟨s1, acc, ha, hA⟩ hy
    have hd' : ds[i]? = some ds[i] := List.getElem?_eq_getElem (by omega)
    have hlen := DpAll.len hA
    rw [List.length_take] at hlen
    refine mg _ _ _ _ _ ?_ (hs i x H H' hi s1 hy ds[i] hd' (fun y H4 => ∃ acc, H4 D = some (.lst acc) ∧ acc.length < sizeLine ∧ (Same H1 (upd H4 D (.lst (acc ++ [y]))) ∧ ∃ acc', (upd H4 D (.lst (acc ++ [y]))) D = some (.lst acc') ∧ DpAll K (upd H4 D (.lst (acc ++ [y]))) acc' (ds.take (i + 1)))) ?_)
    · rintro σ2 H2 ⟨h1, h2⟩
      refine ⟨h1, mt _ _ _ _ ?_ h2⟩
      rintro b H3 ⟨rfl, h3⟩
      exact iteT h3
    · intro y H4 s4 hy4
      refine ⟨acc, s4 _ _ ha, sz61 (by omega), Same.mut (s1.trans s4) hD, acc ++ [y], upd_same, ?_⟩
      have kp : Keep K H4 (upd H4 D (.lst (acc ++ [y]))) := But.keep But.upd (s4 _ _ ha)
      rw [List.take_add_one, hd']
      refine DpAll.keep kp (fun d h => ?_) (DpAll.append (DpAll.same s4 hA) (.cons hy4 .nil))
      rcases List.mem_append.mp h with h | h
      · exact ht d (List.mem_of_mem_take h)
      · have e : d = ds[i] := by simpa using h
        rw [e]; exact ht _ (List.getElem_mem ..)
  · rintro H ⟨s1, acc, ha, hA⟩
    rw [List.take_of_length_le (by omega)] at hA
    exact hd H acc s1 ha hA

/-! ### tuples cut and joined -/
theorem cut_to {xs : List V} {k : Nat} (h : k ≤ xs.length) : cutV xs none (some (k : Int)) = xs.take k := by
  unfold cutV
  rw [HT.sIx_none, HT.sIx_nat, Nat.min_eq_left h]
  simp
theorem cut_from {xs : List V} {k : Nat} (h : k ≤ xs.length) : cutV xs (some (k : Int)) none = xs.drop k := by
  unfold cutV
  rw [HT.sIx_none, HT.sIx_nat, Nat.min_eq_left h]
  rw [List.take_of_length_le (by rw [List.length_drop]; omega)]
theorem sl_read {K : PySem.W.Frag} {H : Hp} {a : Addr} {xs : List V} {lo hi : Option Int} {Q : VK} (h : SqT K H a xs) (q : ∀ p H', Same H H' → SqT K H' p (cutV xs lo hi) → Q (.ref p) H') : rSlA K (.ref a) lo hi H Q := by
  refine ⟨a, xs, rfl, h, fun e => q a H (Same.refl H) ?_, fun _ p hp => q p _ (same_upd hp) (.inl (.inl upd_same))⟩
  unfold cutV
  rw [e.1, e.2]
  simpa using h
theorem cat_read {K : PySem.W.Frag} {H : Hp} {a b : Addr} {xs ys : List V} {Q : VK} (ha : SqT K H a xs) (hb : SqT K H b ys) (hz : xs.length + ys.length ≤ 100000) (q : ∀ p H', Same H H' → SqT K H' p (xs ++ ys) → Q (.ref p) H') : rCatA K (.ref a) (.ref b) H Q := by
  refine ⟨a, b, xs, ys, rfl, rfl, ha, hb, sz60 hz, fun e => q b H (Same.refl H) ?_, fun _ e => q a H (Same.refl H) ?_, fun _ _ p hp => q p _ (same_upd hp) (.inl (.inl upd_same))⟩
  · rw [e]; exact hb
  · rw [e, List.append_nil]; exact ha
theorem DpAll.snoc {K : PySem.W.Frag} {H : Hp} : ∀ {vs : List V} {ds : List PyData} {d : PyData}, DpAll K H vs (ds ++ [d]) → ∃ us v, vs = us ++ [v] ∧ DpAll K H us ds ∧ Dp K H v d
  | _, [], _, .cons a .nil => ⟨[], _, rfl, .nil, a⟩
  | _, _ :: ds, _, .cons a b => by
    obtain ⟨us, v, e, h1, h2⟩ := DpAll.snoc b
    exact ⟨_ :: us, v, by rw [e]; rfl, .cons a h1, h2⟩
theorem ixN_of {n j : Nat} (hj : j < n) : ixN n (j : Int) = some j := by
  unfold ixN
  rw [if_pos (by omega), if_pos (by omega)]
  simp
theorem vi_set (c : List Nat) (k v : Nat) : (vi c).set k (.int (v : Int)) = vi (c.set k v) := by
  unfold vi
  rw [List.map_set]
theorem vi_rep (n v : Nat) : vi (List.replicate n v) = List.replicate n (.int (v : Int)) := by simp [vi]

/-! ### [x for x in range(lo, hi) if ..] -/
theorem lc_fil {lo : Int} {n j : Nat} {vs : List Nat} {σ : L2.St} {H1 : Hp} {D : Addr} {Qd : Hp → Prop} {tt : TT} (f : Nat → Bool) (hn : n ≤ 1000) (hD : H1 D = none)
    (hw : ∀ x, wipe ((wipe σ vs).set j (some x)) vs = wipe σ vs) (hj : ∀ x : V, ((wipe σ vs).set j (some x))[j]? = some (some x))
    (ht : ∀ (i : Nat) H (Q : Bool → Hp → Prop), i < n → Same H1 H → Q (f i) H → tt ((wipe σ vs).set j (some (.int (lo + (i : Nat))))) H Q)
    (hd : ∀ H, Same H1 H → H D = some (.lst (((List.range n).filter f).map fun (i : Nat) => V.int (lo + (i : Nat)))) → Qd H) :
    ∃ W : Nat → Nat → Hp → Prop, (∃ m, W 0 m (upd H1 D (.lst []))) ∧ ∀ i m H, W i m H →
      ((Itr lo n).stop i H ∧ Qd H) ∨ ((Itr lo n).go i H ∧ ∃ Nx : Hp → Prop, (∀ H', Nx H' → ∃ m', m' < m ∧ W (i + 1) m' H') ∧ ∀ x H', (Itr lo n).yld i H x H' → gName j x (wipe σ vs) H' fun σ2 H2 => wipe σ2 vs = wipe σ vs ∧ tt σ2 H2 fun b H3 =>
        if b = true then tVar j σ2 H3 fun y H4 => ∃ acc, H4 D = some (.lst acc) ∧ acc.length < sizeLine ∧ Nx (upd H4 D (.lst (acc ++ [y]))) else Nx H3) := by
  refine lc_range (lo := lo) (n := n) (fun i H => Same H1 H ∧ H D = some (.lst (((List.range i).filter f).map fun (i : Nat) => V.int (lo + (i : Nat))))) ⟨same_upd hD, upd_same⟩ ?_ ?_
  · rintro i H hi ⟨s1, h1⟩
    refine ⟨hw _, ht i H _ hi s1 ?_⟩
    have hlen : (((List.range i).filter f).map fun (i : Nat) => V.int (lo + (i : Nat))).length ≤ i := by
      rw [List.length_map]
      have := List.length_filter_le f (List.range i)
      rw [List.length_range] at this
      exact this
    by_cases hf : f i = true
    · rw [hf]
      refine iteT ⟨_, hj _, _, h1, sz61 (by omega), Same.mut s1 hD, ?_⟩
      rw [List.range_succ, List.filter_append, List.map_append]
      simp only [List.filter_cons, hf, if_true, List.filter_nil, List.map_cons, List.map_nil]
      exact upd_same
    · have hf' : f i = false := by simpa using hf
      rw [hf']
      refine iteF ⟨s1, ?_⟩
      rw [List.range_succ, List.filter_append, List.map_append]
      simpa [hf'] using h1
  · rintro H ⟨s1, h1⟩
    exact hd H s1 h1
theorem iteB1 {b : Bool} {A B : Prop} (h : b = true) (a : A) : if b = true then A else B := by rw [if_pos h]; exact a
theorem iteB0 {b : Bool} {A B : Prop} (h : b = false) (a : B) : if b = true then A else B := by rw [if_neg (by rw [h]; decide)]; exact a

/-! ### deep comparisons -/
theorem lay_all : ∀ {ds : List PyData}, (∀ d, d ∈ ds → d.canLay0 = true) → PyData.canLayAll0 ds = true
  | [], _ => by simp [PyData.canLayAll0]
  | d :: ds, h => by
    simp only [PyData.canLayAll0]
    rw [h d (List.mem_cons_self ..), lay_all fun e he => h e (List.mem_cons_of_mem _ he)]; rfl
theorem dep_all {k : Nat} : ∀ {ds : List PyData}, (∀ d, d ∈ ds → d.depth ≤ k) → PyData.depthAll ds ≤ k
  | [], _ => by simp [PyData.depthAll]
  | d :: ds, h => by
    simp only [PyData.depthAll]
    have h1 := h d (List.mem_cons_self ..)
    have h2 := dep_all (k := k) fun e he => h e (List.mem_cons_of_mem _ he)
    omega
/-- plain data of at most so many levels -/
def Sh (k : Nat) (d : PyData) : Prop := d.canLay0 = true ∧ d.depth ≤ k
theorem Sh.shaped {k : Nat} {d : PyData} (h : Sh k d) (hk : k ≤ 64) : SeqAt.shaped d = true := by
  unfold SeqAt.shaped
  rw [h.1, decide_eq_true (by have := h.2; omega)]; rfl
theorem Sh.tup {k : Nat} {ds : List PyData} (h : ∀ d, d ∈ ds → Sh k d) : Sh (k + 1) (.tuple ds) :=
  ⟨by simp only [PyData.canLay0]; exact lay_all fun d hd => (h d hd).1, by simp only [PyData.depth]; have := dep_all (k := k) (ds := ds) fun d hd => (h d hd).2; omega⟩
theorem Sh.lst {k : Nat} {ds : List PyData} (h : ∀ d, d ∈ ds → Sh k d) : Sh (k + 1) (.list ds) :=
  ⟨by simp only [PyData.canLay0]; exact lay_all fun d hd => (h d hd).1, by simp only [PyData.depth]; have := dep_all (k := k) (ds := ds) fun d hd => (h d hd).2; omega⟩
theorem Sh.int (i : Int) {k : Nat} : Sh k (.int i) := ⟨by simp [PyData.canLay0], by simp [PyData.depth]⟩
theorem Sh.ints {k : Nat} (ns : List Int) : ∀ d, d ∈ ns.map PyData.int → Sh k d := fun d h => by
  obtain ⟨i, _, rfl⟩ := List.mem_map.mp h
  exact .int i
theorem eq_data {K : PySem.W.Frag} {H : Hp} {x y : V} {d : PyData} {Q : VK} {k : Nat} (hx : Dp K H x d) (hy : Dp K H y d) (hs : Sh k d) (hk : k ≤ 64) (q : Q (.bl true) H) : rEqD K x y H Q :=
  ⟨d, d, hx, hy, hs.shaped hk, hs.shaped hk, by rw [SeqAt.eqv_refl d hs.1]; exact q⟩
theorem ne_data {K : PySem.W.Frag} {H : Hp} {x y : V} {d : PyData} {Q : VK} {k : Nat} (hx : Dp K H x d) (hy : Dp K H y d) (hs : Sh k d) (hk : k ≤ 64) (q : Q (.bl false) H) : rNeD K x y H Q :=
  ⟨d, d, hx, hy, hs.shaped hk, hs.shaped hk, by rw [SeqAt.eqv_refl d hs.1]; exact q⟩
theorem dp_tup {K : PySem.W.Frag} {H : Hp} {a : Addr} {ns : List Int} (h : SqT K H a (ns.map V.int)) : Dp K H (.ref a) (.tuple (ns.map PyData.int)) := .tup h (dp_ints ns)
theorem ne_ints {K : PySem.W.Frag} {H : Hp} {a b : Addr} {ns : List Int} {Q : VK} (ha : SqT K H a (ns.map V.int)) (hb : SqT K H b (ns.map V.int)) (q : Q (.bl false) H) : rNeD K (.ref a) (.ref b) H Q :=
  ne_data (dp_tup ha) (dp_tup hb) (Sh.tup (k := 0) (Sh.ints ns)) (by decide) q
end MB

set_option maxHeartbeats 4000000
namespace MB
open PySem PySem.Spec PyProof.Rows L2
/-! ### dicts whose keys are tuples of ints, by the data of the keys -/
abbrev KX := List (List Int × Addr × V)
def RX : KX → List (List Int × Addr × Value) → Prop := Paired fun p q => p.1 = q.1 ∧ p.2.1 = q.2.1 ∧ RelV p.2.2 q.2.2
def kvX (L : KX) : List (List Int × V) := L.map fun x => (x.1, x.2.2)
def putX (L : KX) (k : List Int) (b : Addr) (v : V) : KX :=
  if ((kvX L).any fun kv => decide (kv.1 = k)) = true then L.map (fun x => if x.1 = k then (x.1, x.2.1, v) else x) else L ++ [(k, b, v)]
theorem kvX_put (L : KX) (k : List Int) (b : Addr) (v : V) : kvX (putX L k b v) = putK (kvX L) k v := by
  unfold putX putK
  split
  · unfold kvX
    rw [List.map_map, List.map_map]
    refine List.map_congr_left fun x _ => ?_
    by_cases h : x.1 = k <;> simp [h]
  · simp [kvX]
theorem putX_key {L : KX} {k : List Int} {b : Addr} {v : V} {x : List Int × Addr × V} (h : x ∈ putX L k b v) : (∃ y ∈ L, x.1 = y.1 ∧ x.2.1 = y.2.1) ∨ (x.1 = k ∧ x.2.1 = b) := by
  unfold putX at h
  split at h
  · obtain ⟨y, hy, rfl⟩ := List.mem_map.mp h
    refine .inl ⟨y, hy, ?_⟩
    split <;> exact ⟨rfl, rfl⟩
  · rcases List.mem_append.mp h with h | h
    · exact .inl ⟨x, h, rfl, rfl⟩
    · simp only [List.mem_singleton] at h
      subst h
      exact .inr ⟨rfl, rfl⟩
theorem RX.val {L : KX} {xs : List (List Int × Addr × Value)} (r : RX L xs) (k : List Int) : RelO (valV (kvX L) k) ((atKey xs k).map (·.2)) := by
  unfold RX at r
  induction r with
  | nil => exact True.intro
  | @cons p q ps qs h t ih =>
    obtain ⟨h1, _, h2⟩ := h
    show RelO (valV ((p.1, p.2.2) :: kvX ps) k) _
    by_cases e : p.1 = k
    · have e' : q.1 = k := h1.symm.trans e
      have b : atKey (q :: qs) k = some q.2 := by simp [atKey, List.find?_cons, e']
      rw [valV_pos (p := (p.1, p.2.2)) e, b]; exact h2
    · have e' : ¬ q.1 = k := fun z => e (h1.trans z)
      have b : atKey (q :: qs) k = atKey qs k := by simp [atKey, List.find?_cons, e']
      rw [valV_neg (p := (p.1, p.2.2)) e, b]; exact ih
theorem RX.repl {L : KX} {xs : List (List Int × Addr × Value)} (r : RX L xs) (k : List Int) {y : V} {u : Value} (ry : RelV y u) :
    RX (L.map fun x => if x.1 = k then (x.1, x.2.1, y) else x) (xs.map (putAt k u)) := by
  unfold RX at r ⊢
  induction r with
  | nil => exact .nil
  | @cons p q ps qs h t ih =>
    rw [List.map_cons, List.map_cons]
    refine .cons ?_ ih
    obtain ⟨h1, h2, h3⟩ := h
    unfold putAt
    by_cases e : p.1 = k
    · rw [if_pos e, if_pos (h1.symm.trans e)]; exact ⟨h1, h2, ry⟩
    · rw [if_neg e, if_neg (fun z => e (h1.trans z))]; exact ⟨h1, h2, h3⟩
theorem RX.put {L : KX} {xs : List (List Int × Addr × Value)} (r : RX L xs) (k : List Int) {b : Addr} {y : V} {u : Value} (ry : RelV y u) : RX (putX L k b y) (storedH xs k b u) := by
  have e : ((kvX L).any fun kv => decide (kv.1 = k)) = (atKey xs k).isSome := by
    rw [valV_any, (r.val k).isSome_eq, Option.isSome_map]
  unfold putX storedH
  rw [e]
  by_cases q : (atKey xs k).isSome = true
  · rw [if_pos q, if_pos q]; exact r.repl k ry
  · rw [if_neg q, if_neg q]; exact Paired.snoc r ⟨rfl, rfl, ry⟩
theorem RX.len {L : KX} {xs : List (List Int × Addr × Value)} (r : RX L xs) : L.length = xs.length := Paired.length r
theorem kvX_len (L : KX) : (kvX L).length = L.length := by simp [kvX]
def DX0 (P : Program) (w : World) (h : Heap) (d : Addr) (L : KX) : Prop := L.length ≤ sizeLine ∧ (d == sysModules) = false ∧ ∃ xs, RX L xs ∧
  ∃ o es ep, h.get? d = some o ∧ o.ExactDict ∧ o.data = .dict es ep ∧ es.toList = xs.map (entryOfKey (tupleKind (intKind P w))) ∧ (xs.map (·.1)).Nodup
def DXO (P : Program) (w : World) (d : Addr) (L : KX) : HO := .ext fun h => DX0 P w h d L
theorem dx_new {P : Program} {w : World} {H : Hp} {h : Heap} {d : Addr} {L : KX} (R : DX0 P w h d L) : ObjOk P w H h d (DXO P w d L) := by
  have ⟨z, y, xs, r, o, es, ep, ho, q⟩ := R
  refine ⟨R, ⟨o, ho⟩, fun h1 h2 p k => ?_⟩
  have ⟨z', y', xs', r', o', es', ep', ho', q'⟩ := p
  exact ⟨z', y', xs', r', o', es', ep', k o' ho', q'⟩
/-- at d stands a dict with the keys and values kvs -/
def DN (K : PySem.W.Frag) (P : Program) (w : World) (H : Hp) (d : Addr) (kvs : List (List Int × V)) : Prop :=
  ∃ L : KX, H d = some (DXO P w d L) ∧ (∀ x ∈ L, SqT K H x.2.1 (x.1.map V.int)) ∧ kvX L = kvs
theorem DN.same {K : PySem.W.Frag} {P : Program} {w : World} {H H' : Hp} {d : Addr} {kvs : List (List Int × V)} (g : DN K P w H d kvs) (s : Same H H') : DN K P w H' d kvs := by
  obtain ⟨L, h1, h2, h3⟩ := g
  exact ⟨L, s _ _ h1, fun x hx => Same.tup s (h2 x hx), h3⟩
theorem DN.keep {K : PySem.W.Frag} {P : Program} {w : World} {H H' : Hp} {d : Addr} {kvs : List (List Int × V)} (g : DN K P w H d kvs) (s : Keep K H H') (e : ∀ o, H d = some o → H' d = some o) : DN K P w H' d kvs := by
  obtain ⟨L, h1, h2, h3⟩ := g
  exact ⟨L, e _ h1, fun x hx => s _ _ (h2 x hx), h3⟩
/-- what is not at d stays, tuples stay -/
theorem keep_updX {K : PySem.W.Frag} {P : Program} {w : World} {H : Hp} {d : Addr} {L L' : KX} (h : H d = some (DXO P w d L)) : Keep K H (upd H d (DXO P w d L')) := fun a xs hs => by
  rcases hs with (hs | ⟨o, hs⟩) | hs
  · exact .inl (.inl (by rw [upd_ne (fun e => by rw [e, h] at hs; cases hs)]; exact hs))
  · exact .inl (.inr ⟨o, by rw [upd_ne (fun e => by rw [e, h] at hs; cases hs)]; exact hs⟩)
  · exact .inr hs
section
variable {X : Cx} {pins : List (Addr × Obj)} {σ : L2.St} {H : Hp} {s : Shared} {d a b : Addr} {kvs : List (List Int × V)} {k : List Int} {A : Around} {E : Value → Shared → Prop}
theorem DN.at (I : Inv X pins σ H s) (g : DN X.K X.prog X.w H d kvs) : (d == sysModules) = false ∧ ∃ (L : KX) (xs : List (List Int × Addr × Value)), H d = some (DXO X.prog X.w d L) ∧ (∀ x ∈ L, SqT X.K H x.2.1 (x.1.map V.int)) ∧ kvX L = kvs ∧ RX L xs ∧ L.length ≤ sizeLine ∧ s.heap.DictOfH (tupleKind (intKind X.prog X.w)) d xs := by
  obtain ⟨L, h1, h2, h3⟩ := g
  obtain ⟨⟨z, y, xs, r, o, es, ep, ho, hc, hd, he, hn⟩, _⟩ := (show ObjOk X.prog X.w H s.heap d (DXO X.prog X.w d L) from I.hok d _ h1)
  refine ⟨y, L, xs, h1, h2, h3, r, z, o, es, ep, ho, hc, hd, he, ?_, hn⟩
  have all : ∀ {l : KX} {m : List (List Int × Addr × Value)}, RX l m → (∀ x ∈ l, SqT X.K H x.2.1 (x.1.map V.int)) → ∀ x ∈ m, (tupleKind (intKind X.prog X.w)).is s.heap x.1 x.2.1 := by
    intro l m q
    unfold RX at q
    induction q with
    | nil => intro _ x hx; exact nomatch hx
    | @cons p q ps qs hq t ih =>
      intro hl x hx
      rcases List.mem_cons.mp hx with e | hx
      · subst e
        have := I.isT (hl p (List.mem_cons_self ..))
        rw [hq.1, hq.2.1] at this
        exact this
      · exact ih (fun x hx => hl x (List.mem_cons_of_mem _ hx)) x hx
  exact all r h2
theorem DN.typeIs (I : Inv X pins σ H s) (g : DN X.K X.prog X.w H d kvs) : s.TypeIs (.ref d) "dict" := by
  obtain ⟨_, _, _, _, _, _, _, _, dd⟩ := g.at I
  exact dd.typeIs
theorem DN.noDict (I : Inv X pins σ H s) (g : DN X.K X.prog X.w H d kvs) : ∀ b, Value.ref d = .ref b → ∃ ob, s.heap.get? b = some ob ∧ ob.dict = none := fun b q => by
  cases q
  obtain ⟨_, _, _, _, _, _, _, _, ob, _, _, h1, h2, _⟩ := g.at I
  exact ⟨ob, h1, h2.2.1⟩
theorem n_getItem {v : V} {Q : Value → Shared → Prop} (hu : A.units + 1 < cLine) (I : Inv X pins σ H s) (g : DN X.K X.prog X.w H d kvs) (hk : SqT X.K H b (k.map V.int)) (hv : valV kvs k = some v) (h : ∀ w' s', Inv X pins σ H s' → RelV v w' → Q w' s') :
    wpAny (model X.prog X.w) A (getItem (.ref d) (.ref b)) Q E s := by
  obtain ⟨hd, L, xs, _, _, e, r, _, dd⟩ := g.at I
  obtain ⟨w', hw, rw'⟩ := RelO.some_of (v := v) (o := (atKey xs k).map (·.2)) (by rw [← hv, ← e]; exact r.val k)
  obtain ⟨p, hp, hp2⟩ := Option.map_eq_some_iff.mp hw
  refine wpAny_getItem_heap (tupleKind_room_in1 hu) (I.isT hk) dd hp ?_
  rw [hp2]
  exact h w' _ (I.tok _) rw'
theorem n_in {Q : Value → Shared → Prop} (hu : A.units + 1 < cLine) (I : Inv X pins σ H s) (g : DN X.K X.prog X.w H d kvs) (hk : SqT X.K H b (k.map V.int)) (h : ∀ s', Inv X pins σ H s' → Q (.bool (valV kvs k).isSome) s') :
    wpAny (model X.prog X.w) A (compareOp .In (.ref b) (.ref d)) Q E s := by
  obtain ⟨hd, L, xs, _, _, e, r, _, dd⟩ := g.at I
  refine wpAny_in_heap (tupleKind_room_in1 hu) (I.isT hk) hd dd ?_
  have q := (r.val k).isSome_eq
  rw [Option.isSome_map, e] at q
  rw [← q]
  exact h _ (I.tok _)
theorem n_notIn {Q : Value → Shared → Prop} (hu : A.units + 1 < cLine) (I : Inv X pins σ H s) (g : DN X.K X.prog X.w H d kvs) (hk : SqT X.K H b (k.map V.int)) (h : ∀ s', Inv X pins σ H s' → Q (.bool (!(valV kvs k).isSome)) s') :
    wpAny (model X.prog X.w) A (compareOp .NotIn (.ref b) (.ref d)) Q E s := by
  obtain ⟨hd, L, xs, _, _, e, r, _, dd⟩ := g.at I
  refine wpAny_notIn_heap (tupleKind_room_in1 hu) (I.isT hk) hd dd ?_
  have q := (r.val k).isSome_eq
  rw [Option.isSome_map, e] at q
  rw [← q]
  exact h _ (I.tok _)
theorem n_get1 {Q : Value → Shared → Prop} (hu : A.units + 1 < cLine) (I : Inv X pins σ H s) (g : DN X.K X.prog X.w H d kvs) (hk : SqT X.K H b (k.map V.int)) (h : ∀ w' s', Inv X pins σ H s' → RelV ((valV kvs k).getD .non) w' → Q w' s') :
    wpAny (model X.prog X.w) A (call (.builtin "dict.get") [.ref d, .ref b]) Q E s := by
  obtain ⟨hd, L, xs, _, _, e, r, _, dd⟩ := g.at I
  refine call_meetsIn PySem.F.slot_dict_get dd.typeIs PySem.F.entry_dict_get (PySem.F.args_dict_get_2 _ _) (meetsH_dict_get (tupleKind (intKind X.prog X.w)) d b hd) ⟨tupleKind_room_in1 hu, k, xs, I.isT hk, dd, h _ _ (I.tok _) ?_⟩
  rw [← e]
  exact (r.val k).getD rfl
theorem n_get2 {z : V} {u : Value} {Q : Value → Shared → Prop} (hu : A.units + 1 < cLine) (I : Inv X pins σ H s) (g : DN X.K X.prog X.w H d kvs) (hk : SqT X.K H b (k.map V.int)) (rz : RelV z u) (h : ∀ w' s', Inv X pins σ H s' → RelV ((valV kvs k).getD z) w' → Q w' s') :
    wpAny (model X.prog X.w) A (call (.builtin "dict.get") [.ref d, .ref b, u]) Q E s := by
  obtain ⟨hd, L, xs, _, _, e, r, _, dd⟩ := g.at I
  refine call_meetsIn PySem.F.slot_dict_get dd.typeIs PySem.F.entry_dict_get (PySem.F.args_dict_get_3 _ _ _) (meetsH_dict_get_default (tupleKind (intKind X.prog X.w)) d b hd u) ⟨tupleKind_room_in1 hu, k, xs, I.isT hk, dd, h _ _ (I.tok _) ?_⟩
  rw [← e]
  exact (r.val k).getD rz
/-- the heaps behind d[k] = v -/
def DNput (K : PySem.W.Frag) (P : Program) (w : World) (H : Hp) (d : Addr) (kvs : List (List Int × V)) (k : List Int) (v : V) (R : Hp → Prop) : Prop :=
  ∀ H', (∀ c, c ≠ d → H' c = H c) → Keep K H H' → DN K P w H' d (putK kvs k v) → R H'
theorem n_setItem {v : V} {u : Value} {Q : Unit → Shared → Prop} (hu : A.units + 1 < cLine) (I : Inv X pins σ H s) (g : DN X.K X.prog X.w H d kvs) (hk : SqT X.K H b (k.map V.int)) (hl : kvs.length < sizeLine) (rv : RelV v u) (h : DNput X.K X.prog X.w H d kvs k v fun H' => ∀ s', Inv X pins σ H' s' → Q () s') :
    wpAny (model X.prog X.w) A (setItem (.ref d) (.ref b) u) Q E s := by
  obtain ⟨hd, L, xs, hL, hS, e, r, z, dd⟩ := g.at I
  have hz : xs.length ≤ sizeLine := by rw [← r.len]; exact z
  have hl2 : (putX L k b v).length ≤ sizeLine := by
    have := length_putK kvs k v
    rw [← kvX_len, kvX_put, e]
    omega
  have kp := keep_updX (K := X.K) (L' := putX L k b v) hL
  refine wpAny_setItem_heap (hsz := hz) (tupleKind_room_in1 hu) (I.isT hk) dd fun h' dd' hs => ?_
  obtain ⟨q, es, ep, hq, h2, h3, h4, _, h5⟩ := dd'
  refine h _ (fun c hc => upd_ne hc) kp ⟨putX L k b v, upd_same, fun x hx => ?_, by rw [kvX_put, e]⟩ _ (d_write I (by rw [hL]; exact True.intro) hs ⟨q, hq⟩ (dx_new ⟨hl2, hd, _, r.put k rv, q, es, ep, hq, h2, h3, h4, h5⟩))
  rcases putX_key hx with ⟨y, hy, e1, e2⟩ | ⟨e1, e2⟩
  · rw [e1, e2]; exact kp _ _ (hS y hy)
  · rw [e1, e2]; exact kp _ _ hk
end
/-! ### readings -/
def tNGet (K : PySem.W.Frag) (P : Program) (w : World) (td ty : TE) : TE := fun σ H Q => td σ H fun x H1 => ty σ H1 fun y H2 => ∃ a b kvs k v, x = .ref a ∧ y = .ref b ∧ DN K P w H2 a kvs ∧ SqT K H2 b (k.map V.int) ∧ valV kvs k = some v ∧ Q v H2
def tNIn (K : PySem.W.Frag) (P : Program) (w : World) (ty td : TE) : TE := fun σ H Q => ty σ H fun y H1 => td σ H1 fun x H2 => ∃ a b kvs k, x = .ref a ∧ y = .ref b ∧ DN K P w H2 a kvs ∧ SqT K H2 b (k.map V.int) ∧ Q (.bl (valV kvs k).isSome) H2
def tNNotIn (K : PySem.W.Frag) (P : Program) (w : World) (ty td : TE) : TE := fun σ H Q => ty σ H fun y H1 => td σ H1 fun x H2 => ∃ a b kvs k, x = .ref a ∧ y = .ref b ∧ DN K P w H2 a kvs ∧ SqT K H2 b (k.map V.int) ∧ Q (.bl (!(valV kvs k).isSome)) H2
def sNPut (K : PySem.W.Frag) (P : Program) (w : World) (td ty tv : TE) : TS := fun D σ H => tv σ H fun v H1 => td σ H1 fun x H2 => ty σ H2 fun y H3 => ∃ a b kvs k, x = .ref a ∧ y = .ref b ∧ DN K P w H3 a kvs ∧ SqT K H3 b (k.map V.int) ∧ kvs.length < sizeLine ∧ DNput K P w H3 a kvs k v fun H' => D.nx σ H'
def tNGet1 (K : PySem.W.Frag) (P : Program) (w : World) (td ty : TE) : TE := fun σ H Q => td σ H fun x H1 => ∃ a kvs, x = .ref a ∧ DN K P w H1 a kvs ∧ ty σ H1 fun y H2 => ∃ b k, y = .ref b ∧ DN K P w H2 a kvs ∧ SqT K H2 b (k.map V.int) ∧ Q ((valV kvs k).getD .non) H2
def tNGet2 (K : PySem.W.Frag) (P : Program) (w : World) (td ty tx : TE) : TE := fun σ H Q => td σ H fun x H1 => ∃ a kvs, x = .ref a ∧ DN K P w H1 a kvs ∧ ty σ H1 fun y H2 => tx σ H2 fun z H3 => ∃ b k, y = .ref b ∧ DN K P w H3 a kvs ∧ SqT K H3 b (k.map V.int) ∧ Q ((valV kvs k).getD z) H3
section
variable {X : Cx} {K : PySem.W.Frag} {P : Program} {w : World} {o i e f value : Expr} {pos pos' tpos apos cpos : Pos} {td ty tv tx : TE}
theorem pe_nget (hK : X.K = K) (hP : X.prog = P) (hw : X.w = w) (hu : X.A.units + 1 < cLine) (ho : PE X o td) (hi : PE X i ty) (hs : NoSl i) : PE X (.Subscript o i pos) (tNGet K P w td ty) := by
  subst hK hP hw
  refine ⟨fun pins s σ H Q I h => ?_⟩
  refine subD_of PySem.F.slot_dict_getitem.lookup hs (thn (ho.run pins s σ H _ I h) fun u s1 ⟨x, H1, I1, rx, q1⟩ => thn (hi.run pins s1 σ H1 _ I1 q1) fun iv s2 ⟨y, H2, I2, ry, a, b, kvs, k, v, ex, ey, g, hk, hv, q2⟩ => ?_)
  subst ex ey
  obtain rfl : u = Value.ref a := rx
  obtain rfl : iv = Value.ref b := ry
  exact ⟨g.typeIs I2, n_getItem hu I2 g hk hv fun w' s3 I3 rw' => ⟨v, H2, I3, rw', q2⟩⟩
theorem pc_nin (hK : X.K = K) (hP : X.prog = P) (hw : X.w = w) (hu : X.A.units + 1 < cLine) (hi : PE X i ty) (ho : PE X o td) : PC X .In i o (tNIn K P w ty td) := by
  subst hK hP hw
  refine ⟨fun pins s σ H Q I h => ?_⟩
  refine thn (hi.run pins s σ H _ I h) fun iv s1 ⟨y, H1, I1, ry, q1⟩ => thn (ho.run pins s1 σ H1 _ I1 q1) fun u s2 ⟨x, H2, I2, rx, a, b, kvs, k, ex, ey, g, hk, q2⟩ => ?_
  subst ex ey
  obtain rfl : u = Value.ref a := rx
  obtain rfl : iv = Value.ref b := ry
  exact n_in hu I2 g hk fun s3 I3 => ⟨.bl _, H2, I3, rfl, q2⟩
theorem pc_nnotin (hK : X.K = K) (hP : X.prog = P) (hw : X.w = w) (hu : X.A.units + 1 < cLine) (hi : PE X i ty) (ho : PE X o td) : PC X .NotIn i o (tNNotIn K P w ty td) := by
  subst hK hP hw
  refine ⟨fun pins s σ H Q I h => ?_⟩
  refine thn (hi.run pins s σ H _ I h) fun iv s1 ⟨y, H1, I1, ry, q1⟩ => thn (ho.run pins s1 σ H1 _ I1 q1) fun u s2 ⟨x, H2, I2, rx, a, b, kvs, k, ex, ey, g, hk, q2⟩ => ?_
  subst ex ey
  obtain rfl : u = Value.ref a := rx
  obtain rfl : iv = Value.ref b := ry
  exact n_notIn hu I2 g hk fun s3 I3 => ⟨.bl _, H2, I3, rfl, q2⟩
theorem ps_nput (hK : X.K = K) (hP : X.prog = P) (hw : X.w = w) (hu : X.A.units + 1 < cLine) (ho : PE X o td) (hi : PE X i ty) (hv : PE X value tv) (hs : swapsWith value (some (.Subscript o i pos')) pos.line X.env = pure false) :
    PS X (.Assign [.Subscript o i pos'] value pos) (sNPut K P w td ty tv) := by
  subst hK hP hw
  refine ⟨fun pins s σ H D I h => ?_⟩
  refine wpAny_Assign_Subscript (thn (hv.run pins s σ H _ I h) fun r s1 ⟨v, H1, I1, rv, q1⟩ => thn (ho.run pins s1 σ H1 _ I1 q1) fun u s2 ⟨x, H2, I2, rx, q2⟩ => thn (hi.run pins s2 σ H2 _ I2 q2) fun iv s3 ⟨y, H3, I3, ry, a, b, kvs, k, ex, ey, g, hk, hl, q3⟩ => ?_) hs
  subst ex ey
  obtain rfl : u = Value.ref a := rx
  obtain rfl : iv = Value.ref b := ry
  exact n_setItem hu I3 g hk hl rv fun H' h1 h2 h3 s4 I4 => ⟨σ, H', I4, q3 H' h1 h2 h3⟩
theorem pe_nget1 (hK : X.K = K) (hP : X.prog = P) (hw : X.w = w) (hu : X.A.units + 1 < cLine) (ho : PE X o td) (he : PE X e ty) (m : M1 X o "get" apos e cpos) : PE X (.Call (.Attribute o "get" apos) [e] [] cpos) (tNGet1 K P w td ty) := by
  subst hK hP hw
  refine ⟨fun pins s σ H Q I h => ?_⟩
  refine wpAny_Call_method m.base m.few m.line PySem.F.plainAttrs_dict PySem.F.slot_dict_get PySem.F.type_dict_get (thn (ho.run pins s σ H _ I h) fun u s1 ⟨x, H1, I1, rx, a, kvs, ex, d, q1⟩ => ?_)
  subst ex
  obtain rfl : u = Value.ref a := rx
  refine ⟨d.typeIs I1, d.noDict I1, ?_⟩
  rw [m.trees]
  refine Calls.callWith_builtin rfl (Calls.evalArgs_plain (Calls.spliced_cons (thn (he.run pins s1 σ H1 _ I1 q1) fun iv s2 ⟨y, H2, I2, ry, b, k, ey, g, hk, q2⟩ => Calls.spliced_nil ?_)))
  subst ey
  obtain rfl : iv = Value.ref b := ry
  exact n_get1 hu I2 g hk fun w' s3 I3 rw' => ⟨_, H2, I3, rw', q2⟩
theorem pe_nget2 (hK : X.K = K) (hP : X.prog = P) (hw : X.w = w) (hu : X.A.units + 1 < cLine) (ho : PE X o td) (he : PE X e ty) (hf : PE X f tx) (m : M2 X o "get" apos e f cpos) : PE X (.Call (.Attribute o "get" apos) [e, f] [] cpos) (tNGet2 K P w td ty tx) := by
  subst hK hP hw
  refine ⟨fun pins s σ H Q I h => ?_⟩
  refine wpAny_Call_method m.base m.few m.line PySem.F.plainAttrs_dict PySem.F.slot_dict_get PySem.F.type_dict_get (thn (ho.run pins s σ H _ I h) fun u s1 ⟨x, H1, I1, rx, a, kvs, ex, d, q1⟩ => ?_)
  subst ex
  obtain rfl : u = Value.ref a := rx
  refine ⟨d.typeIs I1, d.noDict I1, ?_⟩
  rw [m.trees]
  refine Calls.callWith_builtin rfl (Calls.evalArgs_plain (Calls.spliced_cons (thn (he.run pins s1 σ H1 _ I1 q1) fun iv s2 ⟨y, H2, I2, ry, q2⟩ =>
    Calls.spliced_cons (thn (hf.run pins s2 σ H2 _ I2 q2) fun fv s3 ⟨z, H3, I3, rz, b, k, ey, g, hk, q3⟩ => Calls.spliced_nil ?_))))
  subst ey
  obtain rfl : iv = Value.ref b := ry
  exact n_get2 hu I3 g hk rz fun w' s4 I4 rw' => ⟨_, H3, I4, rw', q3⟩
end
theorem u2_of {A : Around} {k : Nat} (hr : Room k A) : A.units + 2 < cLine := Nat.lt_of_le_of_lt (Nat.add_le_add_left (by decide : 2 ≤ 64) _) hr.units
/-! ### {} and dict(list of pairs) -/
theorem dx_empty {P : Program} {w : World} (h : Heap) (hb : sysModules < h.objs.size) : DX0 P w (h.push { cls := .type "dict", data := .dict #[] }) h.objs.size [] :=
  ⟨Nat.zero_le _, beq_eq_false_iff_ne.mpr (Ne.symm (Nat.ne_of_lt hb)), [], .nil, _, #[], 0, Heap.get?_push_size _ rfl, ⟨rfl, rfl, rfl⟩, rfl, rfl, List.nodup_nil⟩
def tNNew (K : PySem.W.Frag) (P : Program) (w : World) : TE := fun _ H Q => ∀ p H', H p = none → Same H H' → DN K P w H' p [] → Q (.ref p) H'
theorem pe_nnew {X : Cx} {K : PySem.W.Frag} {P : Program} {w : World} {pos : Pos} (hK : X.K = K) (hP : X.prog = P) (hw : X.w = w) : PE X (.Dict [] [] pos) (tNNew K P w) := by
  subst hK hP hw
  refine ⟨fun pins s σ H Q I h => ?_⟩
  have hn : H s.heap.objs.size = none := I.hok.fresh (Nat.le_refl _)
  exact wpAny_Dict_empty ⟨.ref s.heap.objs.size, _, I.laid (a := s.heap.objs.size) (o := DXO X.prog X.w s.heap.objs.size []) (t' := s.toks) (fun _ _ q => Heap.get?_push_of_some _ q) (Nat.le_refl _) (dx_new (dx_empty s.heap I.big)), rfl, h _ _ hn (same_upd hn) ⟨[], upd_same, (fun x hx => nomatch hx), rfl⟩⟩
def mergeT (kvs more : List (List Int × V)) : List (List Int × V) := more.foldl (fun acc kv => putK acc kv.1 kv.2) kvs
def allX (L M : KX) : KX := M.foldl (fun acc p => putX acc p.1 p.2.1 p.2.2) L
theorem RX.all {M : KX} {ms : List (List Int × Addr × Value)} (r : RX M ms) : ∀ {L : KX} {xs : List (List Int × Addr × Value)}, RX L xs → RX (allX L M) (storedAllH xs ms) := by
  unfold RX at r
  induction r with
  | nil => intro L xs q; exact q
  | @cons p q ps qs h t ih =>
    intro L xs hq
    show RX (allX (putX L p.1 p.2.1 p.2.2) ps) (storedAllH (storedH xs q.1 q.2.1 q.2.2) qs)
    rw [← h.1, ← h.2.1]
    exact ih (hq.put _ h.2.2)
theorem kvX_all : ∀ (M L : KX), kvX (allX L M) = mergeT (kvX L) (kvX M)
  | [], _ => rfl
  | p :: M, L => by
    show kvX (allX (putX L p.1 p.2.1 p.2.2) M) = mergeT (putK (kvX L) p.1 p.2.2) (kvX M)
    rw [kvX_all M, kvX_put]
theorem allX_key {Pr : List Int → Addr → Prop} : ∀ {M L : KX}, (∀ x ∈ L, Pr x.1 x.2.1) → (∀ x ∈ M, Pr x.1 x.2.1) → ∀ x ∈ allX L M, Pr x.1 x.2.1
  | [], _, h, _ => h
  | p :: M, L, h, hp => allX_key (M := M) (L := putX L p.1 p.2.1 p.2.2) (fun x hx => by
      rcases putX_key hx with ⟨y, hy, e1, e2⟩ | ⟨e1, e2⟩
      · rw [e1, e2]; exact h y hy
      · rw [e1, e2]; exact hp p List.mem_cons_self) fun x hx => hp x (List.mem_cons_of_mem _ hx)
theorem putX_len (L : KX) (k : List Int) (b : Addr) (v : V) : (putX L k b v).length ≤ L.length + 1 := by
  unfold putX
  split <;> simp
theorem allX_len : ∀ (M L : KX), (allX L M).length ≤ L.length + M.length
  | [], _ => Nat.le_refl _
  | p :: M, L => by
    have h1 := allX_len M (putX L p.1 p.2.1 p.2.2)
    have h2 := putX_len L p.1 p.2.1 p.2.2
    show (allX (putX L p.1 p.2.1 p.2.2) M).length ≤ _
    simp only [List.length_cons]
    omega
/-- a list of pairs (tuple of ints, value) -/
def rDictT (K : PySem.W.Frag) (P : Program) (w : World) : List V → Hp → VK → Prop := fun xs H Q => ∃ (a : Addr) (ts : List Addr) (M : KX), xs = [V.ref a] ∧ SqL K H a (ts.map V.ref) ∧ Paired (fun t m => SqT K H t [V.ref m.2.1, m.2.2] ∧ SqT K H m.2.1 (m.1.map V.int)) ts M ∧
  ∀ p H', H p = none → Same H H' → DN K P w H' p (mergeT [] (kvX M)) → Q (.ref p) H'
theorem pairsT_of {X : Cx} {pins : List (Addr × Obj)} {σ : L2.St} {H : Hp} {s : Shared} (I : Inv X pins σ H s) : ∀ {ts : List Addr} {M : KX}, Paired (fun t m => SqT X.K H t [V.ref m.2.1, m.2.2] ∧ SqT X.K H m.2.1 (m.1.map V.int)) ts M →
    ∃ ms : List (List Int × Addr × Value), RX M ms ∧ ms.length = ts.length ∧ ∀ (j : Nat) (q : List Int × Addr × Value), ms[j]? = some q → ∃ t, ts[j]? = some t ∧ IsTup s.heap t #[Value.ref q.2.1, q.2.2] ∧ IsT X.prog X.w s.heap q.1 q.2.1
  | _, _, .nil => ⟨[], .nil, rfl, fun j q e => by simp at e⟩
  | _, _, .cons (a := p) (b := m) h t => by
    obtain ⟨ms, r, hl, hp⟩ := pairsT_of I t
    obtain ⟨its, rv, ht, _⟩ := I.tuple h.1
    obtain ⟨u, y, ei, ru, ry⟩ := vals2 rv
    subst ei
    cases ru
    refine ⟨(m.1, m.2.1, y) :: ms, .cons ⟨rfl, rfl, ry⟩ r, by rw [List.length_cons, List.length_cons, hl], fun j q e => ?_⟩
    cases j with
    | zero =>
      have e' : (m.1, m.2.1, y) = q := Option.some.inj e
      subst e'
      exact ⟨p, rfl, ht, I.isT h.2⟩
    | succ j =>
      obtain ⟨b, e1, e2, e3⟩ := hp j q (by simpa using e)
      exact ⟨b, by simpa using e1, e2, e3⟩
theorem call_dictT {X : Cx} {K : PySem.W.Frag} {P : Program} {w : World} (hK : X.K = K) (hP : X.prog = P) (hw : X.w = w) (hcalm : X.calm = true) (hu : X.A.units + 2 < cLine) : CallR X (.type "dict") (rDictT K P w) := by
  subst hK hP hw
  intro pins s σ H xs us Q I r q
  obtain ⟨a, ts, M, ex, hq, hp, q⟩ := q
  subst ex
  obtain ⟨u, eu, rx⟩ := vals1 r
  subst eu
  cases rx
  obtain ⟨its, rv, pl, hz⟩ := I.list hq
  have ei := refs_at rv
  subst ei
  rw [List.length_map] at hz
  obtain ⟨ms, rel, hl, hpr⟩ := pairsT_of I hp
  obtain ⟨o, n, ho, hc, hd, hdat⟩ := pl
  have hmsM := rel.len
  have isAll : ∀ x ∈ ms, (tupleKind (intKind X.prog X.w)).is s.heap x.1 x.2.1 := fun x hx => by
    obtain ⟨j, hj⟩ := List.mem_iff_getElem?.mp hx
    obtain ⟨t, _, _, h3⟩ := hpr j x hj
    exact h3
  have hn : H s.heap.objs.size = none := I.hok.fresh (Nat.le_refl _)
  refine call_dict_pairsH (knd := tupleKind (intKind X.prog X.w)) (ps := ms) (PairArg.list a (ts.map Value.ref).toArray (fun j => ts.getD j 0) (ms.map fun m => (Value.ref m.2.1, m.2.2))) (I.ok.hd hcalm) ?_ ⟨⟨o, n, ho, hc, hd, hdat⟩, ?_, ?_⟩ ⟨?_, ?_⟩ (fun h' hk x hx => ?_) ?_ fun h' tk hd' hk => ?_
  · show X.A.in1.units + 1 < cLine
    exact hu
  · simp [hl]
  · intro j k v hj
    rw [List.getElem?_map, Option.map_eq_some_iff] at hj
    obtain ⟨m, hm, em⟩ := hj
    cases em
    obtain ⟨t, e1, e2, e3⟩ := hpr j m hm
    have et : ts.getD j 0 = t := by rw [List.getD_eq_getElem?_getD, e1]; rfl
    dsimp only
    rw [et]
    refine ⟨by simp [e1], ?_⟩
    exact .inl e2
  · simp
  · intro i key v hr
    rw [PairRel, List.getElem?_map, Option.map_eq_some_iff] at hr
    obtain ⟨m, hm, em⟩ := hr
    cases em
    exact ⟨m.1, m.2.1, hm, rfl⟩
  · have := isAll x hx
    obtain ⟨o', items, n', ho', hc', hd', hi'⟩ := (show IsTupleKey (intKind X.prog X.w) s.heap x.1 x.2.1 from this)
    exact ⟨o', items, n', hk _ _ (Nat.ne_of_lt (Heap.lt_size ho')) (fun z => nomatch z) ho', hc', hd', hi'⟩
  · rw [List.length_map, hl]; exact hz
  · have hm : (s.heap.objs.size == sysModules) = false := beq_eq_false_iff_ne.mpr (Nat.ne_of_gt I.big)
    have hlen : (allX [] M).length ≤ sizeLine := by
      refine Nat.le_trans (allX_len M []) ?_
      rw [List.length_nil, Nat.zero_add, hmsM, hl]
      exact hz
    obtain ⟨o', es, ep, h1, h2, h3, h4, _, h5⟩ := hd'
    have I2 := I.laid (t' := tk) (fun b u e => hk b u (fun z => nomatch z) e) (Nat.le_refl _) (dx_new (H := upd H s.heap.objs.size (DXO X.prog X.w s.heap.objs.size (allX [] M))) (P := X.prog) (w := X.w) (h := h') (d := s.heap.objs.size) (L := allX [] M) ⟨hlen, hm, _, RX.all rel .nil, o', es, ep, h1, h2, h3, h4, h5⟩)
    refine ⟨.ref s.heap.objs.size, _, I2, rfl, q _ _ hn (same_upd hn) ⟨allX [] M, upd_same, ?_, kvX_all M []⟩⟩
    refine allX_key (Pr := fun k b => SqT X.K (upd H s.heap.objs.size (DXO X.prog X.w s.heap.objs.size (allX [] M))) b (k.map V.int)) (fun x hx => nomatch hx) fun x hx => ?_
    have fnd : ∀ {ts : List Addr} {M : KX}, Paired (fun t m => SqT X.K H t [V.ref m.2.1, m.2.2] ∧ SqT X.K H m.2.1 (m.1.map V.int)) ts M → ∀ x ∈ M, SqT X.K H x.2.1 (x.1.map V.int) := by
      intro ts M hp
      induction hp with
      | nil => intro x hx; exact nomatch hx
      | @cons p q ps qs h t ih =>
        intro x hx
        rcases List.mem_cons.mp hx with e | hx
        · subst e; exact h.2
        · exact ih x hx
    exact Same.tup (same_upd hn) (fnd hp x hx)
end MB

set_option maxHeartbeats 4000000
namespace MB
open PySem PySem.Spec PyProof.Rows L2
/-! ### a list from a place back to its start: xs[i::-1] -/
theorem bounds_from {n i : Nat} (h : i < n) : sliceBounds (some (i : Int)) none (some (-1)) n = ((i : Int), -1, -1) := by
  unfold sliceBounds
  have h1 : ¬ ((-1 : Int) > 0) := by decide
  have h2 : ¬ ((i : Int) < 0) := by omega
  simp only [Option.getD_some, h1, if_false, h2]
  congr 1
  omega
theorem pick_from (items : Array Value) {i : Nat} (h : i < items.size) : slicePick items (some (i : Int)) none (some (-1)) = (items.toList.take (i + 1)).reverse.toArray := by
  unfold slicePick
  rw [bounds_from h]
  show ((sliceRange (i : Int) (-1) (-1)).filterMap (items[·]?)).toArray = _
  have e1 : (i : Int) = ((i + 1 : Nat) : Int) - 1 := by omega
  rw [e1, PySem.W.krv_sliceRange, PySem.W.krv_range, List.filterMap_reverse]
  congr 2
  have h2 := pick_run items 0 (i + 1)
  have e : (List.range (i + 1)).map (0 + ·) = List.range (i + 1) := by
    rw [show ((0 + ·) : Nat → Nat) = id from funext fun k => Nat.zero_add k, List.map_id]
  rw [e, List.drop_zero] at h2
  exact h2
theorem vals_take : ∀ {xs : List V} {us : List Value} (n : Nat), Vals xs us → Vals (xs.take n) (us.take n)
  | _, _, 0, _ => .nil
  | _, _, _ + 1, .nil => .nil
  | _, _, n + 1, .cons a b => .cons a (vals_take n b)
def tRevF (K : PySem.W.Frag) (te ti : TE) : TE := fun σ H Q => te σ H fun x H1 => tPart ti σ H1 fun o H2 => ∃ (a : Addr) (xs : List V) (i : Nat), x = .ref a ∧ o = some (i : Int) ∧ SqL K H2 a xs ∧ i < xs.length ∧ ∀ p, H2 p = none → Q (.ref p) (upd H2 p (.lst (xs.take (i + 1)).reverse))
theorem pe_revF {X : Cx} {K : PySem.W.Frag} (hK : X.K = K) {e ei : Expr} {te ti : TE} {k : Nat} {p1 p2 p3 pos : PySem.Pos} (he : PE X e te) (hi : PE X ei ti) : PE X (.Subscript e (.Slice (some ei) none (some (.UnaryOp .USub (.Constant (.int 1) k p1) p2)) p3) pos) (tRevF K te ti) := by
  subst hK
  refine ⟨fun pins s σ H Q I h => ?_⟩
  refine Subscript_ (thn (he.run pins s σ H _ I h) fun v s1 ⟨x, H1, I1, r1, q1⟩ => ?_)
  have hst : PO X (some (.UnaryOp .USub (.Constant (.int 1) k p1) p2)) (tPart (tUn (rU fun i => .int (-i)) (tC (.int 1)))) := po_some (pe_un un_neg pe_int)
  have hlo : PO X (some ei) (tPart ti) := po_some hi
  refine wpAny_Slice (thn (hlo.run pins s1 σ H1 _ I1 q1) fun vl s2 ⟨lo, H2, I2, pl, a, xs, i, ex, elo, hx, hi', q⟩ => ?_)
  cases elo
  cases ex
  cases r1
  refine thn (po_none.run pins s2 σ H2 (fun o H3 => o = none ∧ H3 = H2) I2 ⟨rfl, rfl⟩) fun vu s3 ⟨hi2, H3, I3, pu, ehi, eH⟩ => ?_
  cases ehi; cases eH
  refine thn (hst.run pins s3 σ H2 (fun o H4 => o = some (-1) ∧ H4 = H2) I3 ⟨1, rfl, -1, rfl, rfl, rfl⟩) fun vs s4 ⟨st, H4, I4, ps, est, eH⟩ => ?_
  cases est; cases eH
  have I5 : Inv X pins σ H2 { s4 with heap := s4.heap.push { cls := .type "slice", data := .fields #[vl, vu, vs] } } := I4.kept (t' := s4.toks) fun b ob e => Heap.get?_push_of_some _ e
  obtain ⟨its, r, ht, hz⟩ := I5.list hx
  have hlen := r.length
  show wpAny (model X.prog X.w) X.A (subscriptTail e (.Slice (some ei) none (some (.UnaryOp .USub (.Constant (.int 1) k p1) p2)) p3) (.ref a) (.ref s4.heap.objs.size)) (EP X pins σ Q) X.xe { s4 with heap := s4.heap.push { cls := .type "slice", data := .fields #[vl, vu, vs] } }
  refine tail_any (ops := [.ref a, .ref s4.heap.objs.size]) ht.isList.typeIs (PySem.slot_list_getitem.lookup) ?_ (by with_unfolding_all rfl)
  refine wpAny_getItem_list_slice ht.isList (Heap.IsSliceOf.new _ vl vu vs) pl pu ps (by decide) ?_ (by rw [List.size_toArray]; omega)
  rw [pick_from its.toArray (by rw [List.size_toArray]; omega)]
  refine ⟨.ref _, _, I5.laid (t' := s4.toks) (o := .lst (xs.take (i + 1)).reverse) (fun b ob q => Heap.get?_push_of_some _ q) (Nat.le_refl _) ?_, rfl, q _ (I5.hok.fresh (Nat.le_refl _))⟩
  exact ⟨by rw [List.length_reverse, List.length_take]; omega, _, 0, (vals_take (i + 1) r).reverse, Heap.get?_push_size _ rfl⟩
end MB

set_option maxHeartbeats 4000000
namespace MB
open PySem PySem.Spec PyProof.Rows L2

/-! ### a def called where no repr is under way -/
structure FnG (P : Program) (w : World) (K : PySem.W.Frag) (mg : Str → Option Value) (base : Heap) (CX : CXT) (k : Nat) (f : Addr) (fd : FuncData) (ps : List Str) (sp : Sp) : Prop where
  len : ∀ vs H Q E, sp vs H Q E → vs.length = ps.length
  run : ∀ (A : Around), A.guards = some [] → Room k A → ∀ (outer : List Env) (s : Shared) (H : Hp) (args : Args) (us : List Value) (vs : List V) (Q : VK) (E : XK),
    Env0 P w K mg base A outer s H → BindsTo s fd args (ps.zip us) → Vals vs us → sp vs H Q E → codeAny (model P w) A (.call (.ref f) args) (CR CX outer P w H s Q E) s
section
variable {P : Program} {w : World} {K : PySem.W.Frag} {mg : Str → Option Value} {base : Heap} {CX : CXT} {k : Nat} {f : Addr} {fd : FuncData} {ps : List Str} {sp : Sp}
theorem FnG.of (F : FnOk P w K mg base CX k f fd ps sp) : FnG P w K mg base CX k f fd ps sp :=
  ⟨F.len, fun A _ hr outer s H args us vs Q E => F.run A outer s H args us vs Q E hr⟩
theorem deeper_guards {A : Around} {env : Env} (h : A.guards = some []) : (A.deeper env).guards = some [] := h
theorem fnG_of {name qual : Str} {params : Arguments} {body : List Stmt} {scope : Scope} {dV kV doc pm cdv ct oc : Value} {an od : Option Addr} {osl : Array (Option Value)} {N : List Str}
    (lk : K.lookup f = some ⟨oc, od, .func (PySem.W.fnOf name qual params body scope dV kV doc pm an cdv ct), osl⟩) (hcd : PySem.W.codeIn K cdv qual = true) (S : FnScope N ps scope)
    (len : ∀ vs H Q E, sp vs H Q E → vs.length = ps.length)
    (hbody : ∀ (A : Around), A.guards = some [] → ∀ (outer : List Env) (s : Shared) (H : Hp) (vs : List V) (Q : VK) (E : XK), Room k (A.deeper (envOfC qual scope s.heap.objs.size f cdv)) → sp vs H Q E →
      ∃ t, PSs (cxOf CX P w K mg base N qual scope f cdv A outer s H E) body t ∧ t { nx := fun _ H' => Q .non H', rt := Q } (start N vs) H) :
    FnG P w K mg base CX (k + 1) f (PySem.W.fnOf name qual params body scope dV kV doc pm an cdv ct) ps sp := by
  refine ⟨len, fun A hgd hr outer s H args us vs Q E e0 hb r hsp => ?_⟩
  have kept : ∀ b o, base.get? b = some o → s.heap.get? b = some o := fun b o e => (e0.bs b o e).1
  have KX : K.In s.heap := e0.mod.kin.keeps kept
  obtain ⟨t, ht, hq⟩ := hbody A hgd outer s H vs Q E (hr.deeper _) hsp
  have par : ∀ y ∈ ps.zip us, scope.names.lookup y.1 = some .local ∨ (scope.names.lookup y.1 = some .cell ∧ ((cellsFrom (s.heap.objs.size + 1) scope.names []).lookup y.1).isSome = true) := by
    rintro ⟨n, v⟩ hy
    exact (S.par n (List.of_mem_zip hy).1).imp id fun z => ⟨z, PySem.W.cellsFrom_some _ _ _ (.inl z)⟩
  refine codeAny_call_function hr.depth (KX _ _ lk) rfl S.co S.gen rfl (PySem.W.codeRec_of KX hcd) (hb _ _ _ _ (wpAny_newFunctionEnv_cells S.kind par fun env he s1 x => ?_))
  subst he
  refine ⟨(e0.mod.nolimit.keeps kept).keeps x.toInCall.keep, codeAny_func (wpAny_mono (ht.run [] s1 (start N vs) H _ (inv_start S hr.hd e0 (len _ _ _ _ hsp) r x) hq) (fun fl s' hs => ?_) fun e s' hs => hs)⟩
  rcases fl with _ | _ | _ | u
  · obtain ⟨σ', H', J, q⟩ := hs
    exact ⟨V.non, H', J.os, J.bare, J.base, J.hok, rfl, q⟩
  · exact (let ⟨_, _, _, q⟩ := hs; False.elim q)
  · exact (let ⟨_, _, _, q⟩ := hs; False.elim q)
  · obtain ⟨v, σ', H', J, rv, q⟩ := hs
    exact ⟨v, H', J.os, J.bare, J.base, J.hok, rv, q⟩
theorem Fun.okG {x qual : Str} {st : Stmt} {N : List Str} (F : L2.Fun K x qual st f fd) (S : FnScope N ps (defScope st)) (len : ∀ vs H Q E, sp vs H Q E → vs.length = ps.length)
    (hbody : ∀ (cdv : Value) (A : Around), A.guards = some [] → ∀ (outer : List Env) (s : Shared) (H : Hp) (vs : List V) (Q : VK) (E : XK), Room k (A.deeper (envOfC qual (defScope st) s.heap.objs.size f cdv)) → sp vs H Q E →
      ∃ t, PSs (cxOf CX0 P w K mg base N qual (defScope st) f cdv A outer s H E).nox (defBody st) t ∧ t { nx := fun _ H' => Q .non H', rt := Q } (start N vs) H) : FnG P w K mg base CX0 (k + 1) f fd ps sp := by
  obtain ⟨oc, od, kV, doc, pm, an, cdv, ct, osl, rfl, lk, hcd⟩ := F.ex
  exact fnG_of lk hcd S len fun A hgd outer s H vs Q E hr hsp => let ⟨t, h, q⟩ := hbody cdv A hgd outer s H vs Q E hr hsp; ⟨t, h.nox, q⟩
end
section
variable {X : Cx} {CX : CXT} {k : Nat} {f : Addr} {fd : FuncData} {ps : List Str} {sp : Sp} {ds : List Value} {dvs : List V} {E : XK} {x : Str} {p pos : Pos} {e : Expr} {es : List Expr} {t : TA}
theorem pe_callG (F : FnG X.prog X.w X.K X.mg X.base CX k f fd ps sp) (hgd : X.A.guards = some []) (hr : Room k X.A) (hg : Gl X x) (hm : X.mg x = some (.ref f)) (hk : PySem.W.keepIn X.K (.ref f) = true) (hb : Binds X.K fd ps ds) (hd : Vals dvs ds) (hx : Passes CX X E)
    (ha : PA X (e :: es) t) (hdb : (x == ("__debug__" : Str)) = false := by decide) (he : starEach (e :: es) X.env = (false, eval e X.env) :: starEach es X.env := by rfl) (hpl : (backTo pos (starEach es X.env)).any (·.1) = false := by rfl) :
    PE X (.Call (.Name x p) (e :: es) [] pos) (tCall sp dvs E t) := by
  refine ⟨fun pins s σ H Q I h => wpAny_Call_Name_kw (ld_glob I hg hm (PySem.W.callWith_K (h₀ := X.base) I.ok.mod.kin hk (thn (ha.run pos pins s σ H _ I h) fun us s1 ⟨vs, H1, I1, r, q⟩ => ⟨I1.kIn, ?_⟩) he hpl) hdb)⟩
  have r2 : Vals (vs ++ dvs) (us ++ ds) := r.append hd
  have hl : (us ++ ds).length = ps.length := r2.length.symm.trans (F.len _ _ _ _ q)
  refine wpAny_call (codeAny_mono (F.run X.A hgd hr X.stack s1 H1 ⟨us, []⟩ (us ++ ds) (vs ++ dvs) Q E I1.env0 (hb s1 us I1.kIn hl) r2 q) fun res s' hq => ?_)
  rcases res with e | fl
  · exact hx pins σ H1 s1 e s' I1 hq
  · rcases fl with _ | _ | _ | u
    · exact False.elim hq
    · exact False.elim hq
    · exact False.elim hq
    · exact I1.after hq
end

/-! ### repr of plain data -/
def rReprD (K : PySem.W.Frag) : List V → Hp → VK → Prop := fun xs H Q => ∃ (x : V) (d : PyData), xs = [x] ∧ Dp K H x d ∧ d.canLay0 = true ∧ d.showable = true ∧ d.depth ≤ 60 ∧ d.shown.length ≤ sizeLine ∧ Q (.str d.shown) H
theorem call_reprD {X : Cx} (hgd : X.A.guards = some []) (hu : X.A.units + 64 < cLine) : CallR X (.builtin "repr") (rReprD X.K) := by
  intro pins s σ H xs us Q I r h
  obtain ⟨x, d, rfl, hd, hc, hs, hdep, hz, q⟩ := h
  obtain ⟨u, rfl, rx⟩ := vals1 r
  obtain ⟨as, rd⟩ := Dp.reads I d x u hd rx
  have nd := PyData.hasDict_of_canLay d hc
  have fin : ∀ (h' : Heap) (v tk : Tok), (∀ b o, s.heap.get? b = some o → h'.get? b = some o) → EP X pins σ Q (.str d.shown v) { s with heap := h', toks := tk } := fun h' v tk hk => ⟨.str d.shown, H, I.kept hk, ⟨_, rfl⟩, q⟩
  cases rd with
  | none => exact PySem.P.repr_of_none (fin _ _ _ fun _ _ e => e)
  | bool b =>
    refine PySem.P.repr_of_bool ?_
    cases b <;> exact fin s.heap s.toks (s.toks + 1) fun _ _ e => e
  | int i t => exact PySem.P.repr_of_int (by simpa [PyData.showable] using hs) (fin s.heap s.toks (s.toks + 1) fun _ _ e => e)
  | str y t => exact PySem.P.repr_of_str (fin s.heap s.toks (s.toks + 1) fun _ _ e => e) hz
  | list h1 h2 h3 h4 => exact repr_of_reads' (.list h1 h2 h3 h4) hs (PyData.noDict_hsm nd) hgd (by omega) (fun _ _ e => e) fin hz
  | tuple h1 h2 h3 h4 => exact repr_of_reads' (.tuple h1 h2 h3 h4) hs (PyData.noDict_hsm nd) hgd (by omega) (fun _ _ e => e) fin hz
  | dict h1 h2 h3 h4 h5 => simp [PyData.canLay0] at hc

/-! ### the end: a law whose promise asks that no repr is under way -/
theorem law_callG {P : Program} {w : World} {K : PySem.W.Frag} {mg mb : Str → Option Value} {k : Nat} {fa a : Addr} {fd : FuncData} {x : Str} {sp : Sp} {s₁ : Shared} {vs : List Value} {ns : List Int}
    (KX : K.In s₁.heap) (hns : s₁.heap.Ns mainGlobals mg) (hb : s₁.heap.Ns builtinsNs mb) (hbb : ∀ x : Str, x ≠ "__name__" → mb x = bootBuiltins x) (hlim : s₁.heap.NoLimit) (hg : s₁.gens = #[])
    (ha : s₁.heap.get? a = some { cls := .type "list", data := .seq vs.toArray }) (hi : IntsAre vs ns) (hl : ns.length ≤ sizeLine) (hr : Room k callerA)
    (F : ∀ base : Heap, K.In base → base.Ns mainGlobals mg → FnG P w K mg base CX0 k fa fd [x] sp) (hbind : ∀ (s : Shared) (u : Value), BindsTo s fd ⟨[u], []⟩ [(x, u)])
    (hsp : ∀ H : Hp, SqL K H a (ns.map V.int) → sp [.ref a] H (fun v _ => v = .bl true) fun _ _ _ => False) :
    codeAny (model P w) callerA (.call (.ref fa) ⟨[.ref a], []⟩) (fun r s' => r = .ok (.ret (.bool true)) ∧ OldK s₁.heap s'.heap ∧ s'.os = s₁.os ∧ AllBare s'.gens) s₁ := by
  let oS : Obj := { cls := .type "list", data := .seq vs.toArray }
  -- the script is tracked as it stands, unless it is one of the module's own objects
  let H : Hp := fun b => if b = a ∧ K.lookup a = none then some (.frz oS (.lst (ns.map V.int))) else none
  have rv := vals_ints hi
  have Hsome : ∀ {b : Addr} {o : HO}, H b = some o → b = a ∧ K.lookup a = none ∧ o = .frz oS (.lst (ns.map V.int)) := fun {b o} e => by
    by_cases c : b = a ∧ K.lookup a = none
    · have e' := (if_pos c).symm.trans e
      exact ⟨c.1, c.2, (Option.some.inj e').symm⟩
    · have e' := (if_neg c).symm.trans e
      cases e'
  have free : ∀ {b : Addr}, (∀ z : b = a, K.lookup a ≠ none) → H b = none := fun {b} n => if_neg fun c => n c.1 c.2
  have hS : SqL K H a (ns.map V.int) := by
    cases hk : K.lookup a with
    | none => exact .inl (.inr ⟨oS, if_pos ⟨rfl, hk⟩⟩)
    | some o =>
      have e := (KX a o hk).symm.trans ha
      cases e
      exact .inr ⟨_, vs.toArray, _, hk, rfl, rfl, rfl, by rw [List.size_toArray, hi.length]; exact hl, by simpa using rv⟩
  have hok : HOk P w H s₁.heap := fun b o e => by
    obtain ⟨rfl, _, rfl⟩ := Hsome e
    exact ⟨ha, by rw [List.length_map]; exact hl, vs, _, rv, ha⟩
  have noDict : ∀ {b : Addr} {o : Obj} {es : Array DictEntry} {ep : Nat}, s₁.heap.get? b = some o → o.data = .dict es ep → H b = none := fun {b o es ep} e d => free fun z => by
    subst z
    rw [ha] at e
    cases e
    cases d
  have ns_hid : ∀ {b : Addr} {m : Str → Option Value}, s₁.heap.Ns b m → (hidT s₁.heap H).Ns b m := fun {b m} ⟨o, es, ep, e, d, r⟩ => ⟨o, es, ep, hidT_get e (noDict e d), d, r⟩
  have hKb : K.In (hidT s₁.heap H) := fun b o e => hidT_get (KX b o e) (free fun z => by subst z; rw [e]; exact fun y => nomatch y)
  have hM : Mod K mg (hidT s₁.heap H) := ⟨hKb, ns_hid hns, ⟨mb, ns_hid hb, hbb⟩, let ⟨mc, h1, h2⟩ := hlim; ⟨mc, ns_hid h1, h2⟩⟩
  have e0 : Env0 P w K mg (hidT s₁.heap H) callerA [] s₁ H := ⟨rfl, hM, fun b o e => of_hidT e, Nat.le_of_eq (hidT_size _ _), trivial, (fun b hb => absurd (show b ∈ ([] : List Addr) from hb) (by simp)), hok, .of_eq hg⟩
  refine codeAny_mono ((F _ hKb (ns_hid hns)).run callerA rfl hr [] s₁ H ⟨[.ref a], []⟩ [.ref a] [.ref a] _ _ e0 (hbind s₁ (.ref a)) (.cons rfl .nil) (hsp H hS)) fun r s' h => ?_
  rcases r with e | fl
  · exact False.elim h
  rcases fl with _ | _ | _ | u
  · exact False.elim h
  · exact False.elim h
  · exact False.elim h
  obtain ⟨v, H', os, bare, un, hok', r', q⟩ := h
  have q' : v = .bl true := q
  subst q'
  obtain rfl : u = Value.bool true := r'
  refine ⟨rfl, OldK.of_keep fun b o e => ?_, os, bare⟩
  cases hb' : H b with
  | none => exact un.keep b o e hb' (fun z => absurd (show b ∈ ([] : List Addr) from z) (by simp)) (by simp)
  | some u =>
    obtain ⟨rfl, hk, rfl⟩ := Hsome hb'
    have e2 := (hok' _ _ (un.frzs _ oS _ hb')).1
    rw [ha] at e
    cases e
    exact e2
theorem walk_ofG {l : PySem.W.OpenLaw} {n k : Nat} {q : Program} {loose : List Str} {XP : (Str → Option Value) → Heap → Prop} {YP : World → Heap → Prop} {d : DefRec} {K : Params → PySem.W.Frag} {sp : PySem.W.Frag → Sp} {x : Str}
    (hn : l.most = some n) (hn2 : n ≤ sizeLine) (hdf : d.params.defaults = []) (hr : Room k callerA)
    (hY : ∀ (w : World) (h : Heap), YP w h → (K w.params).In h)
    (F : ∀ (w : World) (mg : Str → Option Value) (fa : Addr) (h : Heap), (K w.params).In h → h.Ns mainGlobals mg → mg d.name = some (.ref fa) →
      ∃ fd : FuncData, (∀ (s : Shared) (u : Value), BindsTo s fd ⟨[u], []⟩ [(x, u)]) ∧
        ∀ base : Heap, (K w.params).In base → base.Ns mainGlobals mg → FnG l.prog w (K w.params) mg base CX0 k fa fd [x] (sp (K w.params)))
    (hsp : ∀ (K : PySem.W.Frag) (H : Hp) (a : Addr) (ns : List Int), ns.length ≤ n → SqL K H a (ns.map V.int) → sp K [.ref a] H (fun v _ => v = .bl true) fun _ _ _ => False) :
    PySem.W.WalkO q loose XP YP l.row.toRowW d [] (fun f vs => PySem.call f vs) :=
  Att.attach_call hn hdf fun w s₀ s₁ mg mb fa o pm cd doc a vs ns G Y ho hd hcd hmg hobj hints hlen hg =>
    have KX := hY w _ Y
    let ⟨fd, hb, hF⟩ := F w mg fa _ KX G.T.g hmg
    law_callG KX G.T.g G.T.b G.T.builtins G.T.nolimit hg hobj hints (Nat.le_trans hlen hn2) hr hF hb fun H hS => hsp _ H a ns hlen hS
end MB

set_option maxHeartbeats 4000000
namespace MB
open PySem PySem.Spec PyProof.Rows L2
/-- data whose repr is asked: levels, size -/
structure Rp (k n : Nat) (d : PyData) : Prop where
  sh : Sh k d
  shw : d.showable = true
  short : d.leavesShort 13 = true
  bulk : d.bulk ≤ n
theorem Rp.mono {k n m : Nat} {d : PyData} (h : Rp k n d) (e : n ≤ m) : Rp k m d := ⟨h.sh, h.shw, h.short, Nat.le_trans h.bulk e⟩
theorem Rp.int {i : Int} {k : Nat} (h : i.natAbs < 1000000) : Rp k 0 (.int i) := by
  refine ⟨.int i, ?_, ?_, by simp [PyData.bulk]⟩
  · simp only [PyData.showable]
    refine decide_eq_true ?_
    by_cases h0 : i.natAbs = 0
    · rw [h0]; decide
    · exact Nat.lt_trans ((Nat.log2_lt h0).mpr (show i.natAbs < 2 ^ 20 by omega)) (by decide)
  · simp only [PyData.leavesShort]
    refine decide_eq_true ?_
    have e := int_text_length_le10 (a := i) (k := 6) (by decide) h
    have e2 : (PyData.shown (.int i)).length = (toString i).length := by
      simp only [PyData.shown]
      exact PySem.ofString_length _
    omega
theorem rp_all {k n : Nat} : ∀ {ds : List PyData}, (∀ d, d ∈ ds → Rp k n d) → PyData.showableAll ds = true ∧ PyData.leavesShortAll 13 ds = true ∧ PyData.bulkAll ds ≤ (n + 1) * ds.length
  | [], _ => ⟨by simp [PyData.showableAll], by simp [PyData.leavesShortAll], by simp [PyData.bulkAll]⟩
  | d :: ds, h => by
    have h1 := h d (List.mem_cons_self ..)
    obtain ⟨a, b, c⟩ := rp_all fun e he => h e (List.mem_cons_of_mem _ he)
    refine ⟨by simp only [PyData.showableAll, h1.shw, a, Bool.and_self], by simp only [PyData.leavesShortAll, h1.short, b, Bool.and_self], ?_⟩
    simp only [PyData.bulkAll, List.length_cons]
    have := h1.bulk
    rw [Nat.mul_add]
    omega
theorem Rp.tup {k n m : Nat} {ds : List PyData} (h : ∀ d, d ∈ ds → Rp k n d) (hm : (n + 1) * ds.length ≤ m) : Rp (k + 1) m (.tuple ds) := by
  obtain ⟨a, b, c⟩ := rp_all h
  exact ⟨Sh.tup fun d hd => (h d hd).sh, by simp only [PyData.showable]; exact a, by simp only [PyData.leavesShort]; exact b, by simp only [PyData.bulk]; omega⟩
theorem Rp.lst {k n m : Nat} {ds : List PyData} (h : ∀ d, d ∈ ds → Rp k n d) (hm : (n + 1) * ds.length ≤ m) : Rp (k + 1) m (.list ds) := by
  obtain ⟨a, b, c⟩ := rp_all h
  exact ⟨Sh.lst fun d hd => (h d hd).sh, by simp only [PyData.showable]; exact a, by simp only [PyData.leavesShort]; exact b, by simp only [PyData.bulk]; omega⟩
theorem Rp.ints {ns : List Int} {k m : Nat} (h : ∀ i, i ∈ ns → i.natAbs < 1000000) (hm : ns.length ≤ m) : Rp (k + 1) m (.tuple (ns.map PyData.int)) :=
  Rp.tup (n := 0) (fun d hd => by obtain ⟨i, hi, rfl⟩ := List.mem_map.mp hd; exact .int (h i hi)) (by rw [List.length_map]; omega)
theorem Rp.bool {b : Bool} {k : Nat} : Rp k 0 (.bool b) := ⟨⟨by simp [PyData.canLay0], by simp [PyData.depth]⟩, by simp [PyData.showable], by simp [PyData.leavesShort], by simp [PyData.bulk]⟩
/-- repr(x), by data -/
theorem repr_read {K : PySem.W.Frag} {H : Hp} {x : V} {d : PyData} {Q : VK} {k n : Nat} (hd : Dp K H x d) (hs : Rp k n d) (hk : k ≤ 60) (hn : n ≤ 1048576) (q : Q (.str d.shown) H) : rReprD K [x] H Q :=
  ⟨x, d, rfl, hd, hs.sh.1, hs.shw, Nat.le_trans hs.sh.2 hk, PyData.shown_fits_bulk (B := 13) (by decide) (by decide) hs.short (Nat.le_trans hs.bulk (by omega)), q⟩
theorem Rp.all {k n : Nat} {d : PyData} (hs : Rp k n d) (hk : k ≤ 60) (hn : n ≤ 1048576) : d.canLay0 = true ∧ d.showable = true ∧ d.depth ≤ 60 ∧ d.shown.length ≤ sizeLine :=
  ⟨hs.sh.1, hs.shw, Nat.le_trans hs.sh.2 hk, PyData.shown_fits_bulk (B := 13) (by decide) (by decide) hs.short (Nat.le_trans hs.bulk (by omega))⟩
end MB

set_option maxHeartbeats 4000000
namespace MB
open PySem PySem.Spec PyProof.Rows L2
/-- data whose repr is asked: levels, size -/
structure RpW (k n : Nat) (d : PyData) : Prop where
  sh : Sh k d
  shw : d.showable = true
  short : d.leavesShort  75 = true
  bulk : d.bulk ≤ n
theorem RpW.mono {k n m : Nat} {d : PyData} (h : RpW k n d) (e : n ≤ m) : RpW k m d := ⟨h.sh, h.shw, h.short, Nat.le_trans h.bulk e⟩
theorem RpW.int {i : Int} {k : Nat} (h : i.natAbs < 10 ^ 70) : RpW k 0 (.int i) := by
  refine ⟨.int i, ?_, ?_, by simp [PyData.bulk]⟩
  · simp only [PyData.showable]
    refine decide_eq_true ?_
    by_cases h0 : i.natAbs = 0
    · rw [h0]; decide
    · exact Nat.lt_trans ((Nat.log2_lt h0).mpr (show i.natAbs < 2 ^ 240 by exact Nat.lt_trans h (by decide +kernel))) (by decide)
  · simp only [PyData.leavesShort]
    refine decide_eq_true ?_
    have e := int_text_length_le10 (a := i) (k := 70) (by decide) h
    have e2 : (PyData.shown (.int i)).length = (toString i).length := by
      simp only [PyData.shown]
      exact PySem.ofString_length _
    omega
theorem rpW_all {k n : Nat} : ∀ {ds : List PyData}, (∀ d, d ∈ ds → RpW k n d) → PyData.showableAll ds = true ∧ PyData.leavesShortAll  75 ds = true ∧ PyData.bulkAll ds ≤ (n + 1) * ds.length
  | [], _ => ⟨by simp [PyData.showableAll], by simp [PyData.leavesShortAll], by simp [PyData.bulkAll]⟩
  | d :: ds, h => by
    have h1 := h d (List.mem_cons_self ..)
    obtain ⟨a, b, c⟩ := rpW_all fun e he => h e (List.mem_cons_of_mem _ he)
    refine ⟨by simp only [PyData.showableAll, h1.shw, a, Bool.and_self], by simp only [PyData.leavesShortAll, h1.short, b, Bool.and_self], ?_⟩
    simp only [PyData.bulkAll, List.length_cons]
    have := h1.bulk
    rw [Nat.mul_add]
    omega
theorem RpW.tup {k n m : Nat} {ds : List PyData} (h : ∀ d, d ∈ ds → RpW k n d) (hm : (n + 1) * ds.length ≤ m) : RpW (k + 1) m (.tuple ds) := by
  obtain ⟨a, b, c⟩ := rpW_all h
  exact ⟨Sh.tup fun d hd => (h d hd).sh, by simp only [PyData.showable]; exact a, by simp only [PyData.leavesShort]; exact b, by simp only [PyData.bulk]; omega⟩
theorem RpW.lst {k n m : Nat} {ds : List PyData} (h : ∀ d, d ∈ ds → RpW k n d) (hm : (n + 1) * ds.length ≤ m) : RpW (k + 1) m (.list ds) := by
  obtain ⟨a, b, c⟩ := rpW_all h
  exact ⟨Sh.lst fun d hd => (h d hd).sh, by simp only [PyData.showable]; exact a, by simp only [PyData.leavesShort]; exact b, by simp only [PyData.bulk]; omega⟩
theorem RpW.ints {ns : List Int} {k m : Nat} (h : ∀ i, i ∈ ns → i.natAbs < 10 ^ 70) (hm : ns.length ≤ m) : RpW (k + 1) m (.tuple (ns.map PyData.int)) :=
  RpW.tup (n := 0) (fun d hd => by obtain ⟨i, hi, rfl⟩ := List.mem_map.mp hd; exact .int (h i hi)) (by rw [List.length_map]; omega)
theorem RpW.bool {b : Bool} {k : Nat} : RpW k 0 (.bool b) := ⟨⟨by simp [PyData.canLay0], by simp [PyData.depth]⟩, by simp [PyData.showable], by simp [PyData.leavesShort], by simp [PyData.bulk]⟩
theorem fits75 {d : PyData} (hl : d.leavesShort 75 = true) (hw : d.bulk ≤ 100000) : d.shown.length ≤ sizeLine := by
  have h := PyData.shown_le_bulk 75 (by decide) d hl
  have h2 : (75 + 2) * d.bulk ≤ 77 * 100000 := Nat.mul_le_mul (by omega) (by omega)
  have e : sizeLine = 16777216 := by decide
  omega
/-- repr(x), by data -/
theorem reprW_read {K : PySem.W.Frag} {H : Hp} {x : V} {d : PyData} {Q : VK} {k n : Nat} (hd : Dp K H x d) (hs : RpW k n d) (hk : k ≤ 60) (hn : n ≤ 100000) (q : Q (.str d.shown) H) : rReprD K [x] H Q :=
  ⟨x, d, rfl, hd, hs.sh.1, hs.shw, Nat.le_trans hs.sh.2 hk, fits75 hs.short (Nat.le_trans hs.bulk hn), q⟩
theorem RpW.all {k n : Nat} {d : PyData} (hs : RpW k n d) (hk : k ≤ 60) (hn : n ≤ 100000) : d.canLay0 = true ∧ d.showable = true ∧ d.depth ≤ 60 ∧ d.shown.length ≤ sizeLine :=
  ⟨hs.sh.1, hs.shw, Nat.le_trans hs.sh.2 hk, fits75 hs.short (Nat.le_trans hs.bulk hn)⟩
end MB

set_option maxHeartbeats 4000000
namespace MB
open PySem PySem.Spec PyProof.Rows L2

/-! ### f(p = v), no value by position -/
def gK {α : Type} (us ws : List α) : List α := match us with
  | [] => ws
  | _ :: _ => []
section
variable {X : Cx} {CX : CXT} {k : Nat} {f : Addr} {fd : FuncData} {ps ks : List Str} {sp : Sp} {E : XK} {x : Str} {p pos : Pos} {kws : List Keyword} {tk : TA} {g : List Value → List Value → List Value} {gV : List V → List V → List V}
theorem pe_callK0 (F : FnOk X.prog X.w X.K X.mg X.base CX k f fd ps sp) (hr : Room k X.A) (hg : Gl X x) (hm : X.mg x = some (.ref f)) (hk : PySem.W.keepIn X.K (.ref f) = true) (hb : KBinds X.K fd ps ks g gV) (hx : Passes CX X E)
    (hkw : PK X kws tk) (hall : (backToKw pos (keywordEach kws X.env)).all (·.1.isSome) = true := by rfl) (hks : (backToKw pos (keywordEach kws X.env)).filterMap (·.1) = ks := by rfl)
    (hdb : (x == ("__debug__" : Str)) = false := by decide)
    (hpl : ((backTo pos (starEach [] X.env)).any (·.1) || (backToKw pos (keywordEach kws X.env)).any (·.1.isNone)) = false := by rfl) :
    PE X (.Call (.Name x p) [] kws pos) (tCallK sp gV E tNil tk) := by
  refine ⟨fun pins s σ H Q I h => ?_⟩
  refine wpAny_Call_Name_kw (ld_glob I hg hm ?_ hdb)
  refine PySem.W.callWith_KW0 (h₀ := X.base) I.ok.mod.kin hk hall ?_ hpl
  refine thn (hkw.run pos pins s σ H _ I h) fun ws s2 ⟨zs, H2, I2, rz, q2⟩ => ⟨I2.kIn, ?_⟩
  rw [hks]
  exact run_fnk (us := []) (vs := []) F hr hb hx I2 .nil rz q2
end
theorem kb1 {K : PySem.W.Frag} {x qual : Str} {st : Stmt} {f : Addr} {fd : FuncData} {q : Str} (F : L2.Fun K x qual st f fd)
    (h : ∀ (kV doc pm : Value) (an : Option Addr) (cdv ct u : Value), bindArgs (PySem.W.fnOf x qual (defArgs st) (defBody st) (defScope st) .none kV doc pm an cdv ct) ⟨[], [(q, u)]⟩ = pure [(q, u)]) : KBinds K fd [q] [q] gK gK := by
  obtain ⟨oc, od, kV, doc, pm, an, cdv, ct, osl, rfl, lk, hcd⟩ := F.ex
  refine ⟨fun s us ws _ hl => ?_, fun {vs us zs ws} r1 r2 => ?_⟩
  · cases us with
    | cons u us => exact nomatch hl
    | nil =>
      match ws, hl with
      | [u], _ => exact .of_eq (h kV doc pm an cdv ct u)
  · cases r1 with
    | nil => exact r2
    | cons _ _ => exact .nil

/-! ### a comprehension with a test -/
theorem lc_sel {K : PySem.W.Frag} {J : It} {n : Nat} {G : Hp → Prop} {Y : Nat → Hp → V → Hp → Prop} (w : Walk J n G Y) {g : TG} {tt : TT} {te : TE} {vs : List Nat} {σ : L2.St} {H1 : Hp} {D : Addr} {Qd : Hp → Prop}
    (f : Nat → Bool) (d : Nat → PyData) (ht : ∀ i, i < n → Tf (d i)) (hn : n ≤ 1000) (hD : H1 D = none) (hG : ∀ H, Same H1 H → G H)
    (hs : ∀ i x H H', i < n → Same H1 H → Y i H x H' → ∀ R : V → Hp → Prop, (∀ y H4, Same H H4 → Dp K H4 y (d i) → R y H4) →
      g x (wipe σ vs) H' fun σ2 H2 => wipe σ2 vs = wipe σ vs ∧ tt σ2 H2 fun b H3 => b = f i ∧ Same H H3 ∧ (b = true → te σ2 H3 R))
    (hd : ∀ H acc, Same H1 H → H D = some (.lst acc) → DpAll K H acc (((List.range n).filter f).map d) → Qd H)
    (mg : ∀ x σ' H' (Q Q' : L2.St → Hp → Prop), (∀ a b, Q a b → Q' a b) → g x σ' H' Q → g x σ' H' Q') (mt : ∀ σ' H' (Q Q' : Bool → Hp → Prop), (∀ a b, Q a b → Q' a b) → tt σ' H' Q → tt σ' H' Q') :
    ∃ W : Nat → Nat → Hp → Prop, (∃ m, W 0 m (upd H1 D (.lst []))) ∧ ∀ i m H, W i m H →
      (J.stop i H ∧ Qd H) ∨ (J.go i H ∧ ∃ Nx : Hp → Prop, (∀ H', Nx H' → ∃ m', m' < m ∧ W (i + 1) m' H') ∧ ∀ x H', J.yld i H x H' → g x (wipe σ vs) H' fun σ2 H2 => wipe σ2 vs = wipe σ vs ∧ tt σ2 H2 fun b H3 =>
        if b = true then te σ2 H3 fun y H4 => ∃ acc, H4 D = some (.lst acc) ∧ acc.length < sizeLine ∧ Nx (upd H4 D (.lst (acc ++ [y]))) else Nx H3) := by
  refine lc_it w (fun i H => Same H1 H ∧ ∃ acc, H D = some (.lst acc) ∧ DpAll K H acc (((List.range i).filter f).map d)) ⟨same_upd hD, [], upd_same, .nil⟩ (fun i H _ h => hG H h.1) ?_ ?_
  · rintro i x H H' hi ⟨s1, acc, ha, hA⟩ hy
    have hlen := DpAll.len hA
    have hle : acc.length ≤ i := by
      rw [hlen, List.length_map]
      have := List.length_filter_le f (List.range i)
      rw [List.length_range] at this
      exact this
    refine mg _ _ _ _ _ ?_ (hs i x H H' hi s1 hy (fun y H4 => ∃ acc, H4 D = some (.lst acc) ∧ acc.length < sizeLine ∧ (f i = true → Same H1 (upd H4 D (.lst (acc ++ [y]))) ∧ ∃ acc', (upd H4 D (.lst (acc ++ [y]))) D = some (.lst acc') ∧ DpAll K (upd H4 D (.lst (acc ++ [y]))) acc' (((List.range (i + 1)).filter f).map d))) ?_)
    · rintro σ2 H2 ⟨h1, h2⟩
      refine ⟨h1, mt _ _ _ _ ?_ h2⟩
      rintro b H3 ⟨hb, s3, h3⟩
      cases b with
      | true =>
        refine iteT ?_
        have h4 := h3 rfl
        have hb' := hb.symm
        simp only [hb', true_implies] at h4
        exact h4
      | false =>
        refine iteF ⟨s1.trans s3, acc, s3 _ _ ha, ?_⟩
        rw [List.range_succ, List.filter_append, List.map_append]
        have e : List.filter f [i] = [] := by rw [List.filter_cons, if_neg (by rw [← hb]; decide)]; rfl
        rw [e, List.map_nil, List.append_nil]
        exact DpAll.same s3 hA
    · intro y H4 s4 hy4
      refine ⟨acc, s4 _ _ ha, sz61 (by omega), fun hf => ⟨Same.mut (s1.trans s4) hD, acc ++ [y], upd_same, ?_⟩⟩
      have kp : Keep K H4 (upd H4 D (.lst (acc ++ [y]))) := But.keep But.upd (s4 _ _ ha)
      have e : List.filter f [i] = [i] := by rw [List.filter_cons, if_pos hf]; rfl
      rw [List.range_succ, List.filter_append, List.map_append, e]
      refine DpAll.keep kp (fun d' h => ?_) (DpAll.append (DpAll.same s4 hA) (.cons hy4 .nil))
      rcases List.mem_append.mp h with h | h
      · obtain ⟨j, hj, rfl⟩ := List.mem_map.mp h
        have := List.mem_range.mp (List.mem_filter.mp hj).1
        exact ht j (by omega)
      · have e : d' = d i := by simpa using h
        rw [e]; exact ht i hi
  · rintro H ⟨s1, acc, ha, hA⟩
    exact hd H acc s1 ha hA
end MB

set_option maxHeartbeats 4000000
namespace MB
open PySem PySem.Spec PyProof.Rows L2
/-! ### x *= e -/
theorem ip_mulW {X : Cx} : PIp X .Mult (fun x y H Q => ∃ i j, x = .int i ∧ y = .int j ∧ CMulW i j ∧ Q (.int (i * j)) H) := by
  intro pins s σ H x y v u Q I r1 r2 h
  obtain ⟨i, j, e1, e2, hc, q⟩ := h
  subst e1; subst e2
  obtain ⟨t, rfl⟩ := r1
  obtain ⟨t', rfl⟩ := r2
  exact imul_int ⟨.int _, H, I.tok _, ⟨_, rfl⟩, q⟩ hc.ok
/-! ### f(q = v, p = w): by keywords in any order -/
def gP {α : Type} (idx : List Nat) (us ws : List α) : List α := match us with
  | [] => idx.filterMap fun i => ws[i]?
  | _ :: _ => []
theorem gP_take {α : Type} {n : Nat} {ws : List α} : ∀ {idx : List Nat}, (∀ i, i ∈ idx → i < n) → (idx.filterMap fun i => (ws.take n)[i]?) = idx.filterMap fun i => ws[i]?
  | [], _ => rfl
  | i :: idx, h => by
    have h1 := h i (List.mem_cons_self ..)
    have h2 := gP_take (α := α) (n := n) (ws := ws) (idx := idx) fun j hj => h j (List.mem_cons_of_mem _ hj)
    rw [List.filterMap_cons, List.filterMap_cons, h2, List.getElem?_take, if_pos h1]
theorem gP_len {α : Type} {ws : List α} : ∀ {idx : List Nat}, (idx.filterMap fun i => ws[i]?).length = idx.length → ∀ i, i ∈ idx → i < ws.length
  | [], _, i, h => nomatch h
  | j :: idx, hl, i, h => by
    cases e : ws[j]? with
    | none =>
      simp only [List.filterMap_cons, e] at hl
      have := List.length_filterMap_le (fun i => ws[i]?) idx
      simp only [List.length_cons] at hl
      omega
    | some x =>
      simp only [List.filterMap_cons, e, List.length_cons, Nat.add_right_cancel_iff] at hl
      rcases List.mem_cons.mp h with h | h
      · subst h
        exact (List.getElem?_eq_some_iff.mp e).1
      · exact gP_len hl i h
theorem gP_rel {zs : List V} {ws : List Value} (r : Vals zs ws) : ∀ idx : List Nat, Vals (idx.filterMap fun i => zs[i]?) (idx.filterMap fun i => ws[i]?)
  | [] => .nil
  | i :: idx => by
    have ih := gP_rel r idx
    cases e : zs[i]? with
    | none =>
      have e2 : ws[i]? = none := List.getElem?_eq_none (by rw [← r.length]; exact List.getElem?_eq_none_iff.mp e)
      simp only [List.filterMap_cons, e, e2]; exact ih
    | some x =>
      obtain ⟨u, e2, ru⟩ := r.get e
      simp only [List.filterMap_cons, e, e2]; exact .cons ru ih
theorem zip_take {α β : Type} : ∀ (ks : List α) (ws : List β), ks.zip (ws.take ks.length) = ks.zip ws
  | [], _ => rfl
  | _ :: _, [] => rfl
  | k :: ks, w :: ws => by simp [zip_take ks ws]
theorem kbP {K : PySem.W.Frag} {x qual : Str} {st : Stmt} {f : Addr} {fd : FuncData} {ps ks : List Str} {idx : List Nat} (F : L2.Fun K x qual st f fd) (hi : idx.length = ps.length) (hk : ks.length = ps.length) (hp : 0 < ps.length)
    (hall : (∀ i, i ∈ idx → i < ps.length) ∧ ps.length - 1 ∈ idx)
    (h : ∀ (kV doc pm : Value) (an : Option Addr) (cdv ct : Value) (ws : List Value), ws.length = ps.length → bindArgs (PySem.W.fnOf x qual (defArgs st) (defBody st) (defScope st) .none kV doc pm an cdv ct) ⟨[], ks.zip ws⟩ = pure (ps.zip (gP idx [] ws))) : KBinds K fd ps ks (gP idx) (gP idx) := by
  obtain ⟨oc, od, kV, doc, pm, an, cdv, ct, osl, rfl, lk, hcd⟩ := F.ex
  refine ⟨fun s us ws _ hl => ?_, fun {vs us zs ws} r1 r2 => ?_⟩
  · cases us with
    | cons u us =>
      have : 0 = ps.length := hl
      omega
    | nil =>
      have hl' : (idx.filterMap fun i => ws[i]?).length = idx.length := by rw [hi]; exact hl
      have h2 := gP_len hl' _ hall.2
      have h3 := h kV doc pm an cdv ct (ws.take ps.length) (by rw [List.length_take]; omega)
      have e1 : gP idx [] (ws.take ps.length) = gP idx [] ws := gP_take hall.1
      have e2 : ks.zip (ws.take ps.length) = ks.zip ws := by
        rw [← hk]
        exact zip_take ks ws
      rw [e1, e2] at h3
      exact .of_eq h3
  · cases r1 with
    | nil => exact gP_rel r2 idx
    | cons _ _ => exact .nil
section
variable {X : Cx} {CX : CXT} {k : Nat} {f : Addr} {fd : FuncData} {ps ks : List Str} {sp : Sp} {E : XK} {x : Str} {p pos : Pos} {kws : List Keyword} {tk : TA} {g : List Value → List Value → List Value} {gV : List V → List V → List V}
end
end MB

set_option maxHeartbeats 4000000
namespace MB
open PySem PySem.Spec PyProof.Rows L2
/-! ### f(u, q = v, ..): one argument by place, the others by name in their order -/
def gQ {α : Type} (m : Nat) (us ws : List α) : List α := match us with
  | [u] => u :: ws.take m
  | _ => []
theorem kbQ {K : PySem.W.Frag} {x qual : Str} {st : Stmt} {f : Addr} {fd : FuncData} {p0 : Str} {ks : List Str} (F : L2.Fun K x qual st f fd)
    (h : ∀ (kV doc pm : Value) (an : Option Addr) (cdv ct u : Value) (ws : List Value), ws.length = ks.length → bindArgs (PySem.W.fnOf x qual (defArgs st) (defBody st) (defScope st) .none kV doc pm an cdv ct) ⟨[u], ks.zip ws⟩ = pure ((p0 :: ks).zip (u :: ws))) : KBinds K fd (p0 :: ks) ks (gQ ks.length) (gQ ks.length) := by
  obtain ⟨oc, od, kV, doc, pm, an, cdv, ct, osl, rfl, lk, hcd⟩ := F.ex
  refine ⟨fun s us ws _ hl => ?_, fun {vs us zs ws} r1 r2 => ?_⟩
  · match us, hl with
    | [u], hl =>
      have hl' : (ws.take ks.length).length = ks.length := by
        have : (u :: ws.take ks.length).length = ks.length + 1 := hl
        simpa using this
      have h3 := h kV doc pm an cdv ct u (ws.take ks.length) hl'
      rw [zip_take ks ws] at h3
      exact .of_eq h3
  · cases r1 with
    | nil => exact .nil
    | cons r1 r =>
      cases r with
      | nil => exact .cons r1 (r2.take _)
      | cons _ _ => exact .nil
/-- a dividend below 2 ^ 4000 is divided by C -/
theorem divp_nat {i j : Nat} (hj : 0 < j) (h : i < 2 ^ 4000) : CDivP (i : Int) (j : Int) := by
  refine divp_ok (by omega) ?_
  have : Builtin.Int.intBits (i : Int) ≤ 4000 := by
    unfold Builtin.Int.intBits
    split
    · omega
    · rename_i z
      have hi : i ≠ 0 := fun e => z (by simp [e])
      rw [Int.natAbs_natCast]
      have := (Nat.log2_lt hi).mpr h
      omega
  omega
end MB

set_option maxHeartbeats 4000000
namespace MB
open PySem PySem.Spec PyProof.Rows L2
theorem blT {c : Prop} [Decidable c] (h : c) : V.bl (decide c) = V.bl true := by rw [decide_eq_true h]
theorem blF {c : Prop} [Decidable c] (h : ¬ c) : V.bl (decide c) = V.bl false := by rw [decide_eq_false h]
theorem nblF {c : Prop} [Decidable c] (h : c) : V.bl (!decide c) = V.bl false := by rw [decide_eq_true h]; rfl
theorem nblT {c : Prop} [Decidable c] (h : ¬ c) : V.bl (!decide c) = V.bl true := by rw [decide_eq_false h]; rfl
theorem int_ne {i j : Int} (h : i ≠ j) : ¬ V.int i = V.int j := fun e => h (by injection e)
theorem dp_bls_inv {K : PySem.W.Frag} {H : Hp} : ∀ {ns : List Bool} {vs : List V}, DpAll K H vs (ns.map PyData.bool) → vs = ns.map V.bl
  | [], _, .nil => rfl
  | n :: ns, _, .cons a b => by
    cases a
    rw [dp_bls_inv b]
    rfl
/-- a comprehension whose items are truth values -/
theorem lc_bools {K : PySem.W.Frag} {J : It} {n : Nat} {G : Hp → Prop} {Y : Nat → Hp → V → Hp → Prop} (w : Walk J n G Y) {g : TG} {tt : TT} {te : TE} {vs : List Nat} {σ : L2.St} {H1 : Hp} {D : Addr} {Qd : Hp → Prop}
    (bs : List Bool) (hl : bs.length = n) (hn : n ≤ 1000) (hD : H1 D = none) (hG : ∀ H, Same H1 H → G H)
    (hs : ∀ i x H H', i < n → Same H1 H → Y i H x H' → ∀ b, bs[i]? = some b → ∀ R : V → Hp → Prop, (∀ H4, Same H H4 → R (.bl b) H4) →
      g x (wipe σ vs) H' fun σ2 H2 => wipe σ2 vs = wipe σ vs ∧ tt σ2 H2 fun b H3 => b = true ∧ te σ2 H3 R)
    (hd : ∀ H, Same H1 H → H D = some (.lst (bs.map V.bl)) → Qd H)
    (mg : ∀ x σ' H' (Q Q' : L2.St → Hp → Prop), (∀ a b, Q a b → Q' a b) → g x σ' H' Q → g x σ' H' Q') (mt : ∀ σ' H' (Q Q' : Bool → Hp → Prop), (∀ a b, Q a b → Q' a b) → tt σ' H' Q → tt σ' H' Q') :
    ∃ W : Nat → Nat → Hp → Prop, (∃ m, W 0 m (upd H1 D (.lst []))) ∧ ∀ i m H, W i m H →
      (J.stop i H ∧ Qd H) ∨ (J.go i H ∧ ∃ Nx : Hp → Prop, (∀ H', Nx H' → ∃ m', m' < m ∧ W (i + 1) m' H') ∧ ∀ x H', J.yld i H x H' → g x (wipe σ vs) H' fun σ2 H2 => wipe σ2 vs = wipe σ vs ∧ tt σ2 H2 fun b H3 =>
        if b = true then te σ2 H3 fun y H4 => ∃ acc, H4 D = some (.lst acc) ∧ acc.length < sizeLine ∧ Nx (upd H4 D (.lst (acc ++ [y]))) else Nx H3) := by
  refine lc_all (K := K) w (bs.map PyData.bool) (by rw [List.length_map, hl]) (fun d h => ?_) hn hD hG ?_ ?_ mg mt
  · obtain ⟨b, _, rfl⟩ := List.mem_map.mp h
    exact .bl b
  · intro i x H H' hi s y d hd' R hR
    rw [List.getElem?_map] at hd'
    cases e : bs[i]? with
    | none => rw [e] at hd'; cases hd'
    | some b =>
      rw [e] at hd'
      cases hd'
      exact hs i x H H' hi s y b e R fun H4 s4 => hR _ _ s4 (.bl b)
  · intro H acc s ha hA
    rw [dp_bls_inv hA] at ha
    exact hd H s ha
/-- a comprehension whose items are numbers -/
theorem lc_ints {K : PySem.W.Frag} {J : It} {n : Nat} {G : Hp → Prop} {Y : Nat → Hp → V → Hp → Prop} (w : Walk J n G Y) {g : TG} {tt : TT} {te : TE} {vs : List Nat} {σ : L2.St} {H1 : Hp} {D : Addr} {Qd : Hp → Prop}
    (bs : List Int) (hl : bs.length = n) (hn : n ≤ 1000) (hD : H1 D = none) (hG : ∀ H, Same H1 H → G H)
    (hs : ∀ i x H H', i < n → Same H1 H → Y i H x H' → ∀ b, bs[i]? = some b → ∀ R : V → Hp → Prop, (∀ H4, Same H H4 → R (.int b) H4) →
      g x (wipe σ vs) H' fun σ2 H2 => wipe σ2 vs = wipe σ vs ∧ tt σ2 H2 fun b H3 => b = true ∧ te σ2 H3 R)
    (hd : ∀ H, Same H1 H → H D = some (.lst (bs.map V.int)) → Qd H)
    (mg : ∀ x σ' H' (Q Q' : L2.St → Hp → Prop), (∀ a b, Q a b → Q' a b) → g x σ' H' Q → g x σ' H' Q') (mt : ∀ σ' H' (Q Q' : Bool → Hp → Prop), (∀ a b, Q a b → Q' a b) → tt σ' H' Q → tt σ' H' Q') :
    ∃ W : Nat → Nat → Hp → Prop, (∃ m, W 0 m (upd H1 D (.lst []))) ∧ ∀ i m H, W i m H →
      (J.stop i H ∧ Qd H) ∨ (J.go i H ∧ ∃ Nx : Hp → Prop, (∀ H', Nx H' → ∃ m', m' < m ∧ W (i + 1) m' H') ∧ ∀ x H', J.yld i H x H' → g x (wipe σ vs) H' fun σ2 H2 => wipe σ2 vs = wipe σ vs ∧ tt σ2 H2 fun b H3 =>
        if b = true then te σ2 H3 fun y H4 => ∃ acc, H4 D = some (.lst acc) ∧ acc.length < sizeLine ∧ Nx (upd H4 D (.lst (acc ++ [y]))) else Nx H3) := by
  refine lc_all (K := K) w (bs.map PyData.int) (by rw [List.length_map, hl]) (tf_ints _) hn hD hG ?_ ?_ mg mt
  · intro i x H H' hi s y d hd' R hR
    rw [List.getElem?_map] at hd'
    cases e : bs[i]? with
    | none => rw [e] at hd'; cases hd'
    | some b =>
      rw [e] at hd'
      cases hd'
      exact hs i x H H' hi s y b e R fun H4 s4 => hR _ _ s4 (.int b)
  · intro H acc s ha hA
    rw [dp_ints_inv hA] at ha
    exact hd H s ha
theorem k_pgTN {X : Cx} {K : PySem.W.Frag} {x y z : Str} {px py pz p1 : Pos} {k k1 : Nat} {pos : Pos} {t1 t2 : TG} (hK : X.K = K) (hc : X.calm = true) (h1 : PG X (.Tuple [.Name x px, .Name y py] k1 p1) t1) (h2 : PG X (.Name z pz) t2) : PG X (.Tuple [.Tuple [.Name x px, .Name y py] k1 p1, .Name z pz] k pos) (gTup K 2 (gCons t1 (gCons t2 gNil))) := by
  subst hK
  exact pg_tup hc (pgs_cons h1 (pgs_cons h2 pgs_nil))
theorem mono_pair2 {K : PySem.W.Frag} {n n' i j l : Nat} (x : V) (σ' : L2.St) (H' : Hp) (Q Q' : L2.St → Hp → Prop) (h : ∀ a b, Q a b → Q' a b) (e : gTup K n (gCons (gTup K n' (gCons (gName i) (gCons (gName j) gNil))) (gCons (gName l) gNil)) x σ' H' Q) : gTup K n (gCons (gTup K n' (gCons (gName i) (gCons (gName j) gNil))) (gCons (gName l) gNil)) x σ' H' Q' := by
  obtain ⟨a, xs, e1, e2, e3, v, r, e4, b, ys, f1, f2, f3, v1, r1, f4, v2, r2, f5, f6, v', r', e5, e6, q⟩ := e
  exact ⟨a, xs, e1, e2, e3, v, r, e4, b, ys, f1, f2, f3, v1, r1, f4, v2, r2, f5, f6, v', r', e5, e6, h _ _ q⟩
theorem ci_sum : ∀ p : List Nat, (ci p).sum = ((p.sum : Nat) : Int)
  | [] => rfl
  | x :: p => by
    have := ci_sum p
    simp only [ci, List.map_cons, List.sum_cons, Int.natCast_add] at this ⊢
    rw [this]
theorem cutV_to {p : List Nat} {m : Nat} (h : m ≤ p.length) : cutV (vi p) none (some (m : Int)) = vi (p.take m) := by
  rw [cut_to (by rw [vi_len]; exact h)]; simp [vi, List.map_take]
theorem cutV_from {p : List Nat} {m : Nat} (h : m ≤ p.length) : cutV (vi p) (some (m : Int)) none = vi (p.drop m) := by
  rw [cut_from (by rw [vi_len]; exact h)]; simp [vi, List.map_drop]
theorem cut_drop {p : List Nat} {m : Nat} (h : m ≤ p.length) : cutV (vi p) (some (m : Int)) none = (ci (p.drop m)).map V.int := by
  rw [cutV_from h, vi_ci]
theorem isi_int {K : PySem.W.Frag} {H : Hp} {i : Int} {Q : VK} (q : Q (.bl true) H) : rIsi K [.int i, .ty "int"] H Q :=
  ⟨.int i, .ty "int", .type "int", .type "int", true, rfl, .ty _, .base (.int i), kit_ty (by decide +kernel), q⟩
theorem isi_bool {K : PySem.W.Frag} {H : Hp} {i : Int} {Q : VK} (q : Q (.bl false) H) : rIsi K [.int i, .ty "bool"] H Q :=
  ⟨.int i, .ty "bool", .type "int", .type "bool", false, rfl, .ty _, .base (.int i), kit_ty (by decide +kernel), q⟩
theorem nth3 {n : Nat} (x : List V) (h : x.length = n) (i : Nat) (hi : i < (if (if (x.length : Int) < 3 then (x.length : Int) else 3) > 1 then (if (x.length : Int) < 3 then (x.length : Int) else 3) else 1 : Int).toNat) : i ≤ 62 := by
  have : (if (if (x.length : Int) < 3 then (x.length : Int) else 3) > 1 then (if (x.length : Int) < 3 then (x.length : Int) else 3) else 1) ≤ 3 := by split <;> split <;> omega
  omega
end MB

set_option maxHeartbeats 4000000
namespace MB
/-! ### binomial coefficients -/
def bin : Nat → Nat → Nat
  | _, 0 => 1
  | 0, _ + 1 => 0
  | n + 1, k + 1 => bin n k + bin n (k + 1)
theorem bin_zero (n : Nat) : bin n 0 = 1 := by cases n <;> rfl
theorem bin_succ (n k : Nat) : bin (n + 1) (k + 1) = bin n k + bin n (k + 1) := rfl
theorem bin_lt : ∀ {n k : Nat}, n < k → bin n k = 0
  | 0, k + 1, _ => rfl
  | n + 1, k + 1, h => by rw [bin_succ, bin_lt (n := n) (by omega), bin_lt (n := n) (by omega)]
theorem bin_self : ∀ n : Nat, bin n n = 1
  | 0 => rfl
  | n + 1 => by rw [bin_succ, bin_self n, bin_lt (by omega)]
theorem bin_one : ∀ n : Nat, bin n 1 = n
  | 0 => rfl
  | n + 1 => by rw [bin_succ, bin_zero, bin_one n]; omega
theorem bin_pos : ∀ {n k : Nat}, k ≤ n → 0 < bin n k
  | n, 0, _ => by rw [bin_zero]; decide
  | n + 1, k + 1, h => by rw [bin_succ]; have := bin_pos (n := n) (k := k) (by omega); omega
theorem bin_mul : ∀ n k : Nat, bin (n + 1) (k + 1) * (k + 1) = (n + 1) * bin n k
  | 0, 0 => by decide
  | 0, k + 1 => by simp [bin]
  | n + 1, 0 => by rw [bin_one, bin_zero]
  | n + 1, k + 1 => by
    have h1 := bin_mul n k
    have h2 := bin_mul n (k + 1)
    rw [bin_succ (n + 1) (k + 1), Nat.add_mul, h2]
    have e1 : bin (n + 1) (k + 1) * (k + 1 + 1) = bin (n + 1) (k + 1) * (k + 1) + bin (n + 1) (k + 1) := by rw [Nat.mul_add, Nat.mul_one]
    rw [e1, h1, bin_succ n k]
    grind
/-- the next one in a row -/
theorem bin_step {n j : Nat} (h : j ≤ n) : bin n (j + 1) * (j + 1) = bin n j * (n - j) := by
  have h1 := bin_mul n j
  rw [bin_succ, Nat.add_mul] at h1
  have e : (n + 1) * bin n j = bin n j * (n - j) + bin n j * (j + 1) := by rw [← Nat.mul_add, Nat.mul_comm]; congr 1; omega
  omega
theorem bin_div {n j : Nat} (h : j ≤ n) : bin n j * (n - j) / (j + 1) = bin n (j + 1) := by
  rw [← bin_step h, Nat.mul_div_cancel _ (by omega)]
theorem bin_sym : ∀ a b : Nat, bin (a + b) a = bin (a + b) b
  | 0, b => by rw [Nat.zero_add, bin_zero, bin_self]
  | a + 1, 0 => by rw [Nat.add_zero, bin_zero, bin_self]
  | a + 1, b + 1 => by
    have e : a + 1 + (b + 1) = (a + b + 1) + 1 := by omega
    rw [e, bin_succ (a + b + 1) a, bin_succ (a + b + 1) b]
    have h1 := bin_sym a (b + 1)
    have h2 := bin_sym (a + 1) b
    have e1 : a + (b + 1) = a + b + 1 := by omega
    have e2 : a + 1 + b = a + b + 1 := by omega
    rw [e1] at h1; rw [e2] at h2
    omega
theorem bin_sub {n k : Nat} (h : k ≤ n) : bin n (n - k) = bin n k := by
  have := bin_sym k (n - k)
  rw [show k + (n - k) = n by omega] at this
  exact this.symm
theorem bin_min {n k : Nat} (h : k ≤ n) : bin n (min k (n - k)) = bin n k := by
  by_cases c : k ≤ n - k
  · rw [Nat.min_eq_left c]
  · rw [Nat.min_eq_right (by omega), bin_sub h]
theorem bin_mono1 : ∀ n k : Nat, bin n k ≤ bin (n + 1) k
  | n, 0 => by rw [bin_zero, bin_zero]; exact Nat.le_refl _
  | n, k + 1 => by rw [bin_succ]; omega
theorem bin_mono {n m : Nat} (k : Nat) (h : n ≤ m) : bin n k ≤ bin m k := by
  induction h with
  | refl => exact Nat.le_refl _
  | step _ ih => exact Nat.le_trans ih (bin_mono1 _ _)
theorem bin_strict1 {n k : Nat} (h : k ≤ n + 1) : bin n (k + 1) < bin (n + 1) (k + 1) ∨ n < k := by
  by_cases c : n < k
  · exact .inr c
  · refine .inl ?_
    rw [bin_succ]
    have := bin_pos (n := n) (k := k) (by omega)
    omega
theorem bin_strict {n m k : Nat} (hk : 1 ≤ k) (hn : k ≤ n + 1) (h : n < m) : bin n k < bin m k := by
  have h1 : bin n k < bin (n + 1) k := by
    obtain ⟨j, rfl⟩ : ∃ j, k = j + 1 := ⟨k - 1, by omega⟩
    rw [bin_succ]
    have := bin_pos (n := n) (k := j) (by omega)
    omega
  exact Nat.lt_of_lt_of_le h1 (bin_mono k h)
theorem bin_pow : ∀ n k : Nat, bin n k ≤ (n + 1) ^ k
  | n, 0 => by rw [bin_zero]; simp
  | 0, k + 1 => by rw [bin_lt (by omega)]; exact Nat.zero_le _
  | n + 1, k + 1 => by
    have h := bin_mul n k
    have h1 : bin (n + 1) (k + 1) ≤ bin (n + 1) (k + 1) * (k + 1) := Nat.le_mul_of_pos_right _ (by omega)
    have h2 := bin_pow n k
    have h3 : (n + 1) ^ k ≤ (n + 1 + 1) ^ k := Nat.pow_le_pow_left (by omega) _
    have h4 : (n + 1) * bin n k ≤ (n + 1 + 1) * (n + 1 + 1) ^ k := Nat.mul_le_mul (by omega) (Nat.le_trans h2 h3)
    have h5 : (n + 1 + 1) ^ (k + 1) = (n + 1 + 1) * (n + 1 + 1) ^ k := by rw [Nat.pow_succ, Nat.mul_comm]
    omega
theorem bin_bits {n k : Nat} (hn : n < 2 ^ 64) (hk : k ≤ 64) : bin n k < 2 ^ 4097 := by
  have h1 := bin_pow n k
  have h2 : (n + 1) ^ k ≤ (2 ^ 64) ^ k := Nat.pow_le_pow_left (by omega) _
  have h3 : (2 ^ 64) ^ k ≤ (2 ^ 64 : Nat) ^ 64 := Nat.pow_le_pow_right (by decide) hk
  have h4 : ((2 ^ 64 : Nat) ^ 64) < 2 ^ 4097 := by decide +kernel
  omega
theorem bin_big {k c : Nat} (hk : 1 ≤ k) : c + 1 ≤ bin (k + c) k := by
  induction c with
  | zero => show 1 ≤ bin k k; rw [bin_self]; exact Nat.le_refl _
  | succ c ih =>
    have := bin_strict (n := k + c) (m := k + (c + 1)) (k := k) hk (by omega) (by omega)
    omega
/-- c is the least with n < C(k + c, k) -/
def Lw (k n c : Nat) : Prop := n < bin (k + c) k ∧ ∀ d, d < c → bin (k + d) k ≤ n
theorem Lw.uniq {k n c d : Nat} (a : Lw k n c) (b : Lw k n d) : c = d := by
  rcases Nat.lt_trichotomy c d with h | h | h
  · have := b.2 c h; have := a.1; omega
  · exact h
  · have := a.2 d h; have := b.1; omega
theorem Lw.mk' {k n c : Nat} (h : n < bin (k + c) k) (h' : c = 0 ∨ bin (k + (c - 1)) k ≤ n) : Lw k n c := by
  refine ⟨h, fun d hd => ?_⟩
  rcases h' with e | e
  · omega
  · exact Nat.le_trans (bin_mono k (by omega)) e
def lwGo (k n : Nat) : Nat → Nat → Nat
  | 0, c => c
  | f + 1, c => if n < bin (k + c) k then c else lwGo k n f (c + 1)
def lw (k n : Nat) : Nat := lwGo k n (n + 1) 0
theorem lwGo_ok {k n : Nat} (hk : 1 ≤ k) : ∀ f c, (∀ d, d < c → bin (k + d) k ≤ n) → n < f + c → Lw k n (lwGo k n f c)
  | 0, c, h, hf => ⟨by have := bin_big (k := k) (c := c) hk; unfold lwGo; omega, h⟩
  | f + 1, c, h, hf => by
    unfold lwGo
    by_cases hc : n < bin (k + c) k
    · rw [if_pos hc]; exact ⟨hc, h⟩
    · rw [if_neg hc]
      refine lwGo_ok hk f (c + 1) (fun d hd => ?_) (by omega)
      by_cases e : d < c
      · exact h d e
      · have : d = c := by omega
        subst this; omega
theorem lw_ok {k : Nat} (n : Nat) (hk : 1 ≤ k) : Lw k n (lw k n) := lwGo_ok hk _ _ (fun _ h => absurd h (by omega)) (by omega)
theorem lw_le {k n : Nat} (hk : 1 ≤ k) : lw k n ≤ n := by
  have h := (lw_ok n hk).2
  by_cases c : lw k n ≤ n
  · exact c
  · have h1 := h n (by omega)
    have := bin_big (k := k) (c := n) hk
    omega
end MB

set_option maxHeartbeats 4000000
namespace MB
/-- the terms above 0 of the representation of n with k terms -/
def rl : Nat → Nat → List Nat
  | 0, _ => []
  | k + 1, n => if n = 0 then [] else bin (k + lw (k + 1) n) (k + 1) :: rl k (n - bin (k + lw (k + 1) n) (k + 1))
theorem rl_zero (k : Nat) : rl k 0 = [] := by cases k <;> simp [rl]
theorem rl_succ {k n : Nat} (h : n ≠ 0) : rl (k + 1) n = bin (k + lw (k + 1) n) (k + 1) :: rl k (n - bin (k + lw (k + 1) n) (k + 1)) := by simp [rl, h]
theorem lw_pos {k n : Nat} (hk : 1 ≤ k) (hn : n ≠ 0) : 1 ≤ lw k n := by
  have h := (lw_ok n hk).1
  by_cases c : lw k n = 0
  · rw [c] at h
    have : bin (k + 0) k = 1 := bin_self k
    omega
  · omega
theorem top_le {k n : Nat} (hn : n ≠ 0) : bin (k + lw (k + 1) n) (k + 1) ≤ n := by
  have h1 := lw_pos (k := k + 1) (by omega) hn
  have h2 := (lw_ok (k := k + 1) n (by omega)).2 (lw (k + 1) n - 1) (by omega)
  rwa [show k + 1 + (lw (k + 1) n - 1) = k + lw (k + 1) n by omega] at h2
theorem top_pos {k n : Nat} (hn : n ≠ 0) : 0 < bin (k + lw (k + 1) n) (k + 1) :=
  bin_pos (by have := lw_pos (k := k + 1) (by omega) hn; omega)
theorem rest_lt {k n : Nat} (hn : n ≠ 0) : n - bin (k + lw (k + 1) n) (k + 1) < bin (k + lw (k + 1) n) k := by
  have h1 := (lw_ok (k := k + 1) n (by omega)).1
  have h2 := top_le (k := k) hn
  rw [show k + 1 + lw (k + 1) n = (k + lw (k + 1) n) + 1 by omega, bin_succ] at h1
  omega
theorem rest_zero {n : Nat} (hn : n ≠ 0) : n - bin (0 + lw (0 + 1) n) (0 + 1) = 0 := by
  have := rest_lt (k := 0) hn
  rw [bin_zero] at this
  omega
theorem rl_sum : ∀ k n : Nat, (k = 0 → n = 0) → (rl k n).sum = n
  | 0, n, h => by rw [h rfl]; rfl
  | k + 1, n, _ => by
    by_cases hn : n = 0
    · subst hn; rw [rl_zero]; rfl
    · rw [rl_succ hn, List.sum_cons, rl_sum k _ (fun e => by subst e; exact rest_zero hn)]
      have := top_le (k := k) hn
      omega
theorem rl_len : ∀ k n : Nat, (rl k n).length ≤ k
  | 0, n => by simp [rl]
  | k + 1, n => by
    by_cases hn : n = 0
    · subst hn; rw [rl_zero]; simp
    · rw [rl_succ hn, List.length_cons]
      have := rl_len k (n - bin (k + lw (k + 1) n) (k + 1))
      omega
theorem rl_pos : ∀ k n : Nat, ∀ x, x ∈ rl k n → 0 < x ∧ x ≤ n
  | 0, n, x, h => by simp [rl] at h
  | k + 1, n, x, h => by
    by_cases hn : n = 0
    · subst hn; rw [rl_zero] at h; cases h
    · rw [rl_succ hn] at h
      rcases List.mem_cons.mp h with h | h
      · rw [h]; exact ⟨top_pos hn, top_le hn⟩
      · have := rl_pos k _ x h
        omega
/-- the last flush's run holds what was merged and its own -/
theorem rl_step : ∀ k n : Nat, ∃ m, m ≤ (rl (k + 1) n).length ∧ rl (k + 1) (n + 1) = (rl (k + 1) n).take m ++ [1 + ((rl (k + 1) n).drop m).sum]
  | k, n => by
    by_cases hn : n = 0
    · subst hn
      refine ⟨0, Nat.zero_le _, ?_⟩
      rw [rl_zero, rl_succ (by omega)]
      have e : lw (k + 1) (0 + 1) = 1 := (lw_ok (0 + 1) (by omega)).uniq (Lw.mk' (by
        have := bin_big (k := k + 1) (c := 1) (by omega); omega) (.inr (by rw [show k + 1 + (1 - 1) = k + 1 by omega, bin_self]; exact Nat.le_refl _)))
      rw [e, bin_self, show 0 + 1 - 1 = 0 by omega, rl_zero]
      rfl
    · have hc := lw_ok (k := k + 1) n (by omega)
      by_cases hlt : n + 1 < bin (k + 1 + lw (k + 1) n) (k + 1)
      · have e : lw (k + 1) (n + 1) = lw (k + 1) n := (lw_ok (n + 1) (by omega)).uniq ⟨hlt, fun d hd => Nat.le_succ_of_le (hc.2 d hd)⟩
        cases k with
        | zero =>
          exfalso
          have h1 := rest_zero hn
          rw [bin_one] at h1 hlt
          have h2 := top_le (k := 0) hn
          rw [bin_one] at h2
          omega
        | succ k =>
          have hT := top_le (k := k + 1) hn
          obtain ⟨m, hm, hs⟩ := rl_step k (n - bin (k + 1 + lw (k + 1 + 1) n) (k + 1 + 1))
          refine ⟨m + 1, ?_, ?_⟩
          · rw [rl_succ hn, List.length_cons]; omega
          · rw [rl_succ (n := n + 1) (by omega), e, rl_succ hn, show n + 1 - bin (k + 1 + lw (k + 1 + 1) n) (k + 1 + 1) = n - bin (k + 1 + lw (k + 1 + 1) n) (k + 1 + 1) + 1 by omega, hs]
            simp
      · have e0 : n + 1 = bin (k + 1 + lw (k + 1) n) (k + 1) := by have := hc.1; omega
        have e : lw (k + 1) (n + 1) = lw (k + 1) n + 1 := (lw_ok (n + 1) (by omega)).uniq (Lw.mk' (by
          rw [e0]; exact bin_strict (by omega) (by omega) (by omega)) (.inr (by rw [show lw (k + 1) n + 1 - 1 = lw (k + 1) n by omega]; omega)))
        refine ⟨0, Nat.zero_le _, ?_⟩
        rw [rl_succ (n := n + 1) (by omega), e, show k + (lw (k + 1) n + 1) = k + 1 + lw (k + 1) n by omega, ← e0, Nat.sub_self, rl_zero]
        have := rl_sum (k + 1) n (fun h => by omega)
        simp [this]
        omega
/-- just behind a lifetime there is one run -/
theorem rl_edge {k c : Nat} (hk : 1 ≤ k) : rl k (bin (k + c) k) = [bin (k + c) k] := by
  obtain ⟨j, rfl⟩ : ∃ j, k = j + 1 := ⟨k - 1, by omega⟩
  have hp := bin_pos (n := j + 1 + c) (k := j + 1) (by omega)
  have e : lw (j + 1) (bin (j + 1 + c) (j + 1)) = c + 1 := (lw_ok _ (by omega)).uniq (Lw.mk' (bin_strict (by omega) (by omega) (by omega)) (.inr (by rw [show c + 1 - 1 = c by omega]; exact Nat.le_refl _)))
  rw [rl_succ (by omega), e, show j + (c + 1) = j + 1 + c by omega, Nat.sub_self, rl_zero]
/-- each term is a binomial coefficient, with falling upper numbers -/
theorem rl_tops : ∀ k n a : Nat, n < bin a k → ∃ ts : List Nat, ts.length = (rl k n).length ∧ (∀ i t, ts[i]? = some t → (rl k n)[i]? = some (bin t (k - i)) ∧ k - i ≤ t ∧ 1 ≤ k - i ∧ t < a) ∧ ∀ i t u, ts[i]? = some t → ts[i + 1]? = some u → u < t
  | 0, n, a, h => ⟨[], by simp [rl], by simp, by simp⟩
  | k + 1, n, a, h => by
    by_cases hn : n = 0
    · subst hn; exact ⟨[], by rw [rl_zero], by simp, by simp⟩
    · have h1 := lw_pos (k := k + 1) (by omega) hn
      have hlt : k + lw (k + 1) n < a := by
        have h2 := top_le (k := k) hn
        by_cases c : k + lw (k + 1) n < a
        · exact c
        · have := bin_mono (n := a) (m := k + lw (k + 1) n) (k + 1) (by omega); omega
      obtain ⟨ts, e1, e2, e3⟩ := rl_tops k (n - bin (k + lw (k + 1) n) (k + 1)) (k + lw (k + 1) n) (rest_lt hn)
      refine ⟨(k + lw (k + 1) n) :: ts, by rw [rl_succ hn]; simp [e1], ?_, ?_⟩
      · intro i t ht
        cases i with
        | zero =>
          simp only [List.getElem?_cons_zero, Option.some.injEq] at ht
          subst ht
          refine ⟨by rw [rl_succ hn]; rfl, by omega, by omega, hlt⟩
        | succ i =>
          simp only [List.getElem?_cons_succ] at ht
          obtain ⟨g1, g2, g3, g4⟩ := e2 i t ht
          refine ⟨by rw [rl_succ hn, List.getElem?_cons_succ, show k + 1 - (i + 1) = k - i by omega]; exact g1, by omega, by omega, by omega⟩
      · intro i t u ht hu
        cases i with
        | zero =>
          simp only [List.getElem?_cons_zero, Option.some.injEq] at ht
          simp only [List.getElem?_cons_succ] at hu
          subst ht
          exact (e2 0 u hu).2.2.2
        | succ i =>
          simp only [List.getElem?_cons_succ] at ht hu
          exact e3 i t u ht hu
end MB

set_option maxHeartbeats 4000000
namespace MB
/-! ### states: the greatest of the newer runs, what is left -/
def mx : List Nat → Nat
  | [] => 0
  | x :: xs => max x (mx xs)
theorem mx_cons (x : Nat) (xs : List Nat) : mx (x :: xs) = max x (mx xs) := rfl
theorem mx_fold : ∀ (xs : List Nat) (x : Nat), (xs.map (fun (m : Nat) => (m : Int))).foldl max (x : Int) = ((mx (x :: xs) : Nat) : Int)
  | [], x => by simp [mx]
  | y :: ys, x => by
    rw [List.map_cons, List.foldl_cons, show max (x : Int) (y : Int) = ((max x y : Nat) : Int) by omega, mx_fold ys (max x y)]
    simp only [mx]
    omega
theorem mx_le {c : Nat} : ∀ {xs : List Nat}, (∀ x, x ∈ xs → x ≤ c) → mx xs ≤ c
  | [], _ => Nat.zero_le _
  | x :: xs, h => by
    have h1 := h x (List.mem_cons_self ..)
    have h2 := mx_le (c := c) (xs := xs) fun y hy => h y (List.mem_cons_of_mem _ hy)
    rw [mx_cons]; omega
theorem mx_mem {x : Nat} : ∀ {xs : List Nat}, x ∈ xs → x ≤ mx xs
  | y :: ys, h => by
    rw [mx_cons]
    rcases List.mem_cons.mp h with h | h
    · subst h; omega
    · have := mx_mem h; omega
/-- a state within (k, c) -/
def Sta (k c : Nat) (st : List Nat) : Prop := st.length ≤ k ∧ ∀ x, x ∈ st → 1 ≤ x ∧ x ≤ c
theorem Sta.tail {k c x : Nat} {xs : List Nat} (h : Sta k c (x :: xs)) : Sta (k - 1) (mx (x :: xs)) xs :=
  ⟨by have := h.1; rw [List.length_cons] at this; omega, fun y hy => ⟨(h.2 y (List.mem_cons_of_mem _ hy)).1, by have := mx_mem hy; rw [mx_cons]; omega⟩⟩
theorem Sta.mx_le {k c : Nat} {st : List Nat} (h : Sta k c st) : mx st ≤ c := MB.mx_le fun x hx => (h.2 x hx).2
theorem Sta.mx_pos {k c x : Nat} {xs : List Nat} (h : Sta k c (x :: xs)) : 1 ≤ mx (x :: xs) := by
  have := (h.2 x (List.mem_cons_self ..)).1
  rw [mx_cons]; omega
theorem Sta.mono {k c k' c' : Nat} {st : List Nat} (h : Sta k c st) (h1 : k ≤ k') (h2 : c ≤ c') : Sta k' c' st :=
  ⟨by have := h.1; omega, fun x hx => ⟨(h.2 x hx).1, by have := (h.2 x hx).2; omega⟩⟩
/-- as the program adds it up -/
def remv : Nat → Nat → List Nat → Int
  | k, c, [] => (bin (k + c) k : Int) - 1
  | k, c, x :: xs => ((bin (k + c) k : Int) - (bin (k + mx (x :: xs)) k : Int)) + remv (k - 1) (mx (x :: xs)) xs
/-- what each run takes off -/
def brd : Nat → List Nat → Nat
  | _, [] => 0
  | k, x :: xs => bin (k + mx (x :: xs) - 1) k + brd (k - 1) xs
theorem pascal {k m : Nat} (hk : 1 ≤ k) (hm : 1 ≤ m) : bin (k + m) k = bin (k - 1 + m) (k - 1) + bin (k + m - 1) k := by
  obtain ⟨j, rfl⟩ : ∃ j, k = j + 1 := ⟨k - 1, by omega⟩
  rw [show j + 1 + m = (j + m) + 1 by omega, bin_succ, show j + 1 - 1 + m = j + m by omega, show j + 1 - 1 = j by omega, show j + m + 1 - 1 = j + m by omega]
theorem remv_brd : ∀ {k c : Nat} {st : List Nat}, Sta k c st → remv k c st = (bin (k + c) k : Int) - 1 - (brd k st : Int)
  | k, c, [], _ => by simp [remv, brd]
  | k, c, x :: xs, h => by
    have h1 := remv_brd h.tail
    have hk : 1 ≤ k := by have := h.1; rw [List.length_cons] at this; omega
    have hp := pascal hk h.mx_pos
    simp only [remv, brd]
    rw [h1]
    omega
theorem brd_le : ∀ {k c : Nat} {st : List Nat}, Sta k c st → brd k st + 1 ≤ bin (k + c) k
  | k, c, [], _ => by have := bin_pos (n := k + c) (k := k) (by omega); simp [brd]; omega
  | k, c, x :: xs, h => by
    have h1 := brd_le h.tail
    have hk : 1 ≤ k := by have := h.1; rw [List.length_cons] at this; omega
    have hp := pascal hk h.mx_pos
    have hm := bin_mono (n := k + mx (x :: xs)) (m := k + c) k (by have := h.mx_le; omega)
    simp only [brd]
    omega
theorem brd_room : ∀ {k c : Nat} {st : List Nat}, Sta k c st → 1 ≤ c → brd (k + 1) st + 1 ≤ brd k st + bin (k + c) (k + 1)
  | k, c, [], _, hc => by have := bin_pos (n := k + c) (k := k + 1) (by omega); simp [brd]; omega
  | k, c, x :: xs, h, hc => by
    have hk : 1 ≤ k := by have := h.1; rw [List.length_cons] at this; omega
    have h1 := brd_room h.tail h.mx_pos
    obtain ⟨j, rfl⟩ : ∃ j, k = j + 1 := ⟨k - 1, by omega⟩
    have hp := h.mx_pos
    have hm := bin_mono (n := j + 1 + mx (x :: xs)) (m := j + 1 + c) (j + 1 + 1) (by have := h.mx_le; omega)
    simp only [brd]
    rw [show j + 1 + 1 - 1 = j + 1 by omega, show j + 1 - 1 = j by omega] at *
    generalize mx (x :: xs) = M at *
    obtain ⟨m, rfl⟩ : ∃ m, M = m + 1 := ⟨M - 1, by omega⟩
    have e1 : bin (j + 1 + 1 + (m + 1) - 1) (j + 1 + 1) = bin (j + (m + 1)) (j + 1) + bin (j + 1 + m) (j + 1 + 1) := by
      rw [show j + 1 + 1 + (m + 1) - 1 = (j + m + 1) + 1 by omega, bin_succ, show j + m + 1 = j + (m + 1) by omega, show j + 1 + m = j + (m + 1) by omega]
    have e2 : bin (j + 1 + (m + 1)) (j + 1 + 1) = bin (j + (m + 1)) (j + 1) + bin (j + 1 + m) (j + 1 + 1) := by
      rw [show j + 1 + (m + 1) = (j + (m + 1)) + 1 by omega, bin_succ, show j + 1 + m = j + (m + 1) by omega]
    rw [show j + 1 + (m + 1) - 1 = j + (m + 1) by omega]
    omega
/-- element by element at most -/
def Le2 : List Nat → List Nat → Prop
  | [], _ => True
  | _ :: _, [] => False
  | x :: xs, y :: ys => x ≤ y ∧ Le2 xs ys
theorem Le2.refl : ∀ xs : List Nat, Le2 xs xs
  | [] => trivial
  | _ :: xs => ⟨Nat.le_refl _, Le2.refl xs⟩
theorem Le2.mx : ∀ {xs ys : List Nat}, Le2 xs ys → mx xs ≤ mx ys
  | [], _, _ => Nat.zero_le _
  | _ :: _, _ :: _, h => by
    have := Le2.mx h.2
    have := h.1
    rw [mx_cons, mx_cons]; omega
theorem Le2.brd : ∀ {k : Nat} {xs ys : List Nat}, Le2 xs ys → brd k xs ≤ brd k ys
  | _, [], _, _ => Nat.zero_le _
  | k, x :: xs, y :: ys, h => by
    have h1 := Le2.brd (k := k - 1) h.2
    have h2 := Le2.mx (xs := x :: xs) (ys := y :: ys) h
    have h3 := bin_mono (n := k + MB.mx (x :: xs) - 1) (m := k + MB.mx (y :: ys) - 1) k (by omega)
    simp only [MB.brd]
    omega
theorem Le2.dropLast : ∀ xs : List Nat, Le2 xs.dropLast xs
  | [] => trivial
  | [_] => trivial
  | x :: y :: xs => ⟨Nat.le_refl _, Le2.dropLast (y :: xs)⟩
theorem Le2.set : ∀ {xs : List Nat} {i v x : Nat}, xs[i]? = some x → v ≤ x → Le2 (xs.set i v) xs
  | [], i, v, x, h, _ => by simp at h
  | y :: ys, 0, v, x, h, hv => by
    simp at h; subst h
    exact ⟨hv, Le2.refl _⟩
  | y :: ys, i + 1, v, x, h, hv => ⟨Nat.le_refl _, Le2.set (by simpa using h) hv⟩
theorem brd_tail : ∀ {k x : Nat} {xs : List Nat}, brd k xs ≤ brd k (x :: xs)
  | k, x, [] => Nat.zero_le _
  | k, x, y :: ys => by
    have h1 := brd_tail (k := k - 1) (x := y) (xs := ys)
    have h3 := bin_mono (n := k + mx (y :: ys) - 1) (m := k + mx (x :: y :: ys) - 1) k (by simp only [mx]; omega)
    show bin (k + mx (y :: ys) - 1) k + brd (k - 1) ys ≤ bin (k + mx (x :: y :: ys) - 1) k + brd (k - 1) (y :: ys)
    omega
end MB

set_option maxHeartbeats 4000000
namespace MB
/-- the state after a flush that merges m runs -/
def sa (st : List Nat) (m : Nat) : List Nat := st.take (st.length - m) ++ [1 + mx (st.drop (st.length - m))]
theorem mx_append : ∀ xs ys : List Nat, mx (xs ++ ys) = max (mx xs) (mx ys)
  | [], ys => by simp [mx]
  | x :: xs, ys => by rw [List.cons_append, mx_cons, mx_cons, mx_append xs ys]; omega
theorem sa_all (st : List Nat) : sa st st.length = [1 + mx st] := by simp [sa]
theorem sa_cons {x : Nat} {xs : List Nat} {m : Nat} (h : m ≤ xs.length) : sa (x :: xs) m = x :: sa xs m := by
  unfold sa
  rw [List.length_cons, show xs.length + 1 - m = (xs.length - m) + 1 by omega]
  simp
theorem sa_len {st : List Nat} {m : Nat} (h : m ≤ st.length) : (sa st m).length = st.length - m + 1 := by
  unfold sa
  rw [List.length_append, List.length_take]
  simp
theorem sa_mx {st : List Nat} {m : Nat} : mx st ≤ mx (sa st m) := by
  unfold sa
  rw [mx_append]
  have h := mx_append (st.take (st.length - m)) (st.drop (st.length - m))
  rw [List.take_append_drop] at h
  simp only [mx]
  omega
/-- elements from 1 on, as many as there is room for -/
def Pos (k : Nat) (st : List Nat) : Prop := st.length ≤ k ∧ ∀ x, x ∈ st → 1 ≤ x
theorem Sta.pos {k c : Nat} {st : List Nat} (h : Sta k c st) : Pos k st := ⟨h.1, fun x hx => (h.2 x hx).1⟩
theorem Pos.sta {k : Nat} {st : List Nat} (h : Pos k st) : Sta k (mx st) st := ⟨h.1, fun x hx => ⟨h.2 x hx, mx_mem hx⟩⟩
theorem Pos.tail {k x : Nat} {xs : List Nat} (h : Pos k (x :: xs)) : Pos (k - 1) xs ∧ 1 ≤ k ∧ 1 ≤ x :=
  ⟨⟨by have := h.1; rw [List.length_cons] at this; omega, fun y hy => h.2 y (List.mem_cons_of_mem _ hy)⟩, by have := h.1; rw [List.length_cons] at this; omega, h.2 x (List.mem_cons_self ..)⟩
theorem brd_one (k v : Nat) : brd k [1 + v] = bin (k + v) k := by
  simp only [brd, mx]
  rw [show k + max (1 + v) 0 - 1 = k + v by omega]; rfl
/-- every flush costs at least one -/
theorem brd_sa : ∀ {k : Nat} {st : List Nat} {m : Nat}, Pos k st → m ≤ st.length → brd k st + 1 ≤ brd k (sa st m)
  | k, [], m, h, hm => by
    have : m = 0 := by simpa using hm
    subst this
    show brd k [] + 1 ≤ brd k [1 + 0]
    rw [brd_one, show k + 0 = k by omega, bin_self]
    simp [brd]
  | k, x :: xs, m, h, hm => by
    by_cases e : m = xs.length + 1
    · subst e
      rw [show xs.length + 1 = (x :: xs).length from rfl, sa_all, brd_one]
      exact brd_le h.sta
    · have hm' : m ≤ xs.length := by rw [List.length_cons] at hm; omega
      obtain ⟨h1, hk, hx⟩ := h.tail
      have ih := brd_sa h1 hm'
      rw [sa_cons hm']
      have hm2 := sa_mx (st := xs) (m := m)
      have hb := bin_mono (n := k + mx (x :: xs) - 1) (m := k + mx (x :: sa xs m) - 1) k (by rw [mx_cons, mx_cons]; omega)
      simp only [brd]
      omega
/-- what stands before the merged runs is greater than they are; these are exhausted -/
def Tight (k : Nat) (st : List Nat) (j : Nat) : Prop := (j = 0 ∨ ∃ y, st[j - 1]? = some y ∧ mx (st.drop j) < y) ∧ brd (k - j) (st.drop j) + 1 = bin (k - j + mx (st.drop j)) (k - j)
theorem brd_sa_eq : ∀ {k : Nat} {st : List Nat} {m : Nat}, Pos k st → m ≤ st.length → (brd k (sa st m) = brd k st + 1 ↔ Tight k st (st.length - m))
  | k, [], m, h, hm => by
    have : m = 0 := by simpa using hm
    subst this
    have e1 : brd k (sa [] 0) = 1 := by
      show brd k [1 + 0] = 1
      rw [brd_one, show k + 0 = k by omega, bin_self]
    rw [e1]
    refine ⟨fun _ => ⟨.inl rfl, ?_⟩, fun _ => by simp [brd]⟩
    simp only [List.drop_nil, mx, brd, List.length_nil]
    rw [show k - (0 - 0) + 0 = k - (0 - 0) by omega, bin_self]
  | k, x :: xs, m, h, hm => by
    by_cases e : m = xs.length + 1
    · subst e
      rw [show xs.length + 1 = (x :: xs).length from rfl, sa_all, brd_one, Nat.sub_self]
      constructor
      · intro e
        refine ⟨.inl rfl, ?_⟩
        simp only [Nat.sub_zero, List.drop_zero]
        omega
      · rintro ⟨_, e⟩
        simp only [Nat.sub_zero, List.drop_zero] at e
        omega
    · have hm' : m ≤ xs.length := by rw [List.length_cons] at hm; omega
      obtain ⟨h1, hk, hx⟩ := h.tail
      have ih := brd_sa_eq h1 hm'
      have ih1 := brd_sa h1 hm'
      rw [sa_cons hm']
      have hm2 := sa_mx (st := xs) (m := m)
      have hb := bin_mono (n := k + mx (x :: xs) - 1) (m := k + mx (x :: sa xs m) - 1) k (by rw [mx_cons, mx_cons]; omega)
      have hJ : (x :: xs).length - m = (xs.length - m) + 1 := by rw [List.length_cons]; omega
      rw [hJ]
      have hd : (x :: xs).drop (xs.length - m + 1) = xs.drop (xs.length - m) := rfl
      have hkk : k - (xs.length - m + 1) = k - 1 - (xs.length - m) := by omega
      have e1 : brd k (x :: sa xs m) = bin (k + mx (x :: sa xs m) - 1) k + brd (k - 1) (sa xs m) := rfl
      have e2 : brd k (x :: xs) = bin (k + mx (x :: xs) - 1) k + brd (k - 1) xs := rfl
      have step : brd k (x :: sa xs m) = brd k (x :: xs) + 1 ↔ (mx (x :: sa xs m) = mx (x :: xs) ∧ brd (k - 1) (sa xs m) = brd (k - 1) xs + 1) := by
        constructor
        · intro e
          have hq : bin (k + mx (x :: sa xs m) - 1) k = bin (k + mx (x :: xs) - 1) k := by omega
          refine ⟨?_, by omega⟩
          by_cases c : mx (x :: sa xs m) = mx (x :: xs)
          · exact c
          · have h0 : 1 ≤ mx (x :: xs) := by rw [mx_cons]; omega
            have h00 : mx (x :: xs) < mx (x :: sa xs m) := by rw [mx_cons, mx_cons] at c ⊢; omega
            have := bin_strict (n := k + mx (x :: xs) - 1) (m := k + mx (x :: sa xs m) - 1) (k := k) hk (by omega) (by omega)
            omega
        · rintro ⟨c1, c2⟩
          rw [e1, e2, c1, c2]; omega
      rw [step, ih]
      unfold Tight
      rw [hd, hkk]
      have hdec : mx xs = max (mx (xs.take (xs.length - m))) (mx (xs.drop (xs.length - m))) := by
        rw [← mx_append, List.take_append_drop]
      have hsa : mx (sa xs m) = max (mx (xs.take (xs.length - m))) (1 + mx (xs.drop (xs.length - m))) := by
        unfold sa; rw [mx_append]; simp [mx]
      constructor
      · rintro ⟨c1, c2, c3⟩
        refine ⟨.inr ?_, c3⟩
        rcases c2 with c2 | ⟨y, y1, y2⟩
        · rw [c2] at hsa hdec ⊢
          simp only [List.take_zero, mx] at hsa hdec
          refine ⟨x, rfl, ?_⟩
          rw [mx_cons, mx_cons] at c1
          omega
        · by_cases z : xs.length - m = 0
          · rw [z] at hsa hdec ⊢
            simp only [List.take_zero, mx] at hsa hdec
            refine ⟨x, rfl, ?_⟩
            rw [mx_cons, mx_cons] at c1
            omega
          · refine ⟨y, ?_, y2⟩
            rw [show xs.length - m + 1 - 1 = (xs.length - m - 1) + 1 by omega, List.getElem?_cons_succ]
            exact y1
      · rintro ⟨c2, c3⟩
        rcases c2 with c2 | ⟨y, y1, y2⟩
        · omega
        · by_cases z : xs.length - m = 0
          · rw [z] at y1 y2 hsa hdec c3 ⊢
            simp only [List.take_zero, mx] at hsa hdec
            have : y = x := by simpa using y1.symm
            subst this
            refine ⟨by rw [mx_cons, mx_cons]; omega, .inl rfl, c3⟩
          · rw [show xs.length - m + 1 - 1 = (xs.length - m - 1) + 1 by omega, List.getElem?_cons_succ] at y1
            have hy : y ≤ mx (xs.take (xs.length - m)) := by
              refine mx_mem (List.mem_of_getElem? (i := xs.length - m - 1) ?_)
              rw [List.getElem?_take, if_pos (by omega)]; exact y1
            refine ⟨by rw [mx_cons, mx_cons]; omega, .inr ⟨y, y1, y2⟩, c3⟩
/-- nothing is left: no room, and the newest run at the limit -/
theorem exh_iff : ∀ {k R : Nat} {xs : List Nat}, Sta k R xs → (brd k xs + 1 = bin (k + R) k ↔ (R = 0 ∨ (xs.length = k ∧ ∀ y, xs.getLast? = some y → y = R)))
  | k, R, [], h => by
    simp only [brd, List.length_nil, List.getLast?_nil]
    constructor
    · intro e
      by_cases hR : R = 0
      · exact .inl hR
      · refine .inr ⟨?_, by simp⟩
        by_cases hk : k = 0
        · exact hk.symm
        · have := bin_big (k := k) (c := R) (by omega); omega
    · rintro (rfl | ⟨rfl, _⟩)
      · show 0 + 1 = bin k k
        rw [bin_self]
      · rw [bin_zero]
  | k, R, x :: xs, h => by
    have hk : 1 ≤ k := by have := h.1; rw [List.length_cons] at this; omega
    have hM := h.mx_pos
    have hMR := h.mx_le
    have ht := h.tail
    have hp := pascal hk hM
    have hle := brd_le ht
    have e2 : brd k (x :: xs) = bin (k + mx (x :: xs) - 1) k + brd (k - 1) xs := rfl
    have hR : R ≠ 0 := by omega
    have key : brd k (x :: xs) + 1 = bin (k + R) k ↔ (mx (x :: xs) = R ∧ brd (k - 1) xs + 1 = bin (k - 1 + R) (k - 1)) := by
      constructor
      · intro e
        have hmm : mx (x :: xs) = R := by
          by_cases c : mx (x :: xs) = R
          · exact c
          · have := bin_strict (n := k + mx (x :: xs)) (m := k + R) (k := k) hk (by omega) (by omega)
            omega
        rw [hmm] at hp e2
        exact ⟨hmm, by omega⟩
      · rintro ⟨c1, c2⟩
        rw [c1] at hp e2
        omega
    rw [key]
    constructor
    · rintro ⟨c1, c2⟩
      rw [c1] at ht
      rcases (exh_iff ht).mp c2 with c | ⟨c3, c4⟩
      · exact absurd c hR
      · refine .inr ⟨by rw [List.length_cons]; omega, fun y hy => ?_⟩
        cases xs with
        | nil =>
          have : y = x := by simpa using hy.symm
          subst this
          simpa [mx] using c1
        | cons z zs =>
          rw [List.getLast?_cons_cons] at hy
          exact c4 y hy
    · rintro (c | ⟨c3, c4⟩)
      · exact absurd c hR
      · have hlast : ∃ y, (x :: xs).getLast? = some y := ⟨(x :: xs).getLast (by simp), List.getLast?_eq_some_getLast (by simp)⟩
        obtain ⟨y, hy⟩ := hlast
        have hyR := c4 y hy
        subst hyR
        have hmm : mx (x :: xs) = y := by
          have := mx_mem (List.mem_of_getLast? hy)
          omega
        refine ⟨hmm, ?_⟩
        rw [hmm] at ht
        refine (exh_iff ht).mpr (.inr ⟨by rw [List.length_cons] at c3; omega, fun z hz => ?_⟩)
        cases xs with
        | nil => simp at hz
        | cons u us =>
          rw [List.getLast?_cons_cons] at hy
          rw [hz] at hy
          exact Option.some.inj hy
/-- the bound of what is merged: the next older run, or the limit of writes -/
def bnd (c : Nat) (st : List Nat) (j : Nat) : Nat := (c :: st).getD j 0
def tst (c : Nat) (st : List Nat) (m : Nat) : Prop := mx (st.drop (st.length - m)) < bnd c st (st.length - m)
def few (k : Nat) (st : List Nat) : Nat := if st.length < k then 0 else 1
/-- what best_merge returns -/
def Bm (k c : Nat) (st : List Nat) (m : Nat) : Prop := few k st ≤ m ∧ m ≤ st.length ∧ tst c st m ∧ ∀ m', few k st ≤ m' → m' < m → ¬ tst c st m'
def BmN (k c : Nat) (st : List Nat) : Prop := ∀ m, few k st ≤ m → m ≤ st.length → ¬ tst c st m
theorem bnd_zero {c : Nat} {st : List Nat} : bnd c st 0 = c := rfl
theorem bnd_succ {c j : Nat} {st : List Nat} {y : Nat} (h : st[j]? = some y) : bnd c st (j + 1) = y := by
  simp [bnd, List.getD_eq_getElem?_getD, h]
/-- while no test holds, the greatest of the merged runs is the newest one -/
theorem chain {c : Nat} {st : List Nat} {m : Nat} (hm : m ≤ st.length) (hno : ∀ m', 1 ≤ m' → m' < m → ¬ tst c st m') (h1 : 1 ≤ m) : ∀ y, st.getLast? = some y → mx (st.drop (st.length - m)) = y := by
  induction m with
  | zero => omega
  | succ m ih =>
    intro y hy
    by_cases hm0 : m = 0
    · subst hm0
      have hne : st ≠ [] := by intro e; subst e; simp at hy
      have hpos := List.length_pos_iff.mpr hne
      have e : st.drop (st.length - (0 + 1)) = [st.getLast hne] := by
        rw [List.drop_eq_getElem_cons (show st.length - (0 + 1) < st.length by omega), show st.length - (0 + 1) + 1 = st.length by omega, List.drop_length, List.getLast_eq_getElem]
      rw [e]
      rw [List.getLast?_eq_some_getLast hne] at hy
      have := Option.some.inj hy
      simp [mx, this]
    · have ih' := ih (by omega) (fun m' a b => hno m' a (by omega)) (by omega) y hy
      have hf := hno m (by omega) (by omega)
      have hj : st.length - m = (st.length - (m + 1)) + 1 := by omega
      have hlt : st.length - (m + 1) < st.length := by omega
      have ed : st.drop (st.length - (m + 1)) = st[st.length - (m + 1)] :: st.drop (st.length - m) := by
        rw [hj]; exact List.drop_eq_getElem_cons hlt
      unfold tst at hf
      rw [hj, bnd_succ (List.getElem?_eq_getElem hlt), ← hj] at hf
      rw [ed, mx_cons]
      omega
theorem last_mem {st : List Nat} {y : Nat} (h : st.getLast? = some y) : y ∈ st := List.mem_of_getLast? h
theorem sa_sta {k c : Nat} {st : List Nat} {m : Nat} (h : Sta k c st) (hm : m ≤ st.length) (h1 : st.length - m + 1 ≤ k) (h2 : 1 + mx (st.drop (st.length - m)) ≤ c) : Sta k c (sa st m) := by
  refine ⟨by rw [sa_len hm]; exact h1, fun x hx => ?_⟩
  unfold sa at hx
  rcases List.mem_append.mp hx with hx | hx
  · exact h.2 x (List.mem_of_mem_take hx)
  · have : x = 1 + mx (st.drop (st.length - m)) := by simpa using hx
    subst this
    omega
theorem tst_ok {k c : Nat} {st : List Nat} {m : Nat} (h : Sta k c st) (hm : m ≤ st.length) (ht : tst c st m) : 1 + mx (st.drop (st.length - m)) ≤ c ∧ (st.length - m = 0 ∨ ∃ y, st[st.length - m - 1]? = some y ∧ mx (st.drop (st.length - m)) < y) := by
  unfold tst at ht
  by_cases hj : st.length - m = 0
  · rw [hj, bnd_zero] at ht
    exact ⟨by rw [hj]; omega, .inl hj⟩
  · have hlt : st.length - m - 1 < st.length := by omega
    have e : st.length - m = (st.length - m - 1) + 1 := by omega
    have hb := bnd_succ (c := c) (List.getElem?_eq_getElem hlt)
    rw [← e] at hb
    rw [hb] at ht
    have := h.2 _ (List.getElem_mem hlt)
    exact ⟨by omega, .inr ⟨_, List.getElem?_eq_getElem hlt, ht⟩⟩
theorem Bm.good {k c : Nat} {st : List Nat} {m : Nat} (h : Sta k c st) (b : Bm k c st m) : Sta k c (sa st m) ∧ brd k (sa st m) = brd k st + 1 := by
  obtain ⟨b1, b2, b3, b4⟩ := b
  obtain ⟨t1, t2⟩ := tst_ok h b2 b3
  have hl := h.1
  by_cases hk : st.length < k
  · have hf : few k st = 0 := if_pos hk
    have hm0 : m = 0 := by
      by_cases c0 : m = 0
      · exact c0
      · exfalso
        refine b4 0 (by omega) (by omega) ?_
        unfold tst
        rw [Nat.sub_zero, List.drop_length]
        have hlt : st.length - 1 < st.length := by omega
        have e : st.length = (st.length - 1) + 1 := by omega
        have hb := bnd_succ (c := c) (List.getElem?_eq_getElem hlt)
        rw [← e] at hb
        rw [hb]
        exact (h.2 _ (List.getElem_mem hlt)).1
    subst hm0
    refine ⟨sa_sta h b2 (by omega) t1, (brd_sa_eq h.pos b2).mpr ⟨t2, ?_⟩⟩
    rw [Nat.sub_zero, List.drop_length]
    show 0 + 1 = bin (k - st.length) (k - st.length)
    rw [bin_self]
  · have hf : few k st = 1 := if_neg hk
    rw [hf] at b1 b4
    refine ⟨sa_sta h b2 (by omega) t1, (brd_sa_eq h.pos b2).mpr ⟨t2, ?_⟩⟩
    have hne : st ≠ [] := by intro e; subst e; simp at b2; omega
    have hy : st.getLast? = some (st.getLast hne) := List.getLast?_eq_some_getLast hne
    have hc := chain b2 b4 b1 _ hy
    have hS : Sta (k - (st.length - m)) (mx (st.drop (st.length - m))) (st.drop (st.length - m)) :=
      ⟨by rw [List.length_drop]; omega, fun x hx => ⟨(h.2 x (List.mem_of_mem_drop hx)).1, mx_mem hx⟩⟩
    refine (exh_iff hS).mpr (.inr ⟨by rw [List.length_drop]; omega, fun y hy2 => ?_⟩)
    rw [hc]
    rw [List.getLast?_drop, if_neg (by omega), hy] at hy2
    exact (Option.some.inj hy2).symm
theorem BmN.zero {k c : Nat} {st : List Nat} (h : Sta k c st) (b : BmN k c st) : brd k st + 1 = bin (k + c) k := by
  have hl := h.1
  refine (exh_iff h).mpr ?_
  by_cases hk : st.length < k
  · have hf : few k st = 0 := if_pos hk
    have h0 := b 0 (by omega) (by omega)
    unfold tst at h0
    rw [Nat.sub_zero, List.drop_length] at h0
    by_cases hn : st.length = 0
    · rw [hn, bnd_zero] at h0
      simp only [mx] at h0
      exact .inl (by omega)
    · exfalso
      have hlt : st.length - 1 < st.length := by omega
      have e : st.length = (st.length - 1) + 1 := by omega
      have hb := bnd_succ (c := c) (List.getElem?_eq_getElem hlt)
      rw [← e] at hb
      rw [hb] at h0
      have := (h.2 _ (List.getElem_mem hlt)).1
      simp only [mx] at h0
      omega
  · have hf : few k st = 1 := if_neg hk
    refine .inr ⟨by omega, fun y hy => ?_⟩
    have hne : st ≠ [] := by intro e; subst e; simp at hy
    have h1 : 1 ≤ st.length := by have := List.length_pos_iff.mpr hne; omega
    have hc := chain (c := c) (Nat.le_refl _) (fun m' a b' => b m' (by omega) (by omega)) h1 y hy
    have hlast := b st.length (by omega) (Nat.le_refl _)
    unfold tst at hlast
    rw [Nat.sub_self, bnd_zero] at hlast
    rw [Nat.sub_self] at hc
    have := (h.2 y (last_mem hy)).2
    omega
/-- only one merge costs just one -/
theorem good_uniq {k c : Nat} {st : List Nat} {m n : Nat} (h : Sta k c st) (hm : m ≤ st.length) (hn : n ≤ st.length) (s1 : Sta k c (sa st m)) (s2 : Sta k c (sa st n)) (e1 : brd k (sa st m) = brd k st + 1) (e2 : brd k (sa st n) = brd k st + 1) : m = n := by
  have hl := h.1
  have look : ∀ m, m ≤ st.length → Sta k c (sa st m) → brd k (sa st m) = brd k st + 1 → (m = 0 ∧ st.length < k) ∨ (1 ≤ m ∧ st.length = k ∧ (∀ y, st.getLast? = some y → y = mx (st.drop (st.length - m))) ∧ (st.length - m = 0 ∨ ∃ y, st[st.length - m - 1]? = some y ∧ mx (st.drop (st.length - m)) < y)) := fun m hm s e => by
    obtain ⟨t1, t2⟩ := (brd_sa_eq h.pos hm).mp e
    have hs := s.1
    rw [sa_len hm] at hs
    by_cases h0 : m = 0
    · exact .inl ⟨h0, by omega⟩
    · refine .inr ⟨by omega, ?_⟩
      have hS : Sta (k - (st.length - m)) (mx (st.drop (st.length - m))) (st.drop (st.length - m)) :=
        ⟨by rw [List.length_drop]; omega, fun x hx => ⟨(h.2 x (List.mem_of_mem_drop hx)).1, mx_mem hx⟩⟩
      rcases (exh_iff hS).mp t2 with c | ⟨c1, c2⟩
      · exfalso
        have hlt : st.length - m < st.length := by omega
        have hmem : st[st.length - m] ∈ st.drop (st.length - m) := by
          rw [List.drop_eq_getElem_cons hlt]; exact List.mem_cons_self ..
        have := mx_mem hmem
        have := (h.2 _ (List.getElem_mem hlt)).1
        omega
      · rw [List.length_drop] at c1
        refine ⟨by omega, fun y hy => c2 y ?_, t1⟩
        rw [List.getLast?_drop, if_neg (by omega)]; exact hy
  have order : ∀ m n, m ≤ st.length → n ≤ st.length → m < n → Sta k c (sa st m) → Sta k c (sa st n) → brd k (sa st m) = brd k st + 1 → brd k (sa st n) = brd k st + 1 → False := fun m n hm hn hlt s1 s2 e1 e2 => by
    rcases look m hm s1 e1 with ⟨a1, a2⟩ | ⟨a1, a2, a3, a4⟩
    · rcases look n hn s2 e2 with ⟨b1, b2⟩ | ⟨b1, b2, b3, b4⟩ <;> omega
    · rcases look n hn s2 e2 with ⟨b1, b2⟩ | ⟨b1, b2, b3, b4⟩
      · omega
      · have hne : st ≠ [] := by intro e; subst e; simp at hn; omega
        have hy : st.getLast? = some (st.getLast hne) := List.getLast?_eq_some_getLast hne
        have q1 := a3 _ hy
        have q2 := b3 _ hy
        rcases a4 with a4 | ⟨y, y1, y2⟩
        · omega
        · have hmem : y ∈ st.drop (st.length - n) := by
            refine List.mem_of_getElem? (i := (st.length - m - 1) - (st.length - n)) ?_
            rw [List.getElem?_drop, show st.length - n + (st.length - m - 1 - (st.length - n)) = st.length - m - 1 by omega]
            exact y1
          have := mx_mem hmem
          omega
  rcases Nat.lt_trichotomy m n with c | c | c
  · exact (order m n hm hn c s1 s2 e1 e2).elim
  · exact c
  · exact (order n m hn hm c s2 s1 e2 e1).elim
end MB

set_option maxHeartbeats 4000000
namespace MB
/-- no newer run is above an older one -/
def Desc (st : List Nat) : Prop := st.Pairwise fun x y => y ≤ x
theorem Desc.mx {x : Nat} {xs : List Nat} (h : Desc (x :: xs)) : mx (x :: xs) = x := by
  have h1 := (List.pairwise_cons.mp h).1
  have := MB.mx_le (c := x) h1
  rw [mx_cons]; omega
theorem Desc.tail {x : Nat} {xs : List Nat} (h : Desc (x :: xs)) : Desc xs := (List.pairwise_cons.mp h).2
/-- the lengths of the runs -/
def lens : Nat → List Nat → List Nat
  | _, [] => []
  | k, x :: xs => bin (k + x - 1) k :: lens (k - 1) xs
theorem lens_len : ∀ (k : Nat) (st : List Nat), (lens k st).length = st.length
  | _, [] => rfl
  | k, x :: xs => by simp [lens, lens_len (k - 1) xs]
theorem lw_desc {k x : Nat} {xs : List Nat} (h : Pos k (x :: xs)) (d : Desc (x :: xs)) : lw k (brd k (x :: xs)) = x := by
  obtain ⟨h1, hk, hx⟩ := h.tail
  have hb := brd_le h.sta
  have e : brd k (x :: xs) = bin (k + mx (x :: xs) - 1) k + brd (k - 1) xs := rfl
  rw [d.mx] at hb e
  refine (lw_ok _ hk).uniq (Lw.mk' (by omega) (.inr ?_))
  rw [show k + (x - 1) = k + x - 1 by omega]
  omega
theorem rl_desc : ∀ {k : Nat} {st : List Nat}, Pos k st → Desc st → rl k (brd k st) = lens k st
  | k, [], _, _ => by simp [brd, lens, rl_zero]
  | k, x :: xs, h, d => by
    have hl := lw_desc h d
    obtain ⟨h1, hk, hx⟩ := h.tail
    have ih := rl_desc h1 d.tail
    have e : brd k (x :: xs) = bin (k + x - 1) k + brd (k - 1) xs := by
      show bin (k + mx (x :: xs) - 1) k + brd (k - 1) xs = _
      rw [d.mx]
    obtain ⟨j, rfl⟩ : ∃ j, k = j + 1 := ⟨k - 1, by omega⟩
    have hp := bin_pos (n := j + 1 + x - 1) (k := j + 1) (by omega)
    have hne : brd (j + 1) (x :: xs) ≠ 0 := by omega
    rw [rl_succ hne, hl]
    have e2 : j + x = j + 1 + x - 1 := by omega
    rw [e2, e]
    show _ :: _ = bin (j + 1 + x - 1) (j + 1) :: lens (j + 1 - 1) xs
    rw [show bin (j + 1 + x - 1) (j + 1) + brd (j + 1 - 1) xs - bin (j + 1 + x - 1) (j + 1) = brd (j + 1 - 1) xs by omega, show j + 1 - 1 = j by omega]
    rw [show j + 1 - 1 = j by omega] at ih
    rw [ih]
theorem rl_desc_len {k : Nat} {st : List Nat} (h : Pos k st) (d : Desc st) : (rl k (brd k st)).length = st.length := by rw [rl_desc h d, lens_len]
theorem sa_desc {st : List Nat} {m : Nat} (d : Desc st) (hm : m ≤ st.length) (t : st.length - m = 0 ∨ ∃ y, st[st.length - m - 1]? = some y ∧ mx (st.drop (st.length - m)) < y) : Desc (sa st m) := by
  unfold sa Desc
  refine List.pairwise_append.mpr ⟨d.sublist (List.take_sublist _ _), List.pairwise_singleton _ _, fun x hx v hv => ?_⟩
  have hv' : v = 1 + mx (st.drop (st.length - m)) := by simpa using hv
  subst hv'
  rcases t with t | ⟨y, y1, y2⟩
  · rw [t] at hx; simp at hx
  · obtain ⟨i, hi⟩ := List.getElem?_of_mem hx
    rw [List.getElem?_take] at hi
    by_cases c : i < st.length - m
    · rw [if_pos c] at hi
      have hyx : y ≤ x := by
        by_cases e : i = st.length - m - 1
        · subst e; rw [y1] at hi; have := Option.some.inj hi; omega
        · obtain ⟨q1, r1⟩ := List.getElem?_eq_some_iff.mp hi
          obtain ⟨q2, r2⟩ := List.getElem?_eq_some_iff.mp y1
          have := List.pairwise_iff_getElem.mp d i (st.length - m - 1) q1 q2 (by omega)
          omega
      omega
    · rw [if_neg c] at hi; cases hi
theorem Bm.tight {k c : Nat} {st : List Nat} {m : Nat} (h : Sta k c st) (b : Bm k c st m) : st.length - m = 0 ∨ ∃ y, st[st.length - m - 1]? = some y ∧ mx (st.drop (st.length - m)) < y := (tst_ok h b.2.1 b.2.2.1).2
/-- the policy's merges and states -/
def pm (k n : Nat) : Nat := (rl k n).length + 1 - (rl k (n + 1)).length
def pst (k : Nat) : Nat → List Nat
  | 0 => []
  | n + 1 => sa (pst k n) (pm k n)
theorem bm_ex {k c : Nat} {st : List Nat} (h : Sta k c st) (hlt : brd k st + 1 < bin (k + c) k) : ∃ m, Bm k c st m := by
  by_cases e : ∃ m, few k st ≤ m ∧ m ≤ st.length ∧ tst c st m
  · obtain ⟨m, hm⟩ := e
    induction m using Nat.strongRecOn with
    | ind m ih =>
      by_cases c' : ∃ m', m' < m ∧ few k st ≤ m' ∧ m' ≤ st.length ∧ tst c st m'
      · obtain ⟨m', h1, h2⟩ := c'
        exact ih m' h1 h2
      · exact ⟨m, hm.1, hm.2.1, hm.2.2, fun m' a b t => c' ⟨m', b, a, by have := hm.2.1; omega, t⟩⟩
  · exfalso
    have := BmN.zero h fun m a b t => e ⟨m, a, b, t⟩
    omega
/-- the best merge from a descending state is the policy's -/
theorem bm_pm {k c : Nat} {st : List Nat} {m : Nat} (h : Sta k c st) (d : Desc st) (b : Bm k c st m) : m = pm k (brd k st) ∧ Sta k c (sa st m) ∧ Desc (sa st m) ∧ brd k (sa st m) = brd k st + 1 := by
  obtain ⟨g1, g2⟩ := b.good h
  have d2 := sa_desc d b.2.1 (b.tight h)
  refine ⟨?_, g1, d2, g2⟩
  unfold pm
  rw [rl_desc_len h.pos d, ← g2, rl_desc_len g1.pos d2, sa_len b.2.1]
  have := b.2.1
  omega
theorem sta_of {k c : Nat} {st : List Nat} (h : Pos k st) (d : Desc st) (hc : brd k st < bin (k + c) k) : Sta k c st := by
  refine ⟨h.1, fun x hx => ⟨h.2 x hx, ?_⟩⟩
  cases st with
  | nil => cases hx
  | cons y ys =>
    have h1 := lw_desc h d
    have h2 := mx_mem hx
    rw [d.mx] at h2
    obtain ⟨_, hk, _⟩ := h.tail
    have h3 := (lw_ok (brd k (y :: ys)) hk).2
    rw [h1] at h3
    by_cases e : y ≤ c
    · omega
    · have := h3 c (by omega); omega
theorem pst_ok {k : Nat} (hk : 1 ≤ k) : ∀ n, Pos k (pst k n) ∧ Desc (pst k n) ∧ brd k (pst k n) = n
  | 0 => ⟨⟨by simp [pst], by simp [pst]⟩, List.Pairwise.nil, rfl⟩
  | n + 1 => by
    obtain ⟨h1, h2, h3⟩ := pst_ok hk n
    have hb := bin_big (k := k) (c := n + 2) hk
    have hs := sta_of (c := n + 2) h1 h2 (by omega)
    obtain ⟨m, b⟩ := bm_ex hs (by omega)
    obtain ⟨e, g1, g2, g3⟩ := bm_pm hs h2 b
    rw [h3] at e g3
    subst e
    exact ⟨g1.pos, g2, g3⟩
theorem pm_le {k : Nat} (hk : 1 ≤ k) (n : Nat) : pm k n ≤ (pst k n).length := by
  obtain ⟨h1, h2, h3⟩ := pst_ok hk n
  have hb := bin_big (k := k) (c := n + 2) hk
  have hs := sta_of (c := n + 2) h1 h2 (by omega)
  obtain ⟨m, b⟩ := bm_ex hs (by omega)
  obtain ⟨e, _⟩ := bm_pm hs h2 b
  rw [h3] at e
  subst e
  exact b.2.1
theorem pst_len {k : Nat} (hk : 1 ≤ k) (n : Nat) : (pst k n).length = (rl k n).length := by
  obtain ⟨h1, h2, h3⟩ := pst_ok hk n
  have := rl_desc_len h1 h2
  rw [h3] at this
  exact this.symm
theorem pm_int {k : Nat} (hk : 1 ≤ k) (n : Nat) : ((rl k n).length : Int) + 1 - ((rl k (n + 1)).length : Int) = (pm k n : Int) := by
  have h1 := pst_len hk n
  have h2 := pst_len hk (n + 1)
  have h3 := pm_le hk n
  have h4 : (pst k (n + 1)).length = (pst k n).length - pm k n + 1 := sa_len h3
  unfold pm at *
  omega
end MB

set_option maxHeartbeats 4000000
namespace MB
open PySem PySem.Spec PyProof.Rows L2
theorem alike_ints (ns : List Int) : PySem.W.AlikeAll (ns.map PyData.int) := by
  refine ⟨fun x hx y hy => ?_, fun x hx e => ?_⟩
  · obtain ⟨i, _, rfl⟩ := List.mem_map.mp hx
    obtain ⟨j, _, rfl⟩ := List.mem_map.mp hy
    simp [PySem.W.alike]
  · obtain ⟨i, _, rfl⟩ := List.mem_map.mp hx
    cases e
theorem depth_ints : ∀ ns : List Int, PyData.depthAll (ns.map PyData.int) = 0
  | [] => by simp [PyData.depthAll]
  | n :: ns => by simp [PyData.depthAll, PyData.depth, depth_ints ns]
/-! ### max of a tuple of ints; with default= -/
def rMaxT (K : PySem.W.Frag) : List V → Hp → VK → Prop := fun xs H Q => ∃ (a : Addr) (n : Int) (ns : List Int), xs = [V.ref a] ∧ SqT K H a ((n :: ns).map V.int) ∧ Q (.int (ns.foldl max n)) H
theorem cr_maxT {X : Cx} {K : PySem.W.Frag} (hK : X.K = K) (hc : X.calm = true) (hu : X.A.units + 64 < cLine) : CallR X (.builtin "max") (rMaxT K) := by
  subst hK
  intro pins s σ H vs us Q I r h
  obtain ⟨a, n, ns, rfl, hs, q⟩ := h
  obtain ⟨its, rv, hl, _⟩ := I.tuple hs
  rw [Vals.ref1 r]
  obtain ⟨as, rd⟩ := Dp.readsAll I ((n :: ns).map PyData.int) _ its (dp_ints (n :: ns)) rv
  refine PySem.W.max_tuple_data (x := .int n) (xs := ns.map PyData.int) (I.ok.hd hc) hl (by simpa using rd) (alike_ints (n :: ns)) ?_ fun i v h' tk bs _ hr hk => ?_
  · have := depth_ints (n :: ns)
    rw [List.map_cons] at this
    rw [this]; omega
  · rw [PySem.W.maxD_ints] at hr
    cases hr
    exact ⟨.int _, H, I.kept hk, ⟨_, rfl⟩, q⟩
def rMaxDef (K : PySem.W.Frag) : List V → List V → Hp → VK → Prop := fun xs zs H Q => ∃ (a : Addr) (z : Int) (ns : List Int), xs = [V.ref a] ∧ zs = [V.int z] ∧ SqT K H a (ns.map V.int) ∧ (ns = [] → Q (.int z) H) ∧ ∀ m r, ns = m :: r → Q (.int (r.foldl max m)) H
theorem cr_maxDef {X : Cx} {K : PySem.W.Frag} (hK : X.K = K) (hc : X.calm = true) (hu : X.A.units + 64 < cLine) : CallRK X (.builtin "max") [Str.ofString "default"] (rMaxDef K) := by
  subst hK
  intro pins s σ H vs zs us ws Q I r rz h
  obtain ⟨a, z, ns, rfl, rfl, hs, q0, q1⟩ := h
  obtain ⟨its, rv, hl, _⟩ := I.tuple hs
  rw [Vals.ref1 r]
  obtain ⟨u, rfl, tz, rfl⟩ := vals1 rz
  obtain ⟨as, rd⟩ := Dp.readsAll I (ns.map PyData.int) _ its (dp_ints ns) rv
  refine PySem.W.max_tuple_default (xs := ns.map PyData.int) (I.ok.hd hc) hl (by simpa using rd) (alike_ints ns) ?_ (fun e h' tk hk => ?_) fun y ys i v h' tk bs e _ hr hk => ?_
  · rw [depth_ints ns]; omega
  · exact ⟨.int z, H, I.kept hk, ⟨_, rfl⟩, q0 (List.map_eq_nil_iff.mp e)⟩
  · cases ns with
    | nil => cases e
    | cons m t =>
      rw [List.map_cons] at e
      cases e
      rw [PySem.W.maxD_ints] at hr
      cases hr
      exact ⟨.int _, H, I.kept hk, ⟨_, rfl⟩, q1 m t rfl⟩
/-! ### sorted of a tuple of ints -/
section
variable {prog : Program} {w : World} {A : Around} {E : Value → Shared → Prop} {s : Shared}
theorem gather_tuple {p : Addr} {xs : List Value} {R : List Value → Shared → Prop} (ht : s.heap.IsTuple p xs.toArray) (hz : xs.length ≤ sizeLine)
    (q : R xs { s with heap := (s.heap.push (seqObj "list" #[] 0)).update s.heap.objs.size (Obj.mapSeq (· ++ xs.toArray)) }) : wpAny (model prog w) A (collect (.ref p)) R E s := by
  obtain ⟨ob, hob, hcl, ep, hdt⟩ := id ht
  unfold collect
  refine wpAny_bind (wpAny_runValue (codeAny_builtin entry_proto_collect' (show wpAny _ _ (do again (.builtin "list.__iadd__" ⟨[← newList [], .ref p], []⟩)) _ _ s from ?_)))
  refine wpAny_bind (wpAny_newList (wpAny_pure ⟨Code.quiet_builtin _ (by decide +kernel), codeAny_builtin entry_list_iadd' (show wpAny _ _ (Builtin.List.listExtendWith (.ref s.heap.objs.size) (.ref p) (.ref s.heap.objs.size)) _ _ { s with heap := s.heap.push (seqObj "list" #[] 0) } from ?_)⟩))
  unfold Builtin.List.listExtendWith
  have hob' : (s.heap.push (seqObj "list" #[] 0)).get? p = some ob := Heap.get?_push_of_some _ hob
  refine wpAny_bind (wpAny_typeOf (T := "tuple") ⟨ob, hob', hcl⟩ ?_)
  have tt : (Value.type "tuple" == Value.type "tuple") = true := by rfl
  rw [if_pos (by rw [tt]; simp)]
  refine wpAny_bind (listItems_at hob' hdt (wpAny_bind (listItems_at (xs := #[]) (n := 0) (Heap.get?_push_size _ rfl) rfl ?_)))
  rw [if_neg (by simp)]
  refine wpAny_bind (listUpdate_at (xs := #[]) (n := 0) (Heap.get?_push_size _ rfl) rfl (wpAny_pure ?_) (Nat.zero_le _) (by show (#[] ++ xs.toArray).size ≤ sizeLine + 1; simp only [Array.size_append, List.size_toArray, List.length_nil]; omega))
  show wpAny (model prog w) A (load s.heap.objs.size >>= _) R E { s with heap := (s.heap.push (seqObj "list" #[] 0)).update s.heap.objs.size (Obj.mapSeq (· ++ xs.toArray)) }
  refine wpAny_bind (wpAny_load (get?_update_seq (Heap.get?_push_size _ rfl) _) (show wpAny _ _ (pure ((#[] : Array Value) ++ xs.toArray).toList) R E _ from ?_))
  have ex : ((#[] : Array Value) ++ xs.toArray).toList = xs := by simp
  rw [ex]
  exact wpAny_pure q
theorem sorted_tup {p : Addr} {xs : List Value} {ns : List Int} {Q : Value → Shared → Prop} (ht : s.heap.IsTuple p xs.toArray) (hz : xs.length ≤ sizeLine) (hi : IntsAre xs ns)
    (q : ∀ out : List Value, SrtO.Srtd SrtO.ltIv out → SrtO.Stb SrtO.ltIv out xs → Q (.ref (s.heap.objs.size + 1)) { s with heap := sortedAll s.heap xs out.toArray }) :
    wpAny (model prog w) A (call (.builtin "sorted") [.ref p]) Q E s := by
  refine Calls.call_function_entry kind_sorted plain_sorted entry_sorted (args_sorted1 _) ?_
  unfold Builtin.«sorted»
  refine wpAny_bind (m := checkCount "sorted" 1 1 _) (wpAny_pure (wpAny_bind (gather_tuple ht hz (wpAny_bind (wpAny_newList ?_ hz)))))
  have sz1 : ((s.heap.push (seqObj "list" #[] 0)).update s.heap.objs.size (Obj.mapSeq (· ++ xs.toArray))).objs.size = s.heap.objs.size + 1 := (Heap.size_update ..).trans (Heap.size_push ..)
  have hoL := Heap.get?_push_size ((s.heap.push (seqObj "list" #[] 0)).update s.heap.objs.size (Obj.mapSeq (· ++ xs.toArray))) (o := seqObj "list" xs.toArray 0) rfl
  rw [sz1] at hoL
  show wpAny _ _ _ _ _ { s with heap := ((s.heap.push (seqObj "list" #[] 0)).update s.heap.objs.size (Obj.mapSeq (· ++ xs.toArray))).push (seqObj "list" xs.toArray 0) }
  rw [sz1]
  exact wpAny_bind (wpAny_holding (wpAny_call_entry PyProof.Rows.slot_list_sort ⟨_, hoL, rfl⟩ PyProof.Rows.entry_list_sort (SrtO.list_sort_ord SrtO.swo_int hoL hz (fun h2 => SrtO.ints_sortable hi h2) fun out hs hb => ⟨_, rfl, wpAny_pure ⟨_, rfl, q out hs hb⟩⟩) (PyProof.Rows.args_list_sort _)))
end
def rSortT (K : PySem.W.Frag) : List V → Hp → VK → Prop := fun xs H Q => ∃ (a : Addr) (ns : List Int), xs = [V.ref a] ∧ SqT K H a (ns.map V.int) ∧ ∀ (ms : List Int) (p : Addr), ms.Perm ns → H p = none → Q (.ref p) (upd H p (.lst (ms.map V.int)))
theorem cr_sortTI {X : Cx} : CallR X (.builtin "sorted") (rSortT X.K) := by
  intro pins s σ H vs us Q I r h
  obtain ⟨a, ns, rfl, hs, q⟩ := h
  obtain ⟨its, rv, hl, hz⟩ := I.tuple hs
  rw [Vals.ref1 r]
  have hi := rv.ints
  refine sorted_tup hl (by rw [← rv.length]; exact hz) hi fun out h1 h2 => ?_
  obtain ⟨k1, k2, k3⟩ := SrtO.ints_out hi h1 h2
  obtain ⟨ep, he'⟩ := sortedAll_at s.heap its out.toArray
  have hlen : ((out.map SrtO.iv).map V.int).length ≤ sizeLine := by
    have := k2.length_eq
    simp only [List.length_map] at this hz ⊢
    omega
  exact ⟨.ref _, upd H (s.heap.objs.size + 1) (.lst ((out.map SrtO.iv).map V.int)), I.laid (t' := s.toks) (fun _ _ e => sortedAll_old e) (Nat.le_succ _) ⟨hlen, out, ep, vals_of_ints k1, he'⟩, rfl, q _ _ k2 (I.hok.fresh (Nat.le_succ _))⟩
end MB

set_option maxHeartbeats 4000000
namespace MB
open PySem PySem.Spec PyProof.Rows L2
/-! ### comprehensions with two clauses: the items by their data -/
/-- the list under way -/
def Acc (K : PySem.W.Frag) (H1 H : Hp) (D : Addr) (ds : List PyData) : Prop := Same H1 H ∧ ∃ acc, H D = some (.lst acc) ∧ DpAll K H acc ds
theorem lc2_in {K : PySem.W.Frag} {J : It} {n : Nat} {G : Hp → Prop} {Y : Nat → Hp → V → Hp → Prop} (w : Walk J n G Y) {g : TG} {tt : TT} {te : TE} {vs : List Nat} {σ : L2.St} {H1 H4 : Hp} {D : Addr} {Nx : Hp → Prop}
    (pre ds : List PyData) (hl : ds.length = n) (hp : ∀ d, d ∈ pre → Tf d) (ht : ∀ d, d ∈ ds → Tf d) (hn : pre.length + n ≤ 100000) (hD : H1 D = none) (h4 : Acc K H1 H4 D pre) (hG : ∀ H, Same H1 H → G H)
    (hs : ∀ i x H H', i < n → Same H1 H → Y i H x H' → ∀ d, ds[i]? = some d → ∀ R : V → Hp → Prop, (∀ y H5, Same H H5 → Dp K H5 y d → R y H5) →
      g x (wipe σ vs) H' fun σ2 H2 => wipe σ2 vs = wipe σ vs ∧ tt σ2 H2 fun b H3 => b = true ∧ te σ2 H3 R)
    (hN : ∀ H, Acc K H1 H D (pre ++ ds) → Nx H)
    (mg : ∀ x σ' H' (Q Q' : L2.St → Hp → Prop), (∀ a b, Q a b → Q' a b) → g x σ' H' Q → g x σ' H' Q') (mt : ∀ σ' H' (Q Q' : Bool → Hp → Prop), (∀ a b, Q a b → Q' a b) → tt σ' H' Q → tt σ' H' Q') :
    ∃ W : Nat → Nat → Hp → Prop, (∃ m, W 0 m H4) ∧ ∀ j k H, W j k H →
      (J.stop j H ∧ Nx H) ∨ (J.go j H ∧ ∃ Nx1 : Hp → Prop, (∀ H', Nx1 H' → ∃ k', k' < k ∧ W (j + 1) k' H') ∧ ∀ x H', J.yld j H x H' → g x (wipe σ vs) H' fun σ3 H5 => wipe σ3 vs = wipe σ vs ∧ tt σ3 H5 fun b H6 =>
        if b = true then te σ3 H6 fun y H7 => ∃ acc, H7 D = some (.lst acc) ∧ acc.length < sizeLine ∧ Nx1 (upd H7 D (.lst (acc ++ [y]))) else Nx1 H6) := by
  refine ⟨fun i m H => m = n - i ∧ i ≤ n ∧ Acc K H1 H D (pre ++ ds.take i), ⟨n, by simp, Nat.zero_le _, by simpa using h4⟩, ?_⟩
  rintro i m H ⟨rfl, hi, s1, acc, ha, hA⟩
  have q := hG H s1
  by_cases hlt : i < n
  · refine .inr ⟨w.goes i H hlt q, fun H' => Acc K H1 H' D (pre ++ ds.take (i + 1)), fun H' p' => ⟨n - (i + 1), by omega, rfl, hlt, p'⟩, fun x H' y => ?_⟩
    have hd' : ds[i]? = some ds[i] := List.getElem?_eq_getElem (by omega)
    have hlen := DpAll.len hA
    rw [List.length_append, List.length_take] at hlen
    refine mg _ _ _ _ _ ?_ (hs i x H H' hlt s1 (w.yields i H x H' hlt q y) ds[i] hd' (fun y H7 => ∃ acc, H7 D = some (.lst acc) ∧ acc.length < sizeLine ∧ Acc K H1 (upd H7 D (.lst (acc ++ [y]))) D (pre ++ ds.take (i + 1))) ?_)
    · rintro σ2 H2 ⟨e1, e2⟩
      refine ⟨e1, mt _ _ _ _ ?_ e2⟩
      rintro b H3 ⟨rfl, e3⟩
      exact iteT e3
    · intro y H5 s5 hy5
      refine ⟨acc, s5 _ _ ha, sz61 (by omega), Same.mut (s1.trans s5) hD, acc ++ [y], upd_same, ?_⟩
      have kp : Keep K H5 (upd H5 D (.lst (acc ++ [y]))) := But.keep But.upd (s5 _ _ ha)
      rw [List.take_add_one, hd', ← List.append_assoc]
      refine DpAll.keep kp (fun d h => ?_) (DpAll.append (DpAll.same s5 hA) (.cons hy5 .nil))
      rcases List.mem_append.mp h with h | h
      · rcases List.mem_append.mp h with h | h
        · exact hp d h
        · exact ht d (List.mem_of_mem_take h)
      · have e : d = ds[i] := by simpa using h
        rw [e]; exact ht _ (List.getElem_mem ..)
  · have e : i = n := by omega
    subst e
    rw [List.take_of_length_le (by omega)] at hA
    exact .inl ⟨w.stops H q, hN H ⟨s1, acc, ha, hA⟩⟩
theorem yesT {σ : L2.St} {H : Hp} {T N : Hp → Prop} (h : T H) : tYes σ H (fun b H3 => if b = true then T H3 else N H3) := by
  unfold tYes
  exact iteT h
/-- what the blocks before i give -/
def blks (f : Nat → List PyData) (i : Nat) : List PyData := (List.range i).flatMap f
theorem blks_succ (f : Nat → List PyData) (i : Nat) : blks f (i + 1) = blks f i ++ f i := by
  unfold blks
  rw [List.range_succ, List.flatMap_append]
  simp
theorem mem_blks {f : Nat → List PyData} {i : Nat} {d : PyData} (h : d ∈ blks f i) : ∃ j, j < i ∧ d ∈ f j := by
  unfold blks at h
  obtain ⟨j, hj, hd⟩ := List.mem_flatMap.mp h
  exact ⟨j, List.mem_range.mp hj, hd⟩
theorem lc2_out {K : PySem.W.Frag} {J : It} {n : Nat} {G : Hp → Prop} {Y : Nat → Hp → V → Hp → Prop} (w : Walk J n G Y) {g : TG} {tt : TT} {T : L2.St → Hp → (Hp → Prop) → Prop} {vs : List Nat} {σ : L2.St} {H1 : Hp} {D : Addr} {Qd : Hp → Prop}
    (f : Nat → List PyData) (hD : H1 D = none) (hG : ∀ H, Same H1 H → G H)
    (hs : ∀ i x H H', i < n → Acc K H1 H D (blks f i) → Y i H x H' → ∀ Nx : Hp → Prop, (∀ H, Acc K H1 H D (blks f i ++ f i) → Nx H) →
      g x (wipe σ vs) H' fun σ2 H2 => wipe σ2 vs = wipe σ vs ∧ tt σ2 H2 fun b H3 => if b = true then T σ2 H3 Nx else Nx H3)
    (hd : ∀ H acc, Same H1 H → H D = some (.lst acc) → DpAll K H acc (blks f n) → Qd H) :
    ∃ W : Nat → Nat → Hp → Prop, (∃ m, W 0 m (upd H1 D (.lst []))) ∧ ∀ i m H, W i m H →
      (J.stop i H ∧ Qd H) ∨ (J.go i H ∧ ∃ Nx : Hp → Prop, (∀ H', Nx H' → ∃ m', m' < m ∧ W (i + 1) m' H') ∧ ∀ x H', J.yld i H x H' → g x (wipe σ vs) H' fun σ2 H2 => wipe σ2 vs = wipe σ vs ∧ tt σ2 H2 fun b H3 =>
        if b = true then T σ2 H3 Nx else Nx H3) := by
  refine ⟨fun i m H => m = n - i ∧ i ≤ n ∧ Acc K H1 H D (blks f i), ⟨n, by simp, Nat.zero_le _, same_upd hD, [], upd_same, .nil⟩, ?_⟩
  rintro i m H ⟨rfl, hi, p⟩
  have q := hG H p.1
  by_cases hlt : i < n
  · exact .inr ⟨w.goes i H hlt q, fun H' => Acc K H1 H' D (blks f (i + 1)), fun H' p' => ⟨n - (i + 1), by omega, rfl, hlt, p'⟩, fun x H' y => hs i x H H' hlt p (w.yields i H x H' hlt q y) _ fun H2 a => by rw [blks_succ]; exact a⟩
  · have e : i = n := by omega
    subst e
    obtain ⟨s1, acc, ha, hA⟩ := p
    exact .inl ⟨w.stops H q, hd H acc s1 ha hA⟩
theorem lc_allW {K : PySem.W.Frag} {J : It} {n : Nat} {G : Hp → Prop} {Y : Nat → Hp → V → Hp → Prop} (w : Walk J n G Y) {g : TG} {tt : TT} {te : TE} {vs : List Nat} {σ : L2.St} {H1 : Hp} {D : Addr} {Qd : Hp → Prop}
    (ds : List PyData) (hl : ds.length = n) (ht : ∀ d, d ∈ ds → Tf d) (hn : n ≤ 90000) (hD : H1 D = none) (hG : ∀ H, Same H1 H → G H)
    (hs : ∀ i x H H', i < n → Same H1 H → Y i H x H' → ∀ d, ds[i]? = some d → ∀ R : V → Hp → Prop, (∀ y H4, Same H H4 → Dp K H4 y d → R y H4) →
      g x (wipe σ vs) H' fun σ2 H2 => wipe σ2 vs = wipe σ vs ∧ tt σ2 H2 fun b H3 => b = true ∧ te σ2 H3 R)
    (hd : ∀ H acc, Same H1 H → H D = some (.lst acc) → DpAll K H acc ds → Qd H)
    (mg : ∀ x σ' H' (Q Q' : L2.St → Hp → Prop), (∀ a b, Q a b → Q' a b) → g x σ' H' Q → g x σ' H' Q') (mt : ∀ σ' H' (Q Q' : Bool → Hp → Prop), (∀ a b, Q a b → Q' a b) → tt σ' H' Q → tt σ' H' Q') :
    ∃ W : Nat → Nat → Hp → Prop, (∃ m, W 0 m (upd H1 D (.lst []))) ∧ ∀ i m H, W i m H →
      (J.stop i H ∧ Qd H) ∨ (J.go i H ∧ ∃ Nx : Hp → Prop, (∀ H', Nx H' → ∃ m', m' < m ∧ W (i + 1) m' H') ∧ ∀ x H', J.yld i H x H' → g x (wipe σ vs) H' fun σ2 H2 => wipe σ2 vs = wipe σ vs ∧ tt σ2 H2 fun b H3 =>
        if b = true then te σ2 H3 fun y H4 => ∃ acc, H4 D = some (.lst acc) ∧ acc.length < sizeLine ∧ Nx (upd H4 D (.lst (acc ++ [y]))) else Nx H3) := by
  refine lc_it w (fun i H => Same H1 H ∧ ∃ acc, H D = some (.lst acc) ∧ DpAll K H acc (ds.take i)) ⟨same_upd hD, [], upd_same, .nil⟩ (fun i H _ h => hG H h.1) ?_ ?_
  · rintro i x H H' hi ⟨s1, acc, ha, hA⟩ hy
    have hd' : ds[i]? = some ds[i] := List.getElem?_eq_getElem (by omega)
    have hlen := DpAll.len hA
    rw [List.length_take] at hlen
    refine mg _ _ _ _ _ ?_ (hs i x H H' hi s1 hy ds[i] hd' (fun y H4 => ∃ acc, H4 D = some (.lst acc) ∧ acc.length < sizeLine ∧ (Same H1 (upd H4 D (.lst (acc ++ [y]))) ∧ ∃ acc', (upd H4 D (.lst (acc ++ [y]))) D = some (.lst acc') ∧ DpAll K (upd H4 D (.lst (acc ++ [y]))) acc' (ds.take (i + 1)))) ?_)
    · rintro σ2 H2 ⟨h1, h2⟩
      refine ⟨h1, mt _ _ _ _ ?_ h2⟩
      rintro b H3 ⟨rfl, h3⟩
      exact iteT h3
    · intro y H4 s4 hy4
      refine ⟨acc, s4 _ _ ha, sz61 (by omega), Same.mut (s1.trans s4) hD, acc ++ [y], upd_same, ?_⟩
      have kp : Keep K H4 (upd H4 D (.lst (acc ++ [y]))) := But.keep But.upd (s4 _ _ ha)
      rw [List.take_add_one, hd']
      refine DpAll.keep kp (fun d h => ?_) (DpAll.append (DpAll.same s4 hA) (.cons hy4 .nil))
      rcases List.mem_append.mp h with h | h
      · exact ht d (List.mem_of_mem_take h)
      · have e : d = ds[i] := by simpa using h
        rw [e]; exact ht _ (List.getElem_mem ..)
  · rintro H ⟨s1, acc, ha, hA⟩
    rw [List.take_of_length_le (by omega)] at hA
    exact hd H acc s1 ha hA

/-- enumerate in a second clause -/
theorem k_enumT {X : Cx} {K : PySem.W.Frag} (hK : X.K = K) {e : Expr} {ta : TA} {p pos tpos : PySem.Pos} {elts : List Expr} {kk : Nat} (hg : Gl X "enumerate") (hm : X.mg "enumerate" = none) (ha : PA X [e] ta) (hs : starEach [e] X.env = [(false, eval e X.env)] := by rfl) :
    PI X (.Tuple elts kk tpos) (.Call (.Name "enumerate" p) [e] [] pos) (iEnumT K ta) := by
  subst hK
  exact pi_enumT hg hm ha hs
end MB

set_option maxHeartbeats 4000000
namespace MB
open PySem PySem.Spec PyProof.Rows L2
def topS (i : Nat) : Stmt := PySem.Challenge.pw_mergebudget_k15_stages_one_to_three_by_n.main.body.getD i (.Pass ⟨0, 0, 0, 0⟩)
abbrev s_is_int : Stmt := topS 10
abbrev N_is_int : List Str := ["value"]
theorem sc_is_int : FnScope N_is_int ["value"] (defScope s_is_int) := ⟨rfl, rfl, rfl, by decide +kernel, rfl, by decide +kernel, by decide +kernel⟩
abbrev s_is_count : Stmt := topS 11
abbrev N_is_count : List Str := ["value"]
theorem sc_is_count : FnScope N_is_count ["value"] (defScope s_is_count) := ⟨rfl, rfl, rfl, by decide +kernel, rfl, by decide +kernel, by decide +kernel⟩
abbrev s_is_count_up_to : Stmt := topS 12
abbrev N_is_count_up_to : List Str := ["value", "most"]
theorem sc_is_count_up_to : FnScope N_is_count_up_to ["value", "most"] (defScope s_is_count_up_to) := ⟨rfl, rfl, rfl, by decide +kernel, rfl, by decide +kernel, by decide +kernel⟩
abbrev s_check_budgets : Stmt := topS 13
abbrev N_check_budgets : List Str := ["k", "c", "most", "budget"]
theorem sc_check_budgets : FnScope N_check_budgets ["k", "c", "most"] (defScope s_check_budgets) := ⟨rfl, rfl, rfl, by decide +kernel, rfl, by decide +kernel, by decide +kernel⟩
abbrev s_is_schedule : Stmt := topS 17
abbrev N_is_schedule : List Str := ["value", "runs", "merge"]
theorem sc_is_schedule : FnScope N_is_schedule ["value"] (defScope s_is_schedule) := ⟨rfl, rfl, rfl, by decide +kernel, rfl, by decide +kernel, by decide +kernel⟩
abbrev s_stacks : Stmt := topS 18
abbrev N_stacks : List Str := ["schedule", "stack", "result", "flush", "merge"]
theorem sc_stacks : FnScope N_stacks ["schedule"] (defScope s_stacks) := ⟨rfl, rfl, rfl, by decide +kernel, rfl, by decide +kernel, by decide +kernel⟩
abbrev s_stack_after : Stmt := topS 19
abbrev N_stack_after : List Str := ["stack", "flush", "merge", "kept", "start"]
theorem sc_stack_after : FnScope N_stack_after ["stack", "flush", "merge"] (defScope s_stack_after) := ⟨rfl, rfl, rfl, by decide +kernel, rfl, by decide +kernel, by decide +kernel⟩
abbrev s_writes : Stmt := topS 20
abbrev N_writes : List Str := ["schedule", "history", "counts", "stack", "start", "stop", "flush"]
theorem sc_writes : FnScope N_writes ["schedule"] (defScope s_writes) := ⟨rfl, rfl, rfl, by decide +kernel, rfl, by decide +kernel, by decide +kernel⟩
abbrev s_run_counts : Stmt := topS 21
abbrev N_run_counts : List Str := ["schedule", "stack"]
theorem sc_run_counts : FnScope N_run_counts ["schedule"] (defScope s_run_counts) := ⟨rfl, rfl, rfl, by decide +kernel, rfl, by decide +kernel, by decide +kernel⟩
abbrev s_all_schedules : Stmt := topS 22
abbrev N_all_schedules : List Str := ["n", "found", "shorter", "merge"]
theorem sc_all_schedules : FnScope N_all_schedules ["n"] (defScope s_all_schedules) := ⟨rfl, rfl, rfl, by decide +kernel, rfl, by decide +kernel, by decide +kernel⟩
abbrev s_runs_at_end : Stmt := topS 23
abbrev N_runs_at_end : List Str := ["schedule"]
theorem sc_runs_at_end : FnScope N_runs_at_end ["schedule"] (defScope s_runs_at_end) := ⟨rfl, rfl, rfl, by decide +kernel, rfl, by decide +kernel, by decide +kernel⟩
abbrev s_is_tree : Stmt := topS 26
abbrev N_is_tree : List Str := ["value", "parent"]
theorem sc_is_tree : FnScope N_is_tree ["value"] (defScope s_is_tree) := ⟨rfl, rfl, rfl, by decide +kernel, rfl, by decide +kernel, by decide +kernel⟩
abbrev s_is_numbered_in_order : Stmt := topS 27
abbrev N_is_numbered_in_order : List Str := ["parents", "subtrees", "start", "stop", "parent", "roots", "root", "node"]
theorem sc_is_numbered_in_order : FnScope N_is_numbered_in_order ["parents"] (defScope s_is_numbered_in_order) := ⟨rfl, rfl, rfl, by decide +kernel, rfl, by decide +kernel, by decide +kernel⟩
abbrev s_tree_of : Stmt := topS 28
abbrev N_tree_of : List Str := ["schedule", "counts", "parents", "intervals", "start", "stop", "runs", "parent", "root", "flush"]
theorem sc_tree_of : FnScope N_tree_of ["schedule"] (defScope s_tree_of) := ⟨rfl, rfl, rfl, by decide +kernel, rfl, by decide +kernel, by decide +kernel⟩
abbrev s_schedule_of : Stmt := topS 29
abbrev N_schedule_of : List Str := ["tree", "merges", "runs_before", "left", "right", "runs_after"]
theorem sc_schedule_of : FnScope N_schedule_of ["tree"] (defScope s_schedule_of) := ⟨rfl, rfl, rfl, by decide +kernel, rfl, by decide +kernel, by decide +kernel⟩
abbrev s_edges : Stmt := topS 30
abbrev N_edges : List Str := ["tree", "node"]
theorem sc_edges : FnScope N_edges ["tree"] (defScope s_edges) := ⟨rfl, rfl, rfl, by decide +kernel, rfl, by decide +kernel, by decide +kernel⟩
abbrev s_edges_above : Stmt := topS 31
abbrev N_edges_above : List Str := ["tree", "node", "left", "right", "child"]
theorem sc_edges_above : FnScope N_edges_above ["tree", "node"] (defScope s_edges_above) := ⟨rfl, rfl, rfl, by decide +kernel, rfl, by decide +kernel, by decide +kernel⟩
abbrev s_mirror : Stmt := topS 32
abbrev N_mirror : List Str := ["schedule", "tree", "last", "parent"]
theorem sc_mirror : FnScope N_mirror ["schedule"] (defScope s_mirror) := ⟨rfl, rfl, rfl, by decide +kernel, rfl, by decide +kernel, by decide +kernel⟩
abbrev s_mirrored_node : Stmt := topS 33
abbrev N_mirrored_node : List Str := ["node", "last"]
theorem sc_mirrored_node : FnScope N_mirrored_node ["node", "last"] (defScope s_mirrored_node) := ⟨rfl, rfl, rfl, by decide +kernel, rfl, by decide +kernel, by decide +kernel⟩
abbrev s_count_schedules : Stmt := topS 35
abbrev N_count_schedules : List Str := ["n"]
theorem sc_count_schedules : FnScope N_count_schedules ["n"] (defScope s_count_schedules) := ⟨rfl, rfl, rfl, by decide +kernel, rfl, by decide +kernel, by decide +kernel⟩
abbrev s_check_flushes : Stmt := topS 36
abbrev N_check_flushes : List Str := ["n"]
theorem sc_check_flushes : FnScope N_check_flushes ["n"] (defScope s_check_flushes) := ⟨rfl, rfl, rfl, by decide +kernel, rfl, by decide +kernel, by decide +kernel⟩
abbrev s_continuations : Stmt := topS 37
abbrev N_continuations : List Str := ["n", "rows", "row", "total", "ways"]
theorem sc_continuations : FnScope N_continuations ["n"] (defScope s_continuations) := ⟨rfl, rfl, rfl, by decide +kernel, rfl, by decide +kernel, by decide +kernel⟩
abbrev s_index_of : Stmt := topS 38
abbrev N_index_of : List Str := ["schedule", "rows", "before", "runs", "flush", "merge", "ways", "left"]
theorem sc_index_of : FnScope N_index_of ["schedule"] (defScope s_index_of) := ⟨rfl, rfl, rfl, by decide +kernel, rfl, by decide +kernel, by decide +kernel⟩
abbrev s_schedule_at : Stmt := topS 39
abbrev N_schedule_at : List Str := ["n", "index", "rows", "merges", "runs", "before", "flush", "ways", "left"]
theorem sc_schedule_at : FnScope N_schedule_at ["n", "index"] (defScope s_schedule_at) := ⟨rfl, rfl, rfl, by decide +kernel, rfl, by decide +kernel, by decide +kernel⟩
abbrev s_count_within : Stmt := topS 40
abbrev N_count_within : List Str := ["n", "k", "c"]
theorem sc_count_within : FnScope N_count_within ["n", "k", "c"] (defScope s_count_within) := ⟨rfl, rfl, rfl, by decide +kernel, rfl, by decide +kernel, by decide +kernel⟩
abbrev s_counts_within : Stmt := topS 41
abbrev N_counts_within : List Str := ["n", "k", "c", "counts", "b", "a", "most"]
theorem sc_counts_within : FnScope N_counts_within ["n", "k", "c"] (defScope s_counts_within) := ⟨rfl, rfl, rfl, by decide +kernel, rfl, by decide +kernel, by decide +kernel⟩
abbrev s_counts_by_size : Stmt := topS 42
abbrev N_counts_by_size : List Str := ["lefts", "rights", "counts", "below", "left", "right"]
theorem sc_counts_by_size : FnScope N_counts_by_size ["lefts", "rights"] (defScope s_counts_by_size) := ⟨rfl, rfl, rfl, by decide +kernel, rfl, by decide +kernel, by decide +kernel⟩
abbrev s_index_within : Stmt := topS 43
abbrev N_index_within : List Str := ["schedule", "k", "c"]
theorem sc_index_within : FnScope N_index_within ["schedule", "k", "c"] (defScope s_index_within) := ⟨rfl, rfl, rfl, by decide +kernel, rfl, by decide +kernel, by decide +kernel⟩
abbrev s_place_of : Stmt := topS 44
abbrev N_place_of : List Str := ["schedule", "b", "a", "counts", "root", "below", "lefts", "rights", "smaller_root", "smaller_left", "other"]
theorem sc_place_of : FnScope N_place_of ["schedule", "b", "a", "counts"] (defScope s_place_of) := ⟨rfl, rfl, rfl, by decide +kernel, rfl, by decide +kernel, by decide +kernel⟩
abbrev s_root_of : Stmt := topS 45
abbrev N_root_of : List Str := ["schedule", "root", "runs", "flush", "merge"]
theorem sc_root_of : FnScope N_root_of ["schedule"] (defScope s_root_of) := ⟨rfl, rfl, rfl, by decide +kernel, rfl, by decide +kernel, by decide +kernel⟩
abbrev s_schedule_within : Stmt := topS 46
abbrev N_schedule_within : List Str := ["n", "k", "c", "index", "counts"]
theorem sc_schedule_within : FnScope N_schedule_within ["n", "k", "c", "index"] (defScope s_schedule_within) := ⟨rfl, rfl, rfl, by decide +kernel, rfl, by decide +kernel, by decide +kernel⟩
abbrev s_schedule_in_place : Stmt := topS 47
abbrev N_schedule_in_place : List Str := ["n", "b", "a", "place", "counts", "lefts", "rights", "root", "before", "left_place", "right_place", "left", "right"]
theorem sc_schedule_in_place : FnScope N_schedule_in_place ["n", "b", "a", "place", "counts"] (defScope s_schedule_in_place) := ⟨rfl, rfl, rfl, by decide +kernel, rfl, by decide +kernel, by decide +kernel⟩
abbrev s_L_pot : Stmt := topS 49
abbrev N_L_pot : List Str := ["_law_script", "_law_place", "_law_cell", "_law_digits"]
theorem sc_L_pot : FnScope N_L_pot ["_law_script", "_law_place"] (defScope s_L_pot) := ⟨rfl, rfl, rfl, by decide +kernel, rfl, by decide +kernel, by decide +kernel⟩
abbrev s_L_take : Stmt := topS 50
abbrev N_L_take : List Str := ["_law_pot", "_law_size", "_law_digit", "_law_turn", "_law_prime", "_law_mixed"]
theorem sc_L_take : FnScope N_L_take ["_law_pot", "_law_size"] (defScope s_L_take) := ⟨rfl, rfl, rfl, by decide +kernel, rfl, by decide +kernel, by decide +kernel⟩
abbrev s_L_of : Stmt := topS 51
abbrev N_L_of : List Str := ["_law_pot", "_law_options"]
theorem sc_L_of : FnScope N_L_of ["_law_pot", "_law_options"] (defScope s_L_of) := ⟨rfl, rfl, rfl, by decide +kernel, rfl, by decide +kernel, by decide +kernel⟩
abbrev s_L_drawn : Stmt := topS 52
abbrev N_L_drawn : List Str := ["_law_pot", "_law_size", "_law_way", "_law_found", "_law_runs", "_law_flush", "_law_options", "_law_merge"]
theorem sc_L_drawn : FnScope N_L_drawn ["_law_pot", "_law_size"] (defScope s_L_drawn) := ⟨rfl, rfl, rfl, by decide +kernel, rfl, by decide +kernel, by decide +kernel⟩
abbrev s_L_right : Stmt := topS 53
abbrev N_L_right : List Str := ["_law_plan", "_law_size", "_law_at", "_law_parents", "_law_told", "_law_inner"]
theorem sc_L_right : FnScope N_L_right ["_law_plan"] (defScope s_L_right) := ⟨rfl, rfl, rfl, by decide +kernel, rfl, by decide +kernel, by decide +kernel⟩
abbrev s_law : Stmt := topS 54
abbrev N_law : List Str := ["_law_script", "_law_place", "_law_pot", "_law_turn"]
theorem sc_law : FnScope N_law ["_law_script"] (defScope s_law) := ⟨rfl, rfl, rfl, by decide +kernel, rfl, by decide +kernel, by decide +kernel⟩
structure Tx (K : PySem.W.Frag) (mg : Str → Option Value) where
  a_is_int : Addr
  fd_is_int : FuncData
  f_is_int : Fun K "is_int" "is_int" s_is_int a_is_int fd_is_int
  g_is_int : mg "is_int" = some (.ref a_is_int)
  bd_is_int : Binds K fd_is_int ["value"] []
  a_is_count : Addr
  fd_is_count : FuncData
  f_is_count : Fun K "is_count" "is_count" s_is_count a_is_count fd_is_count
  g_is_count : mg "is_count" = some (.ref a_is_count)
  bd_is_count : Binds K fd_is_count ["value"] []
  a_is_count_up_to : Addr
  fd_is_count_up_to : FuncData
  f_is_count_up_to : Fun K "is_count_up_to" "is_count_up_to" s_is_count_up_to a_is_count_up_to fd_is_count_up_to
  g_is_count_up_to : mg "is_count_up_to" = some (.ref a_is_count_up_to)
  bd_is_count_up_to : Binds K fd_is_count_up_to ["value", "most"] []
  a_check_budgets : Addr
  fd_check_budgets : FuncData
  f_check_budgets : Fun K "check_budgets" "check_budgets" s_check_budgets a_check_budgets fd_check_budgets
  g_check_budgets : mg "check_budgets" = some (.ref a_check_budgets)
  bd_check_budgets : Binds K fd_check_budgets ["k", "c", "most"] []
  a_is_schedule : Addr
  fd_is_schedule : FuncData
  f_is_schedule : Fun K "is_schedule" "is_schedule" s_is_schedule a_is_schedule fd_is_schedule
  g_is_schedule : mg "is_schedule" = some (.ref a_is_schedule)
  bd_is_schedule : Binds K fd_is_schedule ["value"] []
  kb_is_schedule_value : KBinds K fd_is_schedule ["value"] ["value"] (gP [0]) (gP [0])
  a_stacks : Addr
  fd_stacks : FuncData
  f_stacks : Fun K "stacks" "stacks" s_stacks a_stacks fd_stacks
  g_stacks : mg "stacks" = some (.ref a_stacks)
  bd_stacks : Binds K fd_stacks ["schedule"] []
  kb_stacks_schedule : KBinds K fd_stacks ["schedule"] ["schedule"] (gP [0]) (gP [0])
  a_stack_after : Addr
  fd_stack_after : FuncData
  f_stack_after : Fun K "stack_after" "stack_after" s_stack_after a_stack_after fd_stack_after
  g_stack_after : mg "stack_after" = some (.ref a_stack_after)
  bd_stack_after : Binds K fd_stack_after ["stack", "flush", "merge"] []
  a_writes : Addr
  fd_writes : FuncData
  f_writes : Fun K "writes" "writes" s_writes a_writes fd_writes
  g_writes : mg "writes" = some (.ref a_writes)
  bd_writes : Binds K fd_writes ["schedule"] []
  kb_writes_schedule : KBinds K fd_writes ["schedule"] ["schedule"] (gP [0]) (gP [0])
  a_run_counts : Addr
  fd_run_counts : FuncData
  f_run_counts : Fun K "run_counts" "run_counts" s_run_counts a_run_counts fd_run_counts
  g_run_counts : mg "run_counts" = some (.ref a_run_counts)
  bd_run_counts : Binds K fd_run_counts ["schedule"] []
  kb_run_counts_schedule : KBinds K fd_run_counts ["schedule"] ["schedule"] (gP [0]) (gP [0])
  a_all_schedules : Addr
  fd_all_schedules : FuncData
  f_all_schedules : Fun K "all_schedules" "all_schedules" s_all_schedules a_all_schedules fd_all_schedules
  g_all_schedules : mg "all_schedules" = some (.ref a_all_schedules)
  bd_all_schedules : Binds K fd_all_schedules ["n"] []
  kb_all_schedules_n : KBinds K fd_all_schedules ["n"] ["n"] (gP [0]) (gP [0])
  a_runs_at_end : Addr
  fd_runs_at_end : FuncData
  f_runs_at_end : Fun K "runs_at_end" "runs_at_end" s_runs_at_end a_runs_at_end fd_runs_at_end
  g_runs_at_end : mg "runs_at_end" = some (.ref a_runs_at_end)
  bd_runs_at_end : Binds K fd_runs_at_end ["schedule"] []
  a_is_tree : Addr
  fd_is_tree : FuncData
  f_is_tree : Fun K "is_tree" "is_tree" s_is_tree a_is_tree fd_is_tree
  g_is_tree : mg "is_tree" = some (.ref a_is_tree)
  bd_is_tree : Binds K fd_is_tree ["value"] []
  kb_is_tree_value : KBinds K fd_is_tree ["value"] ["value"] (gP [0]) (gP [0])
  a_is_numbered_in_order : Addr
  fd_is_numbered_in_order : FuncData
  f_is_numbered_in_order : Fun K "is_numbered_in_order" "is_numbered_in_order" s_is_numbered_in_order a_is_numbered_in_order fd_is_numbered_in_order
  g_is_numbered_in_order : mg "is_numbered_in_order" = some (.ref a_is_numbered_in_order)
  bd_is_numbered_in_order : Binds K fd_is_numbered_in_order ["parents"] []
  a_tree_of : Addr
  fd_tree_of : FuncData
  f_tree_of : Fun K "tree_of" "tree_of" s_tree_of a_tree_of fd_tree_of
  g_tree_of : mg "tree_of" = some (.ref a_tree_of)
  bd_tree_of : Binds K fd_tree_of ["schedule"] []
  kb_tree_of_schedule : KBinds K fd_tree_of ["schedule"] ["schedule"] (gP [0]) (gP [0])
  a_schedule_of : Addr
  fd_schedule_of : FuncData
  f_schedule_of : Fun K "schedule_of" "schedule_of" s_schedule_of a_schedule_of fd_schedule_of
  g_schedule_of : mg "schedule_of" = some (.ref a_schedule_of)
  bd_schedule_of : Binds K fd_schedule_of ["tree"] []
  kb_schedule_of_tree : KBinds K fd_schedule_of ["tree"] ["tree"] (gP [0]) (gP [0])
  a_edges : Addr
  fd_edges : FuncData
  f_edges : Fun K "edges" "edges" s_edges a_edges fd_edges
  g_edges : mg "edges" = some (.ref a_edges)
  bd_edges : Binds K fd_edges ["tree"] []
  kb_edges_tree : KBinds K fd_edges ["tree"] ["tree"] (gP [0]) (gP [0])
  a_edges_above : Addr
  fd_edges_above : FuncData
  f_edges_above : Fun K "edges_above" "edges_above" s_edges_above a_edges_above fd_edges_above
  g_edges_above : mg "edges_above" = some (.ref a_edges_above)
  bd_edges_above : Binds K fd_edges_above ["tree", "node"] []
  a_mirror : Addr
  fd_mirror : FuncData
  f_mirror : Fun K "mirror" "mirror" s_mirror a_mirror fd_mirror
  g_mirror : mg "mirror" = some (.ref a_mirror)
  bd_mirror : Binds K fd_mirror ["schedule"] []
  kb_mirror_schedule : KBinds K fd_mirror ["schedule"] ["schedule"] (gP [0]) (gP [0])
  a_mirrored_node : Addr
  fd_mirrored_node : FuncData
  f_mirrored_node : Fun K "mirrored_node" "mirrored_node" s_mirrored_node a_mirrored_node fd_mirrored_node
  g_mirrored_node : mg "mirrored_node" = some (.ref a_mirrored_node)
  bd_mirrored_node : Binds K fd_mirrored_node ["node", "last"] []
  a_count_schedules : Addr
  fd_count_schedules : FuncData
  f_count_schedules : Fun K "count_schedules" "count_schedules" s_count_schedules a_count_schedules fd_count_schedules
  g_count_schedules : mg "count_schedules" = some (.ref a_count_schedules)
  bd_count_schedules : Binds K fd_count_schedules ["n"] []
  kb_count_schedules_n : KBinds K fd_count_schedules ["n"] ["n"] (gP [0]) (gP [0])
  a_check_flushes : Addr
  fd_check_flushes : FuncData
  f_check_flushes : Fun K "check_flushes" "check_flushes" s_check_flushes a_check_flushes fd_check_flushes
  g_check_flushes : mg "check_flushes" = some (.ref a_check_flushes)
  bd_check_flushes : Binds K fd_check_flushes ["n"] []
  a_continuations : Addr
  fd_continuations : FuncData
  f_continuations : Fun K "continuations" "continuations" s_continuations a_continuations fd_continuations
  g_continuations : mg "continuations" = some (.ref a_continuations)
  bd_continuations : Binds K fd_continuations ["n"] []
  a_index_of : Addr
  fd_index_of : FuncData
  f_index_of : Fun K "index_of" "index_of" s_index_of a_index_of fd_index_of
  g_index_of : mg "index_of" = some (.ref a_index_of)
  bd_index_of : Binds K fd_index_of ["schedule"] []
  kb_index_of_schedule : KBinds K fd_index_of ["schedule"] ["schedule"] (gP [0]) (gP [0])
  a_schedule_at : Addr
  fd_schedule_at : FuncData
  f_schedule_at : Fun K "schedule_at" "schedule_at" s_schedule_at a_schedule_at fd_schedule_at
  g_schedule_at : mg "schedule_at" = some (.ref a_schedule_at)
  bd_schedule_at : Binds K fd_schedule_at ["n", "index"] []
  kb_schedule_at_index_n : KBinds K fd_schedule_at ["n", "index"] ["index", "n"] (gP [1, 0]) (gP [1, 0])
  a_count_within : Addr
  fd_count_within : FuncData
  f_count_within : Fun K "count_within" "count_within" s_count_within a_count_within fd_count_within
  g_count_within : mg "count_within" = some (.ref a_count_within)
  bd_count_within : Binds K fd_count_within ["n", "k", "c"] []
  kb_count_within_c_n_k : KBinds K fd_count_within ["n", "k", "c"] ["c", "n", "k"] (gP [1, 2, 0]) (gP [1, 2, 0])
  a_counts_within : Addr
  fd_counts_within : FuncData
  f_counts_within : Fun K "counts_within" "counts_within" s_counts_within a_counts_within fd_counts_within
  g_counts_within : mg "counts_within" = some (.ref a_counts_within)
  bd_counts_within : Binds K fd_counts_within ["n", "k", "c"] []
  a_counts_by_size : Addr
  fd_counts_by_size : FuncData
  f_counts_by_size : Fun K "counts_by_size" "counts_by_size" s_counts_by_size a_counts_by_size fd_counts_by_size
  g_counts_by_size : mg "counts_by_size" = some (.ref a_counts_by_size)
  bd_counts_by_size : Binds K fd_counts_by_size ["lefts", "rights"] []
  a_index_within : Addr
  fd_index_within : FuncData
  f_index_within : Fun K "index_within" "index_within" s_index_within a_index_within fd_index_within
  g_index_within : mg "index_within" = some (.ref a_index_within)
  bd_index_within : Binds K fd_index_within ["schedule", "k", "c"] []
  kb_index_within_c_schedule_k : KBinds K fd_index_within ["schedule", "k", "c"] ["c", "schedule", "k"] (gP [1, 2, 0]) (gP [1, 2, 0])
  a_place_of : Addr
  fd_place_of : FuncData
  f_place_of : Fun K "place_of" "place_of" s_place_of a_place_of fd_place_of
  g_place_of : mg "place_of" = some (.ref a_place_of)
  bd_place_of : Binds K fd_place_of ["schedule", "b", "a", "counts"] []
  a_root_of : Addr
  fd_root_of : FuncData
  f_root_of : Fun K "root_of" "root_of" s_root_of a_root_of fd_root_of
  g_root_of : mg "root_of" = some (.ref a_root_of)
  bd_root_of : Binds K fd_root_of ["schedule"] []
  a_schedule_within : Addr
  fd_schedule_within : FuncData
  f_schedule_within : Fun K "schedule_within" "schedule_within" s_schedule_within a_schedule_within fd_schedule_within
  g_schedule_within : mg "schedule_within" = some (.ref a_schedule_within)
  bd_schedule_within : Binds K fd_schedule_within ["n", "k", "c", "index"] []
  kb_schedule_within_index_c_k_n : KBinds K fd_schedule_within ["n", "k", "c", "index"] ["index", "c", "k", "n"] (gP [3, 2, 1, 0]) (gP [3, 2, 1, 0])
  a_schedule_in_place : Addr
  fd_schedule_in_place : FuncData
  f_schedule_in_place : Fun K "schedule_in_place" "schedule_in_place" s_schedule_in_place a_schedule_in_place fd_schedule_in_place
  g_schedule_in_place : mg "schedule_in_place" = some (.ref a_schedule_in_place)
  bd_schedule_in_place : Binds K fd_schedule_in_place ["n", "b", "a", "place", "counts"] []
  kc_schedule_in_place_b_a_place_counts : KBinds K fd_schedule_in_place ["n", "b", "a", "place", "counts"] ["b", "a", "place", "counts"] (gQ 4) (gQ 4)
  a_L_pot : Addr
  fd_L_pot : FuncData
  f_L_pot : Fun K "_law_sched_pot" "_law_sched_pot" s_L_pot a_L_pot fd_L_pot
  g_L_pot : mg "_law_sched_pot" = some (.ref a_L_pot)
  bd_L_pot : Binds K fd_L_pot ["_law_script", "_law_place"] []
  a_L_take : Addr
  fd_L_take : FuncData
  f_L_take : Fun K "_law_sched_take" "_law_sched_take" s_L_take a_L_take fd_L_take
  g_L_take : mg "_law_sched_take" = some (.ref a_L_take)
  bd_L_take : Binds K fd_L_take ["_law_pot", "_law_size"] []
  a_L_of : Addr
  fd_L_of : FuncData
  f_L_of : Fun K "_law_sched_of" "_law_sched_of" s_L_of a_L_of fd_L_of
  g_L_of : mg "_law_sched_of" = some (.ref a_L_of)
  bd_L_of : Binds K fd_L_of ["_law_pot", "_law_options"] []
  a_L_drawn : Addr
  fd_L_drawn : FuncData
  f_L_drawn : Fun K "_law_sched_drawn" "_law_sched_drawn" s_L_drawn a_L_drawn fd_L_drawn
  g_L_drawn : mg "_law_sched_drawn" = some (.ref a_L_drawn)
  bd_L_drawn : Binds K fd_L_drawn ["_law_pot", "_law_size"] []
  a_L_right : Addr
  fd_L_right : FuncData
  f_L_right : Fun K "_law_sched_right" "_law_sched_right" s_L_right a_L_right fd_L_right
  g_L_right : mg "_law_sched_right" = some (.ref a_L_right)
  bd_L_right : Binds K fd_L_right ["_law_plan"] []
  a_law : Addr
  fd_law : FuncData
  f_law : Fun K "law" "law" s_law a_law fd_law
  g_law : mg "law" = some (.ref a_law)
  bd_law : Binds K fd_law ["_law_script"] []
  b_isinstance : mg "isinstance" = none
  b_int : mg "int" = none
  b_bool : mg "bool" = none
  b_tuple : mg "tuple" = none
  b_len : mg "len" = none
  b_enumerate : mg "enumerate" = none
  b_range : mg "range" = none
  b_sum : mg "sum" = none
  b_all : mg "all" = none
  b_max : mg "max" = none
  b_reversed : mg "reversed" = none
  b_zip : mg "zip" = none
  b_divmod : mg "divmod" = none
  b_abs : mg "abs" = none
  b_min : mg "min" = none
  t_MOST_BUDGET : Tok
  c_MOST_BUDGET : mg "MOST_BUDGET" = some (.int (60) t_MOST_BUDGET)
  t_MOST_FLUSHES : Tok
  c_MOST_FLUSHES : mg "MOST_FLUSHES" = some (.int (60) t_MOST_FLUSHES)
  t_MOST_LISTED_FLUSHES : Tok
  c_MOST_LISTED_FLUSHES : mg "MOST_LISTED_FLUSHES" = some (.int (8) t_MOST_LISTED_FLUSHES)
  t_NO_PARENT : Tok
  c_NO_PARENT : mg "NO_PARENT" = some (.int (-1) t_NO_PARENT)
section
variable {P : Program} {w : World} {K : PySem.W.Frag} {mg : Str → Option Value} {base : Heap}
def sp_is_int (K : PySem.W.Frag) : Sp := fun vs H Q _ => ∃ i : Int, vs = [.int i] ∧ Q (.bl true) H
theorem ok_is_int (TX : Tx K mg) : FnOk P w K mg base CX0 1 TX.a_is_int TX.fd_is_int ["value"] (sp_is_int K) := by
  refine TX.f_is_int.ok sc_is_int (fun vs H Q E h => ?_) (fun cdv A outer s H vs Q E hr h => ?_)
  · obtain ⟨i, rfl, _⟩ := h; rfl
  · obtain ⟨i, rfl, q⟩ := h
    refine ⟨_, (pss_one (ps_ret (pe_and (pe_callB (id := "isinstance") (k_isi (K := K) rfl) (by rfl) TX.b_isinstance (by decide +kernel) (pa_cons (pv 0) (pa_cons (pe_bltn (v := .ty "int") (by rfl) TX.b_int (by decide +kernel) rfl) pa_nil))) (pe_one (pe_not (pe_callB (id := "isinstance") (k_isi (K := K) rfl) (by rfl) TX.b_isinstance (by decide +kernel) (pa_cons (pv 0) (pa_cons (pe_bltn (v := .ty "bool") (by rfl) TX.b_bool (by decide +kernel) rfl) pa_nil)))))))), ?_⟩
    refine ⟨.int i, rfl, .int i, .ty "int", .type "int", .type "int", true, rfl, .ty _, .base (.int i), kit_ty (by decide +kernel), true, rfl, ?_⟩
    exact iteT ⟨.int i, rfl, .int i, .ty "bool", .type "int", .type "bool", false, rfl, .ty _, .base (.int i), kit_ty (by decide +kernel), false, rfl, q⟩
def sp_is_count (K : PySem.W.Frag) : Sp := fun vs H Q _ => ∃ i : Int, vs = [.int i] ∧ Q (.bl (decide (0 ≤ i))) H
theorem ok_is_count (TX : Tx K mg) : FnOk P w K mg base CX0 2 TX.a_is_count TX.fd_is_count ["value"] (sp_is_count K) := by
  refine TX.f_is_count.ok sc_is_count (fun vs H Q E h => ?_) (fun cdv A outer s H vs Q E hr h => ?_)
  · obtain ⟨i, rfl, _⟩ := h; rfl
  · obtain ⟨i, rfl, q⟩ := h
    refine ⟨_, (pss_one (ps_ret (pe_and (pe_call (ok_is_int TX) (hr.mono (by decide)) (by rfl) TX.g_is_int TX.f_is_int.kp TX.bd_is_int .nil pass0 (pa_cons (pv 0) pa_nil)) (pe_one (pe_cmpR op_ge (pv 0) pe_int (nomark _)))))), ?_⟩
    exact ⟨.int i, rfl, i, rfl, true, rfl, iteT ⟨.int i, rfl, i, 0, rfl, rfl, q⟩⟩
def sp_is_count_up_to (K : PySem.W.Frag) : Sp := fun vs H Q _ => ∃ i m : Int, vs = [.int i, .int m] ∧ Q (.bl (decide (0 ≤ i) && decide (i ≤ m))) H
theorem ok_is_count_up_to (TX : Tx K mg) : FnOk P w K mg base CX0 3 TX.a_is_count_up_to TX.fd_is_count_up_to ["value", "most"] (sp_is_count_up_to K) := by
  refine TX.f_is_count_up_to.ok sc_is_count_up_to (fun vs H Q E h => ?_) (fun cdv A outer s H vs Q E hr h => ?_)
  · obtain ⟨i, m, rfl, _⟩ := h; rfl
  · obtain ⟨i, m, rfl, q⟩ := h
    refine ⟨_, (pss_one (ps_ret (pe_and (pe_call (ok_is_count TX) (hr.mono (by decide)) (by rfl) TX.g_is_count TX.f_is_count.kp TX.bd_is_count .nil pass0 (pa_cons (pv 0) pa_nil)) (pe_one (pe_cmpR op_le (pv 0) (pv 1) (nomark _)))))), ?_⟩
    refine ⟨.int i, rfl, i, rfl, _, rfl, ?_⟩
    by_cases h0 : 0 ≤ i
    · rw [decide_eq_true h0] at q ⊢
      exact iteT ⟨.int i, rfl, .int m, rfl, i, m, rfl, rfl, q⟩
    · rw [decide_eq_false h0] at q ⊢
      exact iteF q
def sp_is_schedule (K : PySem.W.Frag) : Sp := fun vs H Q _ => ∃ (a : Addr) (t : T), vs = [.ref a] ∧ SqT K H a (vi t.sch) ∧ t.size ≤ 60 ∧ Q (.bl true) H
theorem ok_is_schedule (TX : Tx K mg) : FnOk P w K mg base CX0 4 TX.a_is_schedule TX.fd_is_schedule ["value"] (sp_is_schedule K) := by
  refine TX.f_is_schedule.ok sc_is_schedule (fun vs H Q E h => ?_) (fun cdv A outer s H vs Q E hr h => ?_)
  · obtain ⟨a, t, rfl, _⟩ := h; rfl
  · obtain ⟨a, t, rfl, hS, hz, q⟩ := h
    have hlen : (vi t.sch).length = t.size := by rw [vi_len, T.sch_len]
    refine ⟨_, (pss_cons (ps_if (PW.pt (pw_or (pt_not (pt_val (pe_callB (id := "isinstance") (k_isi (K := K) rfl) (by rfl) TX.b_isinstance (by decide +kernel) (pa_cons (pv 0) (pa_cons (pe_bltn (v := .ty "tuple") (by rfl) TX.b_tuple (by decide +kernel) rfl) pa_nil))))) (pw_or1 (pt_cmpR op_gt (pe_callB (id := "len") (k_len (K := K) rfl) (by rfl) TX.b_len (by decide +kernel) (pa_cons (pv 0) pa_nil)) (pe_glob (v := .int (60)) (by rfl) TX.c_MOST_FLUSHES ⟨_, rfl⟩) (nomark _)))))
        (pss_one (ps_ret pe_bl))
        pss_nil)
      (pss_cons (ps_set (i := 1) sc_is_schedule.nd rfl (.inl rfl) pe_int)
      (pss_cons (ps_for PassesOwn.never rfl (k_piT (K := K) rfl (pv 0)) (pg_name (i := 2) sc_is_schedule.nd rfl (.inl rfl))
        (pss_cons (ps_if (pt_not (pt_val (pe_call (ok_is_count_up_to TX) (hr.mono (by decide)) (by rfl) TX.g_is_count_up_to TX.f_is_count_up_to.kp TX.bd_is_count_up_to .nil pass0 (pa_cons (pv 2) (pa_cons (pv 1) pa_nil)))))
          (pss_one (ps_ret pe_bl))
          pss_nil)
        (pss_one (ps_set (i := 1) sc_is_schedule.nd rfl (.inl rfl) (pe_op op_add (pe_op op_sub (pv 1) (pv 2)) pe_int)))))
      (pss_one (ps_ret pe_bl))))), ?_⟩
    refine ⟨.ref a, rfl, .ref a, .ty "tuple", .type "tuple", .type "tuple", true, rfl, .ty _, ty_tup hS, kit_ty (by decide +kernel), true, rfl, iteF ⟨.ref a, rfl, a, _, rfl, .inr hS, _, _, rfl, rfl, _, rfl, decF (by rw [hlen]; omega) ?_⟩⟩
    refine ⟨.ref a, rfl, a, rfl, ⟨_, hS⟩, for_tup (K := K) (xs := vi t.sch) (fun i σ H' => H' = H ∧ ∃ y2, σ = [some (.ref a), some (.int ((pre t i).runs : Int)), y2] ) ⟨rfl, none, rfl⟩ (fun i σ H' _ h => by rw [h.1]; exact hS) ?_ ?_⟩
    · rintro i x σ H' hx ⟨rfl, y2, rfl⟩
      have hi : i < t.sch.length := by
        have := (List.getElem?_eq_some_iff.mp hx).1
        rwa [vi_len] at this
      have hm := List.getElem?_eq_getElem hi
      rw [vi_get hm] at hx
      cases hx
      obtain ⟨e1, h1⟩ := pre_succ hm
      have e2 := T.push_runs _ _ h1
      refine ⟨_, rfl, _, rfl, _, _, rfl, true, ?_, iteF ⟨_, rfl, _, rfl, _, _, rfl, rfl, _, _, rfl, rfl, rfl, some (.int (t.sch[i] : Int)), ?_⟩⟩
      · rw [decide_eq_true (by omega), decide_eq_true (by omega)]; rfl
      · rw [e1, e2]
        show [_, _, _] = [_, _, _]
        simp only [Int.natCast_add, Int.natCast_sub h1]
        rfl
    · rintro σ H' ⟨rfl, y2, rfl⟩
      exact q
end
section
variable {P : Program} {w : World} {K : PySem.W.Frag} {mg : Str → Option Value} {base : Heap}
def sp_check_budgets (K : PySem.W.Frag) : Sp := fun vs H Q _ => ∃ k c m : Int, vs = [.int k, .int c, .int m] ∧ 0 ≤ k ∧ k ≤ m ∧ 0 ≤ c ∧ c ≤ m ∧ ∀ H', Same H H' → Q .non H'
theorem ok_check_budgets (TX : Tx K mg) : FnOk P w K mg base CX0 4 TX.a_check_budgets TX.fd_check_budgets ["k", "c", "most"] (sp_check_budgets K) := by
  refine TX.f_check_budgets.ok sc_check_budgets (fun vs H Q E h => ?_) (fun cdv A outer s H vs Q E hr h => ?_)
  · obtain ⟨k, c, m, rfl, _⟩ := h; rfl
  · obtain ⟨k, c, m, rfl, k0, k1, c0, c1, q⟩ := h
    refine ⟨_, (pss_one (ps_for PassesOwn.never rfl (k_piT (K := K) rfl (pe_tup (pa_cons (pv 0) (pa_cons (pv 1) pa_nil)))) (pg_name (i := 3) sc_check_budgets.nd rfl (.inl rfl))
        (pss_one (ps_if (pt_not (pt_val (pe_call (ok_is_count_up_to TX) (hr.mono (by decide)) (by rfl) TX.g_is_count_up_to TX.f_is_count_up_to.kp TX.bd_is_count_up_to .nil pass0 (pa_cons (pv 3) (pa_cons (pv 2) pa_nil)))))
          (pss_one ps_never)
          pss_nil)))), ?_⟩
    refine ⟨_, rfl, _, rfl, sz60 (by simp), fun t nt => ⟨t, rfl, ⟨_, .inl (.inl upd_same)⟩, for_tup (K := K) (xs := [V.int k, V.int c]) (fun i σ H' => H' = upd H t (.tup [V.int k, V.int c]) ∧ ∃ y, σ = [some (.int k), some (.int c), some (.int m), y]) ⟨rfl, none, rfl⟩ (fun i σ H' _ h => by rw [h.1]; exact .inl (.inl upd_same)) ?_ ?_⟩⟩
    · rintro i x σ H' hx ⟨rfl, y, rfl⟩
      have hb : ∃ b : Int, x = .int b ∧ 0 ≤ b ∧ b ≤ m := by
        match i, hx with
        | 0, hx => cases hx; exact ⟨k, rfl, k0, k1⟩
        | 1, hx => cases hx; exact ⟨c, rfl, c0, c1⟩
        | i + 2, hx => simp at hx
      obtain ⟨b, rfl, b0, b1⟩ := hb
      exact ⟨_, rfl, _, rfl, _, _, rfl, true, by rw [decide_eq_true b0, decide_eq_true b1]; rfl, iteF ⟨rfl, _, rfl⟩⟩
    · rintro σ H' ⟨rfl, y, rfl⟩
      exact q _ (same_upd nt)
end
section
variable {P : Program} {w : World} {K : PySem.W.Frag} {mg : Str → Option Value} {base : Heap}
def sp_check_flushes (K : PySem.W.Frag) : Sp := fun vs H Q _ => ∃ n : Nat, vs = [.int (n : Int)] ∧ n ≤ 60 ∧ Q .non H
theorem ok_check_flushes (TX : Tx K mg) : FnOk P w K mg base CX0 4 TX.a_check_flushes TX.fd_check_flushes ["n"] (sp_check_flushes K) := by
  refine TX.f_check_flushes.ok sc_check_flushes (fun vs H Q E h => ?_) (fun cdv A outer s H vs Q E hr h => ?_)
  · obtain ⟨n, rfl, _⟩ := h; rfl
  · obtain ⟨n, rfl, hn, q⟩ := h
    refine ⟨_, (pss_one (ps_if (pt_not (pt_val (pe_call (ok_is_count_up_to TX) (hr.mono (by decide)) (by rfl) TX.g_is_count_up_to TX.f_is_count_up_to.kp TX.bd_is_count_up_to .nil pass0 (pa_cons (pv 0) (pa_cons (pe_glob (v := .int (60)) (by rfl) TX.c_MOST_FLUSHES ⟨_, rfl⟩) pa_nil)))))
        (pss_one ps_never)
        pss_nil)), ?_⟩
    exact ⟨_, rfl, _, _, rfl, true, by rw [decide_eq_true (by omega), decide_eq_true (by omega)]; rfl, iteF q⟩
end
def dPr (p : Nat × Nat) : PyData := .tuple [.int (p.1 : Int), .int (p.2 : Int)]
def dStk (l : List (Nat × Nat)) : PyData := .tuple (l.map dPr)
theorem tf_pr (p : Nat × Nat) : Tf (dPr p) := .tup fun d h => by
  rcases List.mem_cons.mp h with rfl | h
  · exact .int _
  · rcases List.mem_cons.mp h with rfl | h
    · exact .int _
    · cases h
theorem tf_stk (l : List (Nat × Nat)) : Tf (dStk l) := .tup fun d h => by
  obtain ⟨p, _, rfl⟩ := List.mem_map.mp h
  exact tf_pr p
section
variable {P : Program} {w : World} {K : PySem.W.Frag} {mg : Str → Option Value} {base : Heap}
def sp_stack_after (K : PySem.W.Frag) : Sp := fun vs H Q _ => ∃ (a : Addr) (t : T) (m : Nat), vs = [.ref a, .int (t.size : Int), .int (m : Int)] ∧ Dp K H (.ref a) (dStk (t.stk 0)) ∧ m ≤ t.runs ∧ t.size ≤ 60 ∧
  ∀ H' p, Same H H' → Dp K H' (.ref p) (dStk ((t.push m).stk 0)) → Q (.ref p) H'
theorem ok_stack_after (TX : Tx K mg) : FnOk P w K mg base CX0 1 TX.a_stack_after TX.fd_stack_after ["stack", "flush", "merge"] (sp_stack_after K) := by
  refine TX.f_stack_after.ok sc_stack_after (fun vs H Q E h => ?_) (fun cdv A outer s H vs Q E hr h => ?_)
  · obtain ⟨a, t, m, rfl, _⟩ := h; rfl
  · obtain ⟨a, t, m, rfl, hS, hm, hz, q⟩ := h
    obtain ⟨a', xs, e, hS, hA⟩ := Dp.tupInv hS
    cases e
    have hl := DpAll.len hA
    rw [List.length_map, T.stk_len] at hl
    have hrs := T.runs_le t
    have hst := T.start_le t m hm
    have e2 : ((xs.length : Int) - (m : Int)) = ((t.runs - m : Nat) : Int) := by rw [hl]; omega
    refine ⟨_, (pss_cons (ps_set (i := 3) sc_stack_after.nd rfl (.inl rfl) (pe_op op_sub (pe_callB (id := "len") (k_len (K := K) rfl) (by rfl) TX.b_len (by decide +kernel) (pa_cons (pv 0) pa_nil)) (pv 2)))
      (pss_cons (ps_set (i := 4) sc_stack_after.nd rfl (.inl rfl) (pe_ifExp (pt_cmpR op_gt (pv 2) pe_int (nomark _)) (pe_ix (k_ixT (K := K) rfl) (pe_ix (k_ixT (K := K) rfl) (pv 0) (pv 3) (fun _ _ => rfl)) pe_int (fun _ _ => rfl)) (pv 1)))
      (pss_one (ps_ret (pe_op (k_catT (K := K) rfl) (pe_slice (k_slT (K := K) rfl) (pv 0) po_none (po_some (pv 3))) (pe_tup (pa_cons (pe_tup (pa_cons (pv 4) (pa_cons (pe_op op_add (pv 1) pe_int) pa_nil))) pa_nil))))))), ?_⟩
    refine ⟨.ref a, rfl, a, xs, rfl, .inr hS, .int m, rfl, _, _, rfl, rfl, ?_⟩
    refine ⟨.int m, rfl, m, 0, rfl, rfl, _, rfl, ?_⟩
    have pos : (0 < m → ∃ b e, xs[t.runs - m]? = some (.ref b) ∧ SqT K H b [.int (t.start m : Int), .int e]) := fun h0 => by
      obtain ⟨e, he⟩ := T.stk_at t m hm 0 h0
      have h1 : ((t.stk 0).map dPr)[t.runs - m]? = some (dPr (0 + t.start m, e)) := by rw [List.getElem?_map, he]; rfl
      obtain ⟨v, h2, h3⟩ := DpAll.get hA h1
      obtain ⟨b, ys, rfl, h4, h5⟩ := Dp.tupInv h3
      have h6 : ys = [V.int (t.start m : Int), V.int (e : Int)] := by
        have := dp_ints_inv (ns := [((0 + t.start m : Nat) : Int), (e : Int)]) h5
        rw [this, Nat.zero_add]; rfl
      rw [h6] at h4
      exact ⟨b, e, h2, h4⟩
    have fin : ∀ p1 H1 p2 p3, Same H H1 → SqT K H1 p1 (xs.take (t.runs - m)) → H1 p2 = none → (upd H1 p2 (.tup [.int (t.start m : Int), .int ((t.size : Int) + 1)])) p3 = none →
        rCatA K (.ref p1) (.ref p3) (upd (upd H1 p2 (.tup [.int (t.start m : Int), .int ((t.size : Int) + 1)])) p3 (.tup [.ref p2])) Q := fun p1 H1 p2 p3 s1 h1 n2 n3 => by
      have s2 : Same H1 (upd H1 p2 (.tup [.int (t.start m : Int), .int ((t.size : Int) + 1)])) := same_upd n2
      have s3 := same_upd (o := .tup [.ref p2]) n3
      refine cat_read (Same.tup (s2.trans s3) h1) (.inl (.inl upd_same)) (by rw [List.length_take]; simp; omega) fun p H' s4 h4 => q H' p (((s1.trans s2).trans s3).trans s4) ?_
      rw [T.stk_push t m hm 0]
      unfold dStk
      rw [List.map_append, List.map_take]
      refine .tup h4 (DpAll.append (DpAll.same (((s1.trans s2).trans s3).trans s4) (DpAll.take _ hA)) (.cons ?_ .nil))
      refine .tup (xs := [.int (t.start m : Int), .int ((t.size : Int) + 1)]) (Same.tup (s3.trans s4) (.inl (.inl upd_same))) ?_
      have := dp_ints (K := K) (H := H') [(t.start m : Int), ((t.size : Int) + 1)]
      simpa using this
    refine ite2 (fun h => ?_) (fun h => ?_)
    · have h0 : 0 < m := by simpa using h
      obtain ⟨b, e, h2, h4⟩ := pos h0
      refine ⟨.ref a, rfl, _, rfl, a, xs, _, .ref b, rfl, rfl, hS, (by rw [e2]; exact atI_nat h2), b, _, 0, .int (t.start m : Int), rfl, rfl, h4, rfl, ?_⟩
      refine ⟨.ref a, rfl, _, rfl, _, rfl, sl_read hS fun p1 H1 s1 h1 => ?_⟩
      refine ⟨_, rfl, _, rfl, _, _, rfl, rfl, sz60 (by simp), fun p2 n2 => ⟨sz60 (by simp), fun p3 n3 => ?_⟩⟩
      exact fin p1 H1 p2 p3 s1 (by rw [e2, cut_to (by omega)] at h1; exact h1) n2 n3
    · have h0 : m = 0 := by
        have : ¬ (0 < m) := by simpa using h
        omega
      refine ⟨.int (t.start m : Int), by rw [T.start_zero t m hm h0]; rfl, ?_⟩
      refine ⟨.ref a, rfl, _, rfl, _, rfl, sl_read hS fun p1 H1 s1 h1 => ?_⟩
      refine ⟨_, rfl, _, rfl, _, _, rfl, rfl, sz60 (by simp), fun p2 n2 => ⟨sz60 (by simp), fun p3 n3 => ?_⟩⟩
      exact fin p1 H1 p2 p3 s1 (by rw [e2, cut_to (by omega)] at h1; exact h1) n2 n3
def dStacks (t : T) : List PyData := (List.range t.size).map fun i => dStk ((pre t (i + 1)).stk 0)
theorem tf_stacks (t : T) : ∀ d, d ∈ dStacks t → Tf d := fun d h => by
  obtain ⟨i, _, rfl⟩ := List.mem_map.mp h
  exact tf_stk _
theorem dStacks_len (t : T) : (dStacks t).length = t.size := by simp [dStacks]
theorem dStacks_at {t : T} {i : Nat} (h : i < t.size) : (dStacks t)[i]? = some (dStk ((pre t (i + 1)).stk 0)) := by simp [dStacks, h]
theorem dStacks_take {t : T} {i : Nat} (h : i < t.size) : (dStacks t).take (i + 1) = (dStacks t).take i ++ [dStk ((pre t (i + 1)).stk 0)] := by
  rw [List.take_add_one, dStacks_at h]; rfl
def sp_stacks (K : PySem.W.Frag) : Sp := fun vs H Q _ => ∃ (a : Addr) (t : T), vs = [.ref a] ∧ SqT K H a (vi t.sch) ∧ t.size ≤ 60 ∧ ∀ H' p, Same H H' → Dp K H' (.ref p) (.tuple (dStacks t)) → Q (.ref p) H'
theorem ok_stacks (TX : Tx K mg) : FnOk P w K mg base CX0 5 TX.a_stacks TX.fd_stacks ["schedule"] (sp_stacks K) := by
  refine TX.f_stacks.ok sc_stacks (fun vs H Q E h => ?_) (fun cdv A outer s H vs Q E hr h => ?_)
  · obtain ⟨a, t, rfl, _⟩ := h; rfl
  · obtain ⟨a, t, rfl, hS, hz, q⟩ := h
    have hlen : (vi t.sch).length = t.size := by rw [vi_len, T.sch_len]
    refine ⟨_, (pss_cons (ps_if (pt_not (pt_val (pe_call (ok_is_schedule TX) (hr.mono (by decide)) (by rfl) TX.g_is_schedule TX.f_is_schedule.kp TX.bd_is_schedule .nil pass0 (pa_cons (pv 0) pa_nil))))
        (pss_one ps_never)
        pss_nil)
      (pss_cons (ps_set (i := 1) sc_stacks.nd rfl (.inl rfl) (pe_tup pa_nil))
      (pss_cons (ps_set (i := 2) sc_stacks.nd rfl (.inl rfl) (pe_lst pa_nil))
      (pss_cons (ps_for PassesOwn.never rfl (pi_enumT (by rfl) TX.b_enumerate (pa_cons (pv 0) pa_nil)) (pg_tup rfl (pgs_cons (pg_name (i := 3) sc_stacks.nd rfl (.inl rfl)) (pgs_cons (pg_name (i := 4) sc_stacks.nd rfl (.inl rfl)) pgs_nil)))
        (pss_cons (ps_set (i := 1) sc_stacks.nd rfl (.inl rfl) (pe_call (ok_stack_after TX) (hr.mono (by decide)) (by rfl) TX.g_stack_after TX.f_stack_after.kp TX.bd_stack_after .nil pass0 (pa_cons (pv 1) (pa_cons (pv 3) (pa_cons (pv 4) pa_nil)))))
        (pss_one (ps_expr (pe_bm PySem.F.plainAttrs_list PySem.F.slot_list_append PySem.F.type_list_append mt_append (pv 2) (pa_cons (pv 1) pa_nil))))))
      (pss_one (ps_ret (pe_callTy (T := "tuple") (k_tupOf (K := K) rfl) (by rfl) TX.b_tuple (by decide +kernel) (pa_cons (pv 2) pa_nil)))))))), ?_⟩
    refine ⟨.ref a, rfl, a, t, rfl, hS, hz, true, rfl, iteF ⟨sz60 (by simp), fun p0 n0 => ⟨sz60 (by simp), fun r nr => ?_⟩⟩⟩
    have s0 : Same H (upd H p0 (.tup [])) := same_upd n0
    have s1 : Same (upd H p0 (.tup [])) (upd (upd H p0 (.tup [])) r (.lst [])) := same_upd nr
    have nr0 : H r = none := s0.free nr
    refine ⟨.ref a, rfl, a, _, rfl, Same.tup (s0.trans s1) hS, for_it walk_enumT (fun i σ H' => ∃ p y3 y4 acc, σ = [some (.ref a), some (.ref p), some (.ref r), y3, y4] ∧ Same H H' ∧ Dp K H' (.ref p) (dStk ((pre t i).stk 0)) ∧ H' r = some (.lst acc) ∧ DpAll K H' acc ((dStacks t).take i))
      ⟨p0, none, none, [], rfl, s0.trans s1, .tup (Same.tup s1 (.inl (.inl upd_same))) .nil, upd_same, .nil⟩ (fun i σ H' _ ⟨_, _, _, _, _, h, _⟩ => Same.tup h hS) ?_ ?_⟩
    · rintro i x σ H1 H2 hi ⟨p, y3, y4, acc, rfl, sm, hp, hr', hA⟩ hy
      obtain ⟨Tp, x1, x2, rfl, nT, rfl, e1, e2⟩ := hy
      cases e1
      have hi' : i < t.sch.length := by rw [vi_len] at hi; exact hi
      have hm := List.getElem?_eq_getElem hi'
      replace e2 : (vi t.sch)[i]? = some x2 := e2
      rw [vi_get hm] at e2
      cases e2
      have hi2 : i < t.size := by rw [← T.sch_len]; exact hi'
      obtain ⟨f1, f2⟩ := pre_succ hm
      have sT : Same H1 (upd H1 Tp (.tup [.int (i : Nat), .int (t.sch[i] : Int)])) := same_upd nT
      refine ⟨Tp, _, rfl, .inl (.inl upd_same), rfl, _, _, rfl, _, [], rfl, rfl, ?_⟩
      refine ⟨.ref p, rfl, .int (i : Nat), rfl, .int (t.sch[i] : Int), rfl, p, pre t i, t.sch[i], ?_, Dp.same sT hp, f2, by rw [pre_size (by omega)]; omega, fun H3 p3 s3 h3 => ?_⟩
      · rw [pre_size (by omega)]; rfl
      · rw [← f1] at h3
        have hr3 := s3 _ _ (sT _ _ hr')
        have hlA := DpAll.len hA
        rw [List.length_take, dStacks_len] at hlA
        refine ⟨.ref r, rfl, .inl ⟨rfl, _, .inl (.inl hr3)⟩, .ref p3, rfl, r, _, _, rfl, rfl, hr3, sz61 (by omega), ?_⟩
        have kp : Keep K H3 (upd H3 r (.lst (acc ++ [.ref p3]))) := But.keep But.upd hr3
        refine ⟨p3, some (.int (i : Nat)), some (.int (t.sch[i] : Int)), acc ++ [.ref p3], rfl, Same.mut ((sm.trans sT).trans s3) nr0, Dp.keep kp (tf_stk _) h3, upd_same, ?_⟩
        rw [dStacks_take hi2]
        refine DpAll.keep kp (fun d h => ?_) (DpAll.append (DpAll.same (sT.trans s3) hA) (.cons h3 .nil))
        rw [← dStacks_take hi2] at h
        exact tf_stacks t d (List.mem_of_mem_take h)
    · rintro σ H' ⟨p, y3, y4, acc, rfl, sm, hp, hr', hA⟩
      rw [hlen, List.take_of_length_le (by rw [dStacks_len]; omega)] at hA
      refine ⟨.ref r, rfl, r, acc, rfl, .inl ⟨.inl (.inl hr'), fun l nl => ?_⟩⟩
      exact q _ l (sm.trans (same_upd nl)) (.tup (.inl (.inl upd_same)) (DpAll.same (same_upd nl) hA))
end
section
variable {P : Program} {w : World} {K : PySem.W.Frag} {mg : Str → Option Value} {base : Heap}
def sp_writes (K : PySem.W.Frag) : Sp := fun vs H Q _ => ∃ (a : Addr) (t : T), vs = [.ref a] ∧ SqT K H a (vi t.sch) ∧ t.size ≤ 60 ∧ ∀ H' p, Same H H' → SqT K H' p (vi t.wr) → Q (.ref p) H'
theorem ok_writes (TX : Tx K mg) : FnOk P w K mg base CX0 6 TX.a_writes TX.fd_writes ["schedule"] (sp_writes K) := by
  refine TX.f_writes.ok sc_writes (fun vs H Q E h => ?_) (fun cdv A outer s H vs Q E hr h => ?_)
  · obtain ⟨a, t, rfl, _⟩ := h; rfl
  · obtain ⟨a, t, rfl, hS, hz, q⟩ := h
    refine ⟨_, (pss_cons (ps_set (i := 1) sc_writes.nd rfl (.inl rfl) (pe_call (ok_stacks TX) (hr.mono (by decide)) (by rfl) TX.g_stacks TX.f_stacks.kp TX.bd_stacks .nil pass0 (pa_cons (pv 0) pa_nil)))
      (pss_cons (ps_set (i := 2) sc_writes.nd rfl (.inl rfl) (pe_op op_rep (pe_lst (pa_cons pe_int pa_nil)) (pe_callB (id := "len") (k_len (K := K) rfl) (by rfl) TX.b_len (by decide +kernel) (pa_cons (pv 1) pa_nil))))
      (pss_cons (ps_for PassesOwn.never rfl (k_piT (K := K) rfl (pv 1)) (pg_name (i := 3) sc_writes.nd rfl (.inl rfl))
        (pss_cons (ps_asg (pe_ix (k_ixT (K := K) rfl) (pv 3) (pe_un un_neg pe_int) (fun _ _ => rfl)) (pg_tup rfl (pgs_cons (pg_name (i := 4) sc_writes.nd rfl (.inl rfl)) (pgs_cons (pg_name (i := 5) sc_writes.nd rfl (.inl rfl)) pgs_nil))))
        (pss_one (ps_for PassesOwn.never rfl (pi_range2 (by rfl) TX.b_range (pa_cons (pv 4) (pa_cons (pv 5) pa_nil))) (pg_name (i := 6) sc_writes.nd rfl (.inl rfl))
          (pss_one (ps_augS (pv 2) (pv 6) get_list pe_int ip_add set_list))))))
      (pss_one (ps_ret (pe_callTy (T := "tuple") (k_tupOf (K := K) rfl) (by rfl) TX.b_tuple (by decide +kernel) (pa_cons (pv 2) pa_nil))))))), ?_⟩
    refine ⟨.ref a, rfl, a, t, rfl, hS, hz, fun H1 p1 s1 h1 => ?_⟩
    obtain ⟨p1', xs, e, hX, hA⟩ := Dp.tupInv h1
    cases e
    have hl := DpAll.len hA
    rw [dStacks_len] at hl
    refine ⟨sz60 (by simp), fun z nz => ?_⟩
    have s2 : Same H1 (upd H1 z (.lst [.int 0])) := same_upd nz
    refine ⟨.ref p1, rfl, p1, xs, rfl, .inr (Same.tup s2 hX), z, _, _, rfl, rfl, upd_same, by omega, by omega, sz60 (by simp; omega), fun l nl => ?_⟩
    have s3 := same_upd (o := .lst (List.replicate ((xs.length : Int)).toNat [V.int 0]).flatten) nl
    have ec : (List.replicate ((xs.length : Int)).toNat [V.int 0]).flatten = vi (List.replicate t.size 0) := by
      rw [vi_rep, Int.toNat_natCast, hl, List.flatten_replicate_singleton]; rfl
    rw [ec] at s3 ⊢
    have hX3 := Same.tup (s2.trans s3) hX
    have hA3 := DpAll.same (s2.trans s3) hA
    have nl1 : H1 l = none := s2.free nl
    generalize hH3 : upd (upd H1 z (HO.lst [V.int 0])) l (HO.lst (vi (List.replicate t.size 0))) = H3 at s3 hX3 hA3 ⊢
    have hl3 : H3 l = some (.lst (vi (List.replicate t.size 0))) := by rw [← hH3]; exact upd_same
    have s13 : Same H1 H3 := s2.trans s3
    refine ⟨.ref p1, rfl, p1, rfl, ⟨_, hX3⟩, for_tup (K := K) (xs := xs) (fun i σ H' => ∃ y3 y4 y5 y6 c, σ = [some (.ref a), some (.ref p1), some (.ref l), y3, y4, y5, y6] ∧ Same H1 H' ∧ H' l = some (.lst (vi c)) ∧ c.length = t.size ∧ ∀ k, k < t.size → c[k]? = some ((pre t i).wr.getD k 0))
      ⟨none, none, none, none, List.replicate t.size 0, rfl, s13, hl3, by simp, fun k hk => by rw [List.getElem?_replicate, if_pos hk]; rfl⟩ (fun i σ H' _ ⟨_, _, _, _, _, _, h, _⟩ => Same.tup h hX) ?_ ?_⟩
    · rintro i x σ H4 hx ⟨y3, y4, y5, y6, c, rfl, s4, hc, hcl, hcv⟩
      have hi : i < t.size := by rw [← hl]; exact (List.getElem?_eq_some_iff.mp hx).1
      obtain ⟨m, hm⟩ : ∃ m, t.sch[i]? = some m := ⟨_, List.getElem?_eq_getElem (show i < t.sch.length by rw [T.sch_len]; exact hi)⟩
      obtain ⟨f1, f2⟩ := pre_succ hm
      have fs := T.start_le _ _ f2
      rw [pre_size (by omega)] at fs
      obtain ⟨v, g1, g2⟩ := DpAll.get (DpAll.same s4 hA) (dStacks_at hi)
      rw [hx] at g1
      cases g1
      obtain ⟨b, us, rfl, g3, g4⟩ := Dp.tupInv g2
      rw [stk_last hm, List.map_append] at g4
      obtain ⟨us', v', rfl, _, g5⟩ := DpAll.snoc g4
      obtain ⟨b', e5, g6⟩ := Dp.intsInv (ns := [((pre t i).start m : Int), ((i + 1 : Nat) : Int)]) g5
      cases e5
      refine ⟨.ref b, rfl, _, rfl, b, _, -1, _, rfl, rfl, g3, atI_last _ _, b', _, rfl, g6, rfl, _, _, rfl, _, [], rfl, rfl, ?_⟩
      refine ⟨_, rfl, _, rfl, _, _, rfl, ⟨by omega, by omega, by omega, by omega⟩, for_range (lo := ((pre t i).start m : Int)) (n := (((i + 1 : Nat) : Int) - ((pre t i).start m : Int)).toNat)
        (fun j σ H' => ∃ y6 c, σ = [some (.ref a), some (.ref p1), some (.ref l), some (.ref b), some (.int ((pre t i).start m : Int)), some (.int ((i + 1 : Nat) : Int)), y6] ∧ Same H1 H' ∧ H' l = some (.lst (vi c)) ∧ c.length = t.size ∧ ∀ k, k < t.size → c[k]? = some (if (pre t i).start m ≤ k ∧ k < (pre t i).start m + j then (pre t i).wr.getD k 0 + 1 else (pre t i).wr.getD k 0))
        ⟨y6, c, rfl, s4, hc, hcl, fun k hk => by rw [if_neg (by omega)]; exact hcv k hk⟩ ?_ ?_⟩
      · rintro j σ H5 hj ⟨y6, c, rfl, s5, hc, hcl, hcv⟩
        have hj2 : (pre t i).start m + j < t.size := by omega
        have e1 : ((pre t i).start m : Int) + (j : Int) = (((pre t i).start m + j : Nat) : Int) := by omega
        have h6 := hcv _ hj2
        rw [if_neg (by omega)] at h6
        rw [e1]
        refine ⟨.ref l, rfl, _, rfl, l, _, _, _, rfl, rfl, .inl (.inl hc), at_vi h6, _, _, rfl, rfl, l, _, _, _, rfl, rfl, hc, ixN_of (by rw [vi_len]; omega), ?_⟩
        have e2 : (((pre t i).wr.getD ((pre t i).start m + j) 0 : Nat) : Int) + 1 = (((pre t i).wr.getD ((pre t i).start m + j) 0 + 1 : Nat) : Int) := by omega
        refine ⟨_, c.set ((pre t i).start m + j) ((pre t i).wr.getD ((pre t i).start m + j) 0 + 1), rfl, Same.mut s5 nl1, ?_, by rw [List.length_set]; exact hcl, fun k hk => ?_⟩
        · rw [← vi_set, ← e2]; exact upd_same
        · by_cases hk2 : (pre t i).start m + j = k
          · rw [← hk2, List.getElem?_set_self (by omega), if_pos (by omega)]
          · rw [List.getElem?_set_ne hk2, hcv k hk]
            by_cases hk3 : (pre t i).start m ≤ k ∧ k < (pre t i).start m + j
            · rw [if_pos hk3, if_pos (by omega)]
            · rw [if_neg hk3, if_neg (by omega)]
      · rintro σ H5 ⟨y6, c, rfl, s5, hc, hcl, hcv⟩
        refine ⟨_, _, _, y6, c, rfl, s5, hc, hcl, fun k hk => ?_⟩
        rw [hcv k hk, f1, wr_step f2, pre_size (by omega)]
        by_cases hk3 : (pre t i).start m ≤ k ∧ k < i + 1
        · rw [if_pos (by omega), if_pos hk3]
        · rw [if_neg (by omega), if_neg hk3]
    · rintro σ H4 ⟨y3, y4, y5, y6, c, rfl, s4, hc, hcl, hcv⟩
      rw [hl, pre_all] at hcv
      have ecw : c = t.wr := list_by (by rw [hcl, T.wr_len]) fun k hk => hcv k (by omega)
      rw [ecw] at hc
      refine ⟨.ref l, rfl, l, _, rfl, .inl ⟨.inl (.inl hc), fun o no => ?_⟩⟩
      exact q _ o ((s1.trans s4).trans (same_upd no)) (.inl (.inl upd_same))
def sp_run_counts (K : PySem.W.Frag) : Sp := fun vs H Q _ => ∃ (a : Addr) (t : T), vs = [.ref a] ∧ SqT K H a (vi t.sch) ∧ t.size ≤ 60 ∧ ∀ H' p, Same H H' → SqT K H' p (vi t.rc) → Q (.ref p) H'
theorem ok_run_counts (TX : Tx K mg) : FnOk P w K mg base CX0 6 TX.a_run_counts TX.fd_run_counts ["schedule"] (sp_run_counts K) := by
  refine TX.f_run_counts.ok sc_run_counts (fun vs H Q E h => ?_) (fun cdv A outer s H vs Q E hr h => ?_)
  · obtain ⟨a, t, rfl, _⟩ := h; rfl
  · obtain ⟨a, t, rfl, hS, hz, q⟩ := h
    refine ⟨_, (pss_one (ps_ret (pe_callTy (T := "tuple") (k_tupOf (K := K) rfl) (by rfl) TX.b_tuple (by decide +kernel) (pa_cons (pe_lc (own := [("stack", 1)]) (by rfl) sc_run_counts.nd (k_piT (K := K) rfl (pe_call (ok_stacks TX) (hr.mono (by decide)) (by rfl) TX.g_stacks TX.f_stacks.kp TX.bd_stacks .nil pass0 (pa_cons (pv 0) pa_nil))) (blkOk_by (own := [("stack", 1)]) (N := N_run_counts) (sc := defScope s_run_counts) (by decide +kernel)) (fun _ _ _ _ _ => (pg_name (i := 1) sc_run_counts.nd rfl (Or.inl rfl))) (fun _ _ _ _ _ => pts_nil) (fun _ _ _ _ _ => (pe_callB (id := "len") (k_len (K := K) rfl) (by rfl) TX.b_len (by decide +kernel) (pa_cons (pv 1) pa_nil)))) pa_nil)))), ?_⟩
    refine ⟨.ref a, rfl, a, t, rfl, hS, hz, fun H1 p1 s1 h1 => ?_⟩
    obtain ⟨p1', xs, e, hX, hA⟩ := Dp.tupInv h1
    cases e
    have hl := DpAll.len hA
    rw [dStacks_len] at hl
    refine ⟨p1, rfl, ⟨_, hX⟩, fun D nD => lc_all (K := K) walk_tup ((ci t.rc).map PyData.int) (by rw [List.length_map, ci, List.length_map, T.rc_len, hl]) (tf_ints _) (by omega) nD (fun H' s' => Same.tup s' hX) ?_ ?_ (fun x σ' H' Q Q' h => h _ _) (fun σ' H' Q Q' h => h _ _)⟩
    · rintro i x H2 H2' hi s2 ⟨rfl, hx⟩ d hd R hR
      have hi2 : i < t.size := by omega
      obtain ⟨v, g1, g2⟩ := DpAll.get (DpAll.same s2 hA) (dStacks_at hi2)
      rw [hx] at g1
      cases g1
      obtain ⟨b, us, rfl, g3, g4⟩ := Dp.tupInv g2
      have hl4 := DpAll.len g4
      rw [List.length_map, T.stk_len] at hl4
      refine ⟨rfl, rfl, .ref b, rfl, b, us, rfl, .inr g3, hR _ _ (Same.refl _) ?_⟩
      have e := pre_runs hi2
      rw [List.getElem?_map, ci, List.getElem?_map, e] at hd
      cases hd
      rw [hl4]
      exact .int _
    · intro H2 acc s2 ha hAcc
      rw [dp_ints_inv hAcc] at ha
      refine ⟨D, _, rfl, .inl ⟨.inl (.inl ha), fun o no => ?_⟩⟩
      refine q _ o ((s1.trans s2).trans (same_upd no)) (.inl (.inl ?_))
      rw [vi_ci]; exact upd_same
end
section
variable {P : Program} {w : World} {K : PySem.W.Frag} {mg : Str → Option Value} {base : Heap}
def sp_runs_at_end (K : PySem.W.Frag) : Sp := fun vs H Q _ => ∃ (a : Addr) (t : T), vs = [.ref a] ∧ SqT K H a (vi t.sch) ∧ t.size ≤ 1000 ∧ Q (.int (t.runs : Int)) H
theorem ok_runs_at_end (TX : Tx K mg) : FnOk P w K mg base CX0 1 TX.a_runs_at_end TX.fd_runs_at_end ["schedule"] (sp_runs_at_end K) := by
  refine TX.f_runs_at_end.ok sc_runs_at_end (fun vs H Q E h => ?_) (fun cdv A outer s H vs Q E hr h => ?_)
  · obtain ⟨a, t, rfl, _⟩ := h; rfl
  · obtain ⟨a, t, rfl, hS, hz, q⟩ := h
    refine ⟨_, (pss_one (ps_ret (pe_op op_sub (pe_callB (id := "len") (k_len (K := K) rfl) (by rfl) TX.b_len (by decide +kernel) (pa_cons (pv 0) pa_nil)) (pe_callB (id := "sum") (k_sumT (K := K) rfl rfl) (by rfl) TX.b_sum (by decide +kernel) (pa_cons (pv 0) pa_nil))))), ?_⟩
    refine ⟨.ref a, rfl, a, _, rfl, .inr hS, .ref a, rfl, a, ci t.sch, rfl, by rw [← vi_ci]; exact hS, _, _, rfl, rfl, ?_⟩
    have e : ((vi t.sch).length : Int) - (ci t.sch).sum = (t.runs : Int) := by
      have h1 := T.sum_sch t
      have h2 : (ci t.sch).sum = ((t.sch.sum : Nat) : Int) := by
        unfold ci
        induction t.sch with
        | nil => rfl
        | cons x xs ih => simp only [List.map_cons, List.sum_cons, ih, Int.natCast_add]
      rw [vi_len, T.sch_len, h2]
      omega
    show Q (V.int (((vi t.sch).length : Int) - (ci t.sch).sum)) H
    rw [e]
    exact q
end
def dIt (x : Nat × T × Nat × Int) : PyData := .tuple [.int (x.1 : Int), .int ((x.1 + x.2.1.size : Nat) : Int), .int (x.2.2.1 : Int), .int x.2.2.2]
theorem tf_it (x : Nat × T × Nat × Int) : Tf (dIt x) := .tup (tf_ints [(x.1 : Int), ((x.1 + x.2.1.size : Nat) : Int), (x.2.2.1 : Int), x.2.2.2])
theorem tf_its (L : List (Nat × T × Nat × Int)) : ∀ d, d ∈ L.map dIt → Tf d := fun d h => by
  obtain ⟨x, _, rfl⟩ := List.mem_map.mp h
  exact tf_it x
theorem snoc_cases {α : Type} (L : List α) : L = [] ∨ ∃ M x, L = M ++ [x] := by
  rcases List.eq_nil_or_concat L with h | ⟨M, x, h⟩
  · exact .inl h
  · exact .inr ⟨M, x, by rw [h, List.concat_eq_append]⟩
theorem int_list_by {c d : List Int} (h : ∀ k, k < d.length → c[k]? = d[k]?) (hl : c.length = d.length) : c = d := by
  refine List.ext_getElem? fun k => ?_
  by_cases hk : k < d.length
  · exact h k hk
  · rw [List.getElem?_eq_none (by omega), List.getElem?_eq_none (by omega)]
def TreeInv (K : PySem.W.Frag) (t : T) (H1 : Hp) (a p1 l w : Addr) (m : Nat) (σ : L2.St) (H' : Hp) : Prop :=
  ∃ (y4 y5 y6 y7 y8 y9 : Option V) (WL : List (Nat × T × Nat × Int)) (acc : List V) (c : List Int), σ = [some (.ref a), some (.ref p1), some (.ref l), some (.ref w), y4, y5, y6, y7, y8, y9] ∧ m = todo WL ∧ Same H1 H' ∧ H' l = some (.lst (c.map V.int)) ∧ c.length = t.size ∧ H' w = some (.lst acc) ∧ DpAll K H' acc (WL.map dIt) ∧
    (∀ x, x ∈ WL → Sub t x.1 x.2.1 x.2.2.1 x.2.2.2) ∧ (∀ k, k < t.size → (∀ x, x ∈ WL → ¬ (x.1 ≤ k ∧ k < x.1 + x.2.1.size)) → c[k]? = t.parOf[k]?) ∧ todo WL ≤ 2 * t.size + 1
section
variable {P : Program} {w : World} {K : PySem.W.Frag} {mg : Str → Option Value} {base : Heap}
def sp_tree_of (K : PySem.W.Frag) : Sp := fun vs H Q _ => ∃ (a : Addr) (t : T), vs = [.ref a] ∧ SqT K H a (vi t.sch) ∧ t.size ≤ 60 ∧ ∀ H' p o, Same H H' → H' p = some (.frz o (.tup (t.parOf.map V.int))) → o.dict = none → Q (.ref p) H'
theorem ok_tree_of (TX : Tx K mg) : FnOk P w K mg base CX0 7 TX.a_tree_of TX.fd_tree_of ["schedule"] (sp_tree_of K) := by
  refine TX.f_tree_of.ok sc_tree_of (fun vs H Q E h => ?_) (fun cdv A outer s H vs Q E hr h => ?_)
  · obtain ⟨a, t, rfl, _⟩ := h; rfl
  · obtain ⟨a, t, rfl, hS, hz, q⟩ := h
    refine ⟨_, (pss_cons (ps_set (i := 1) sc_tree_of.nd rfl (.inr rfl) (pe_call (ok_run_counts TX) (hr.mono (by decide)) (by rfl) TX.g_run_counts TX.f_run_counts.kp TX.bd_run_counts .nil pass0 (pa_cons (pv 0) pa_nil)))
      (pss_cons (ps_set (i := 2) sc_tree_of.nd rfl (.inl rfl) (pe_op op_rep (pe_lst (pa_cons (pe_glob (v := .int (-1)) (by rfl) TX.c_NO_PARENT ⟨_, rfl⟩) pa_nil)) (pe_callB (id := "len") (k_len (K := K) rfl) (by rfl) TX.b_len (by decide +kernel) (pa_cons (pv 1) pa_nil))))
      (pss_cons (ps_set (i := 3) sc_tree_of.nd rfl (.inl rfl) (pe_lst (pa_cons (pe_tup (pa_cons pe_int (pa_cons (pe_callB (id := "len") (k_len (K := K) rfl) (by rfl) TX.b_len (by decide +kernel) (pa_cons (pv 1) pa_nil)) (pa_cons pe_int (pa_cons (pe_glob (v := .int (-1)) (by rfl) TX.c_NO_PARENT ⟨_, rfl⟩) pa_nil))))) pa_nil)))
      (pss_cons (ps_while PassesOwn.never (pt_truth (pv 3) (by intro _; rfl))
        (pss_cons (ps_asg (pe_bm0 PySem.F.plainAttrs_list PySem.F.slot_list_pop PySem.F.type_list_pop mt_pop (pv 3)) (pg_tup rfl (pgs_cons (pg_name (i := 4) sc_tree_of.nd rfl (.inl rfl)) (pgs_cons (pg_name (i := 5) sc_tree_of.nd rfl (.inl rfl)) (pgs_cons (pg_name (i := 6) sc_tree_of.nd rfl (.inr rfl)) (pgs_cons (pg_name (i := 7) sc_tree_of.nd rfl (.inl rfl)) pgs_nil))))))
        (pss_cons (ps_if (pt_cmpR op_eq (pv 4) (pv 5) (nomark _))
          (pss_one ps_continue)
          pss_nil)
        (pss_cons (ps_set (i := 8) sc_tree_of.nd rfl (.inl rfl) (pe_callB (id := "max") (cr_max rfl) (by rfl) TX.b_max (by decide +kernel) (pa_cons (pe_lc (own := [("flush", 9)]) (by rfl) sc_tree_of.nd (pi_range2 (by rfl) TX.b_range (pa_cons (pv 4) (pa_cons (pv 5) pa_nil))) (blkOk_by (own := [("flush", 9)]) (N := N_tree_of) (sc := defScope s_tree_of) (by decide +kernel)) (fun _ _ _ _ _ => (pg_name (i := 9) sc_tree_of.nd rfl (Or.inl rfl))) (fun _ _ _ _ _ => (pts_one (pt_cmpR op_eq (pe_ix (k_ixT (K := K) rfl) (pv 1) (pv 9) (fun _ _ => rfl)) (pv 6) (nomark _)))) (fun _ _ _ _ _ => (pv 9))) pa_nil)))
        (pss_cons (ps_asg (pv 7) (pg_sub (pv 2) (pv 8) set_list))
        (pss_cons (ps_expr (pe_bm PySem.F.plainAttrs_list PySem.F.slot_list_append PySem.F.type_list_append mt_append (pv 3) (pa_cons (pe_tup (pa_cons (pv 4) (pa_cons (pv 8) (pa_cons (pv 6) (pa_cons (pv 8) pa_nil))))) pa_nil)))
        (pss_one (ps_expr (pe_bm PySem.F.plainAttrs_list PySem.F.slot_list_append PySem.F.type_list_append mt_append (pv 3) (pa_cons (pe_tup (pa_cons (pe_op op_add (pv 8) pe_int) (pa_cons (pv 5) (pa_cons (pe_op op_add (pv 6) pe_int) (pa_cons (pv 8) pa_nil))))) pa_nil))))))))))
      (pss_one (ps_ret (pe_callTy (T := "tuple") (k_tupOfZ (K := K) rfl) (by rfl) TX.b_tuple (by decide +kernel) (pa_cons (pv 2) pa_nil)))))))), ?_⟩
    refine ⟨.ref a, rfl, a, t, rfl, hS, hz, fun H1 p1 s1 h1 => ?_⟩
    have hl : (vi t.rc).length = t.size := by rw [vi_len, T.rc_len]
    refine ⟨sz60 (by simp), fun z nz => ?_⟩
    have s2 : Same H1 (upd H1 z (.lst [.int (-1)])) := same_upd nz
    refine ⟨.ref p1, rfl, p1, _, rfl, .inr (Same.tup s2 h1), z, _, _, rfl, rfl, upd_same, by omega, by omega, sz60 (by simp; omega), fun l nl => ?_⟩
    have s3 := same_upd (o := .lst (List.replicate (((vi t.rc).length : Int)).toNat [V.int (-1)]).flatten) nl
    have ec : (List.replicate (((vi t.rc).length : Int)).toNat [V.int (-1)]).flatten = (List.replicate t.size (-1 : Int)).map V.int := by
      rw [Int.toNat_natCast, hl, List.flatten_replicate_singleton, List.map_replicate]
    rw [ec] at s3 ⊢
    have nl1 : H1 l = none := s2.free nl
    generalize hH3 : upd (upd H1 z (HO.lst [V.int (-1)])) l (HO.lst ((List.replicate t.size (-1 : Int)).map V.int)) = H3 at s3 ⊢
    have hl3 : H3 l = some (.lst ((List.replicate t.size (-1 : Int)).map V.int)) := by rw [← hH3]; exact upd_same
    have s13 : Same H1 H3 := s2.trans s3
    have h13 := Same.tup s13 h1
    refine ⟨.ref p1, rfl, p1, _, rfl, .inr h13, sz60 (by simp), fun u nu => ⟨sz60 (by simp), fun w nw => ?_⟩⟩
    have s4 := same_upd (o := .tup [.int 0, .int ((vi t.rc).length : Int), .int 1, .int (-1)]) nu
    have s5 := same_upd (o := .lst [.ref u]) nw
    have nw1 : H1 w = none := s13.free (s4.free nw)
    have nwl : w ≠ l := fun e => by
      have := s4.free nw
      rw [e, hl3] at this; cases this
    refine ⟨TreeInv K t H1 a p1 l w, ⟨_, none, none, none, none, none, none, [(0, t, 1, -1)], [.ref u], List.replicate t.size (-1 : Int), rfl, rfl, (s13.trans s4).trans s5, s5 _ _ (s4 _ _ hl3), by simp, upd_same, ?_, ?_, ?_, ?_⟩, ?_⟩
    · refine .cons (.tup (Same.tup s5 (.inl (.inl upd_same))) ?_) .nil
      rw [hl]
      have := dp_ints (K := K) (H := upd (upd H3 u (.tup [.int 0, .int (t.size : Int), .int 1, .int (-1)])) w (.lst [.ref u])) [0, (t.size : Int), 1, -1]
      simpa using this
    · intro x hx
      have e : x = (0, t, 1, -1) := by simpa using hx
      rw [e]; exact .root
    · intro k hk h
      exact absurd ⟨Nat.zero_le _, by simpa using hk⟩ (h (0, t, 1, -1) (by simp))
    · simp [todo]
    · rintro m σ H4 ⟨y4, y5, y6, y7, y8, y9, WL, acc, c, rfl, rfl, sm, hc, hcl, hw, hA, hSub, hDone, hlen⟩
      refine ⟨.ref w, rfl, _, .inl ⟨acc, .inl (.inl hw), rfl⟩, ?_⟩
      rcases snoc_cases WL with rfl | ⟨WL, x, rfl⟩
      · -- the end
        cases hA
        refine iteF ?_
        have e : c = t.parOf := int_list_by (fun k hk => hDone k (by rw [T.parOf, T.par_len] at hk; exact hk) (fun x hx => by cases hx)) (by rw [hcl, T.parOf, T.par_len])
        rw [e] at hc
        refine ⟨.ref l, rfl, l, _, rfl, .inl (.inl hc), fun o ob no hd => ?_⟩
        exact q _ o ob ((s1.trans sm).trans (same_upd no)) upd_same hd
      · rw [List.map_append] at hA
        obtain ⟨us, v, rfl, hA1, hv⟩ := DpAll.snoc hA
        have hus := DpAll.len hA1
        rw [List.length_map] at hus
        obtain ⟨off, sb, k, p⟩ := x
        have hsub : Sub t off sb k p := hSub (off, sb, k, p) (by simp)
        have hsl := sub_le hsub
        obtain ⟨b, e, hb⟩ := Dp.intsInv (ns := [(off : Int), ((off + sb.size : Nat) : Int), (k : Int), p]) hv
        cases e
        have ne : (!(us ++ [V.ref b]).isEmpty) = true := by simp
        rw [ne]
        refine iteT ⟨fun σ' H' => ∃ m', m' < todo (WL ++ [(off, sb, k, p)]) ∧ TreeInv K t H1 a p1 l w m' σ' H', fun σ' H' h => h, ?_⟩
        have kp : Keep K H4 (upd H4 w (.lst us)) := But.keep But.upd hw
        have hdl : (us ++ [V.ref b]).dropLast = us := by simp
        refine ⟨.ref w, rfl, .inl ⟨rfl, _, .inl (.inl hw)⟩, w, _, .ref b, rfl, rfl, hw, by simp, ?_⟩
        rw [hdl]
        have sm5 : Same H1 (upd H4 w (.lst us)) := Same.mut sm nw1
        have hc5 : (upd H4 w (.lst us)) l = some (.lst (c.map V.int)) := by rw [upd_ne nwl.symm]; exact hc
        have hA5 := DpAll.keep kp (tf_its WL) hA1
        have hb5 := kp _ _ hb
        generalize hH5 : upd H4 w (.lst us) = H5 at kp sm5 hc5 hA5 hb5 ⊢
        have hw5 : H5 w = some (.lst us) := by rw [← hH5]; exact upd_same
        refine ⟨b, _, rfl, hb5, rfl, _, _, rfl, _, _, rfl, _, _, rfl, _, [], rfl, rfl, ?_⟩
        refine ⟨_, rfl, _, rfl, rfl, _, rfl, ite2 (fun e => ?_) (fun e => ?_)⟩
        · -- an empty interval
          have e0 : (off : Int) = ((off + sb.size : Nat) : Int) := V.int.inj (of_decide_eq_true e)
          have es : sb.size = 0 := by omega
          refine ⟨todo WL, by rw [todo_app]; simp [todo], _, _, _, _, _, _, WL, us, c, rfl, rfl, sm5, hc5, hcl, hw5, hA5, fun x hx => hSub x (List.mem_append_left _ hx), fun j hj h => hDone j hj fun x hx => ?_, ?_⟩
          · rcases List.mem_append.mp hx with hx | hx
            · exact h x hx
            · have e : x = (off, sb, k, p) := by simpa using hx
              rw [e]; show ¬ (off ≤ j ∧ j < off + sb.size); omega
          · rw [todo_app] at hlen; simp [todo] at hlen; omega
        · have es : sb.size ≠ 0 := fun z => e (decide_eq_true (by rw [z]; rfl))
          cases sb with
          | nil => exact absurd rfl es
          | node lf rt =>
            have hsz : (T.node lf rt).size = lf.size + 1 + rt.size := rfl
            have nn : (((off + (T.node lf rt).size : Nat) : Int) - (off : Int)).toNat = (T.node lf rt).size := by omega
            -- root = max([..])
            refine ⟨_, rfl, _, rfl, _, _, rfl, ⟨by omega, by omega, by omega, by omega⟩, fun D nD => ?_⟩
            rw [nn]
            refine lc_fil (lo := (off : Int)) (j := 9) (fun i => decide (V.int ((t.rc.getD (off + i) 0 : Nat) : Int) = V.int (k : Int))) (by omega) nD (fun x => rfl) (fun x => rfl) (fun i H6 Q6 hi s6 q6 => ?_) (fun H6 s6 hD6 => ?_)
            · have ea : (t.rc)[off + i]? = some (t.rc.getD (off + i) 0) := by
                rw [List.getD_eq_getElem?_getD, List.getElem?_eq_getElem (by rw [T.rc_len]; omega)]; rfl
              have ei : (off : Int) + (i : Nat) = ((off + i : Nat) : Int) := by omega
              rw [ei]
              exact ⟨.ref p1, rfl, _, rfl, p1, _, _, _, rfl, rfl, Same.tup (sm5.trans s6) h1, at_vi ea, _, rfl, rfl, _, rfl, q6⟩
            · have em : ((List.range (T.node lf rt).size).filter fun i => decide (V.int ((t.rc.getD (off + i) 0 : Nat) : Int) = V.int (k : Int))).map (fun (i : Nat) => V.int ((off : Int) + (i : Nat))) = (((List.range (T.node lf rt).size).filter fun i => decide (V.int ((t.rc.getD (off + i) 0 : Nat) : Int) = V.int (k : Int))).map (fun (i : Nat) => (off : Int) + (i : Nat))).map V.int := by rw [List.map_map]; rfl
              rw [em] at hD6
              have fT : ∀ i, i < (T.node lf rt).size → (decide (V.int ((t.rc.getD (off + i) 0 : Nat) : Int) = V.int (k : Int)) = true ↔ (T.node lf rt).rc[i]? = some 1) := fun i hi => by
                obtain ⟨v, hv1, hv2⟩ := sub_rc_at hsub hi
                have hv3 := rc_pos _ _ _ hv1
                rw [List.getD_eq_getElem?_getD, hv2, decide_eq_true_iff]
                constructor
                · intro h
                  have h2 := V.int.inj h
                  simp only [Option.getD_some] at h2
                  rw [hv1]; congr 1; omega
                · intro h
                  rw [hv1] at h
                  cases h
                  simp only [Option.getD_some]
                  congr 1
                  omega
              have hroot : (off : Int) + (lf.size : Nat) ∈ ((List.range (T.node lf rt).size).filter fun i => decide (V.int ((t.rc.getD (off + i) 0 : Nat) : Int) = V.int (k : Int))).map (fun (i : Nat) => (off : Int) + (i : Nat)) :=
                List.mem_map.mpr ⟨lf.size, List.mem_filter.mpr ⟨List.mem_range.mpr (by omega), (fT _ (by omega)).mpr (rc_root lf rt)⟩, rfl⟩
              refine ⟨D, _, rfl, .inl (.inl hD6), List.length_pos_of_mem hroot, fun mx hmx hle => ?_⟩
              have emx : mx = ((off + lf.size : Nat) : Int) := by
                obtain ⟨i, hi, rfl⟩ := List.mem_map.mp hmx
                obtain ⟨hi1, hi2⟩ := List.mem_filter.mp hi
                have hi3 := rc_one ((fT i (List.mem_range.mp hi1)).mp hi2)
                have := hle _ hroot
                omega
              subst emx
              have hc6 := s6 _ _ hc5
              have hw6 := s6 _ _ hw5
              have hA6 := DpAll.same s6 hA5
              have sm6 := sm5.trans s6
              -- parents[root] = parent
              refine ⟨_, rfl, .ref l, rfl, _, rfl, l, _, _, off + lf.size, rfl, rfl, hc6, ixN_of (by rw [List.length_map, hcl]; omega), ?_⟩
              have ecs : ((c.map V.int).set (off + lf.size) (V.int p)) = (c.set (off + lf.size) p).map V.int := by rw [List.map_set]
              rw [ecs]
              have kp7 : Keep K H6 (upd H6 l (.lst ((c.set (off + lf.size) p).map V.int))) := But.keep But.upd hc6
              have sm7 : Same H1 (upd H6 l (.lst ((c.set (off + lf.size) p).map V.int))) := Same.mut sm6 nl1
              have hA7 := DpAll.keep kp7 (tf_its WL) hA6
              have hw7 : (upd H6 l (.lst ((c.set (off + lf.size) p).map V.int))) w = some (.lst us) := by rw [upd_ne nwl]; exact hw6
              generalize hH7 : upd H6 l (.lst ((c.set (off + lf.size) p).map V.int)) = H7 at kp7 sm7 hA7 hw7 ⊢
              have hc7 : H7 l = some (.lst ((c.set (off + lf.size) p).map V.int)) := by rw [← hH7]; exact upd_same
              have hlw : WL.length ≤ 300 := by
                have := len_todo WL
                rw [todo_app] at hlen; omega
              -- the left subtree
              refine ⟨.ref w, rfl, .inl ⟨rfl, _, .inl (.inl hw7)⟩, _, rfl, _, rfl, _, rfl, _, rfl, sz60 (by simp), fun u1 nu1 => ?_⟩
              have s8 := same_upd (o := .tup [V.int (off : Int), V.int ((off + lf.size : Nat) : Int), V.int (k : Int), V.int ((off + lf.size : Nat) : Int)]) nu1
              have hw8 := s8 _ _ hw7
              refine ⟨w, _, _, rfl, rfl, hw8, sz61 (by omega), ?_⟩
              have hu8 : Dp K (upd H7 u1 (.tup [V.int (off : Int), V.int ((off + lf.size : Nat) : Int), V.int (k : Int), V.int ((off + lf.size : Nat) : Int)])) (.ref u1) (dIt (off, lf, k, ((off + lf.size : Nat) : Int))) :=
                .tup (.inl (.inl upd_same)) (dp_ints [(off : Int), ((off + lf.size : Nat) : Int), (k : Int), ((off + lf.size : Nat) : Int)])
              have hA8 : DpAll K (upd H7 u1 (.tup [V.int (off : Int), V.int ((off + lf.size : Nat) : Int), V.int (k : Int), V.int ((off + lf.size : Nat) : Int)])) (us ++ [.ref u1]) ((WL ++ [(off, lf, k, ((off + lf.size : Nat) : Int))]).map dIt) := by
                rw [List.map_append]; exact DpAll.append (DpAll.same s8 hA7) (.cons hu8 .nil)
              have hc8 := s8 _ _ hc7
              have sm8 := sm7.trans s8
              generalize upd H7 u1 (.tup [V.int (off : Int), V.int ((off + lf.size : Nat) : Int), V.int (k : Int), V.int ((off + lf.size : Nat) : Int)]) = H8 at s8 hw8 hA8 hc8 sm8 ⊢
              have kp9 : Keep K H8 (upd H8 w (.lst (us ++ [.ref u1]))) := But.keep But.upd hw8
              have sm9 : Same H1 (upd H8 w (.lst (us ++ [.ref u1]))) := Same.mut sm8 nw1
              have hA9 := DpAll.keep kp9 (tf_its _) hA8
              have hc9 : (upd H8 w (.lst (us ++ [.ref u1]))) l = some (.lst ((c.set (off + lf.size) p).map V.int)) := by rw [upd_ne nwl.symm]; exact hc8
              have hw9 : (upd H8 w (.lst (us ++ [.ref u1]))) w = some (.lst (us ++ [.ref u1])) := upd_same
              generalize upd H8 w (.lst (us ++ [.ref u1])) = H9 at kp9 sm9 hA9 hc9 hw9 ⊢
              -- the right subtree
              refine ⟨.ref w, rfl, .inl ⟨rfl, _, .inl (.inl hw9)⟩, _, rfl, _, _, rfl, rfl, _, rfl, _, rfl, _, _, rfl, rfl, _, rfl, sz60 (by simp), fun u2 nu2 => ?_⟩
              have s10 := same_upd (o := .tup [V.int (((off + lf.size : Nat) : Int) + 1), V.int ((off + (T.node lf rt).size : Nat) : Int), V.int ((k : Int) + 1), V.int ((off + lf.size : Nat) : Int)]) nu2
              have hw10 := s10 _ _ hw9
              refine ⟨w, _, _, rfl, rfl, hw10, sz61 (by simp; omega), ?_⟩
              have hu10 : Dp K (upd H9 u2 (.tup [V.int (((off + lf.size : Nat) : Int) + 1), V.int ((off + (T.node lf rt).size : Nat) : Int), V.int ((k : Int) + 1), V.int ((off + lf.size : Nat) : Int)])) (.ref u2) (dIt (off + lf.size + 1, rt, k + 1, ((off + lf.size : Nat) : Int))) := by
                refine .tup (.inl (.inl upd_same)) ?_
                have := dp_ints (K := K) (H := upd H9 u2 (.tup [V.int (((off + lf.size : Nat) : Int) + 1), V.int ((off + (T.node lf rt).size : Nat) : Int), V.int ((k : Int) + 1), V.int ((off + lf.size : Nat) : Int)])) [((off + lf.size : Nat) : Int) + 1, ((off + (T.node lf rt).size : Nat) : Int), (k : Int) + 1, ((off + lf.size : Nat) : Int)]
                have e1 : ((off + lf.size : Nat) : Int) + 1 = ((off + lf.size + 1 : Nat) : Int) := by omega
                have e2 : off + (T.node lf rt).size = off + lf.size + 1 + rt.size := by rw [hsz]; omega
                rw [e1, e2] at this ⊢
                exact this
              have hA10 : DpAll K (upd H9 u2 (.tup [V.int (((off + lf.size : Nat) : Int) + 1), V.int ((off + (T.node lf rt).size : Nat) : Int), V.int ((k : Int) + 1), V.int ((off + lf.size : Nat) : Int)])) ((us ++ [.ref u1]) ++ [.ref u2]) (((WL ++ [(off, lf, k, ((off + lf.size : Nat) : Int))]) ++ [(off + lf.size + 1, rt, k + 1, ((off + lf.size : Nat) : Int))]).map dIt) := by
                rw [List.map_append]; exact DpAll.append (DpAll.same s10 hA9) (.cons hu10 .nil)
              have hc10 := s10 _ _ hc9
              have sm10 := sm9.trans s10
              generalize upd H9 u2 (.tup [V.int (((off + lf.size : Nat) : Int) + 1), V.int ((off + (T.node lf rt).size : Nat) : Int), V.int ((k : Int) + 1), V.int ((off + lf.size : Nat) : Int)]) = H10 at s10 hw10 hA10 hc10 sm10 ⊢
              have kp11 : Keep K H10 (upd H10 w (.lst ((us ++ [.ref u1]) ++ [.ref u2]))) := But.keep But.upd hw10
              refine ⟨_, ?_, _, _, _, _, _, _, (WL ++ [(off, lf, k, ((off + lf.size : Nat) : Int))]) ++ [(off + lf.size + 1, rt, k + 1, ((off + lf.size : Nat) : Int))], (us ++ [.ref u1]) ++ [.ref u2], c.set (off + lf.size) p, rfl, rfl, Same.mut sm10 nw1, ?_, by rw [List.length_set]; exact hcl, upd_same, DpAll.keep kp11 (tf_its _) hA10, fun x hx => ?_, fun j hj h => ?_, ?_⟩
              · simp only [todo_app, todo, hsz]; omega
              · rw [upd_ne nwl.symm]; exact hc10
              · rcases List.mem_append.mp hx with hx | hx
                · rcases List.mem_append.mp hx with hx | hx
                  · exact hSub x (List.mem_append_left _ hx)
                  · have e : x = (off, lf, k, ((off + lf.size : Nat) : Int)) := by simpa using hx
                    rw [e]; exact .left hsub
                · have e : x = (off + lf.size + 1, rt, k + 1, ((off + lf.size : Nat) : Int)) := by simpa using hx
                  rw [e]; exact .right hsub
              · by_cases ej : off + lf.size = j
                · rw [← ej, List.getElem?_set_self (by omega), sub_root hsub]
                · rw [List.getElem?_set_ne ej]
                  refine hDone j hj fun x hx => ?_
                  rcases List.mem_append.mp hx with hx | hx
                  · exact h x (List.mem_append_left _ (List.mem_append_left _ hx))
                  · have e : x = (off, T.node lf rt, k, p) := by simpa using hx
                    rw [e]
                    show ¬ (off ≤ j ∧ j < off + (T.node lf rt).size)
                    have a1 : ¬ (off ≤ j ∧ j < off + lf.size) := h (off, lf, k, ((off + lf.size : Nat) : Int)) (by simp)
                    have a2 : ¬ (off + lf.size + 1 ≤ j ∧ j < off + lf.size + 1 + rt.size) := h (off + lf.size + 1, rt, k + 1, ((off + lf.size : Nat) : Int)) (by simp)
                    omega
              · simp only [todo_app, todo, hsz] at hlen ⊢; omega
end
def dI3 (x : Nat × T × Nat × Int) : PyData := .tuple [.int (x.1 : Int), .int ((x.1 + x.2.1.size : Nat) : Int), .int x.2.2.2]
theorem tf_i3 (L : List (Nat × T × Nat × Int)) : ∀ d, d ∈ L.map dI3 → Tf d := fun d h => by
  obtain ⟨x, _, rfl⟩ := List.mem_map.mp h
  exact .tup (tf_ints [(x.1 : Int), ((x.1 + x.2.1.size : Nat) : Int), x.2.2.2])
def NumInv (K : PySem.W.Frag) (t : T) (H1 : Hp) (a w : Addr) (m : Nat) (σ : L2.St) (H' : Hp) : Prop :=
  ∃ (y2 y3 y4 y5 y6 y7 : Option V) (WL : List (Nat × T × Nat × Int)) (acc : List V), σ = [some (.ref a), some (.ref w), y2, y3, y4, y5, y6, y7] ∧ m = todo WL ∧ Same H1 H' ∧ H' w = some (.lst acc) ∧ DpAll K H' acc (WL.map dI3) ∧
    (∀ x, x ∈ WL → Sub t x.1 x.2.1 x.2.2.1 x.2.2.2) ∧ todo WL ≤ 2 * t.size + 1
theorem parOf_len (t : T) : t.parOf.length = t.size := T.par_len t 0 (-1)
section
variable {P : Program} {w : World} {K : PySem.W.Frag} {mg : Str → Option Value} {base : Heap}
def sp_is_numbered_in_order (K : PySem.W.Frag) : Sp := fun vs H Q _ => ∃ (a : Addr) (t : T), vs = [.ref a] ∧ SqT K H a (t.parOf.map V.int) ∧ t.size ≤ 60 ∧ ∀ H', Same H H' → Q (.bl true) H'
theorem ok_is_numbered_in_order (TX : Tx K mg) : FnOk P w K mg base CX0 1 TX.a_is_numbered_in_order TX.fd_is_numbered_in_order ["parents"] (sp_is_numbered_in_order K) := by
  refine TX.f_is_numbered_in_order.ok sc_is_numbered_in_order (fun vs H Q E h => ?_) (fun cdv A outer s H vs Q E hr h => ?_)
  · obtain ⟨a, t, rfl, _⟩ := h; rfl
  · obtain ⟨a, t, rfl, hS, hz, q⟩ := h
    refine ⟨_, (pss_cons (ps_set (i := 1) sc_is_numbered_in_order.nd rfl (.inl rfl) (pe_lst (pa_cons (pe_tup (pa_cons pe_int (pa_cons (pe_callB (id := "len") (k_len (K := K) rfl) (by rfl) TX.b_len (by decide +kernel) (pa_cons (pv 0) pa_nil)) (pa_cons (pe_glob (v := .int (-1)) (by rfl) TX.c_NO_PARENT ⟨_, rfl⟩) pa_nil)))) pa_nil)))
      (pss_cons (ps_while PassesOwn.never (pt_truth (pv 1) (by intro _; rfl))
        (pss_cons (ps_asg (pe_bm0 PySem.F.plainAttrs_list PySem.F.slot_list_pop PySem.F.type_list_pop mt_pop (pv 1)) (pg_tup rfl (pgs_cons (pg_name (i := 2) sc_is_numbered_in_order.nd rfl (.inl rfl)) (pgs_cons (pg_name (i := 3) sc_is_numbered_in_order.nd rfl (.inl rfl)) (pgs_cons (pg_name (i := 4) sc_is_numbered_in_order.nd rfl (.inr rfl)) pgs_nil)))))
        (pss_cons (ps_if (pt_cmpR op_eq (pv 2) (pv 3) (nomark _))
          (pss_one ps_continue)
          pss_nil)
        (pss_cons (ps_setLc (i := 5) (own := [("node", 7)]) (by rfl) sc_is_numbered_in_order.nd rfl rfl (sw_true rfl rfl rfl (by decide +kernel)) (pi_range2 (by rfl) TX.b_range (pa_cons (pv 2) (pa_cons (pv 3) pa_nil))) (blkOk_by (own := [("node", 7)]) (N := N_is_numbered_in_order) (sc := defScope s_is_numbered_in_order) (by decide +kernel)) (fun _ _ _ _ _ => (pg_name (i := 7) sc_is_numbered_in_order.nd rfl (Or.inl rfl))) (fun _ _ _ _ _ => (pts_one (pt_cmpR op_eq (pe_ix (k_ixT (K := K) rfl) (pv 0) (pv 7) (fun _ _ => rfl)) (pv 4) (nomark _)))) (fun _ _ _ _ _ => (pv 7)))
        (pss_cons (ps_if (pt_cmpR op_ne (pe_callB (id := "len") (k_len (K := K) rfl) (by rfl) TX.b_len (by decide +kernel) (pa_cons (pv 5) pa_nil)) pe_int (nomark _))
          (pss_one (ps_ret pe_bl))
          pss_nil)
        (pss_cons (ps_set (i := 6) sc_is_numbered_in_order.nd rfl (.inl rfl) (pe_ix (k_ixL (K := K) rfl) (pv 5) pe_int (fun _ _ => rfl)))
        (pss_cons (ps_expr (pe_bm PySem.F.plainAttrs_list PySem.F.slot_list_append PySem.F.type_list_append mt_append (pv 1) (pa_cons (pe_tup (pa_cons (pv 2) (pa_cons (pv 6) (pa_cons (pv 6) pa_nil)))) pa_nil)))
        (pss_one (ps_expr (pe_bm PySem.F.plainAttrs_list PySem.F.slot_list_append PySem.F.type_list_append mt_append (pv 1) (pa_cons (pe_tup (pa_cons (pe_op op_add (pv 6) pe_int) (pa_cons (pv 3) (pa_cons (pv 6) pa_nil)))) pa_nil)))))))))))
      (pss_one (ps_ret pe_bl)))), ?_⟩
    have hl : (t.parOf.map V.int).length = t.size := by rw [List.length_map, parOf_len]
    refine ⟨.ref a, rfl, a, _, rfl, .inr hS, sz60 (by simp), fun u nu => ⟨sz60 (by simp), fun w nw => ?_⟩⟩
    have s4 := same_upd (o := .tup [.int 0, .int ((t.parOf.map V.int).length : Int), .int (-1)]) nu
    have s5 := same_upd (o := .lst [.ref u]) nw
    have nw1 : H w = none := s4.free nw
    refine ⟨NumInv K t H a w, ⟨_, none, none, none, none, none, none, [(0, t, 1, -1)], [.ref u], rfl, rfl, s4.trans s5, upd_same, ?_, ?_, ?_⟩, ?_⟩
    · refine .cons (.tup (Same.tup s5 (.inl (.inl upd_same))) ?_) .nil
      rw [hl]
      have := dp_ints (K := K) (H := upd (upd H u (.tup [.int 0, .int (t.size : Int), .int (-1)])) w (.lst [.ref u])) [0, (t.size : Int), -1]
      simpa using this
    · intro x hx
      have e : x = (0, t, 1, -1) := by simpa using hx
      rw [e]; exact .root
    · simp [todo]
    · rintro m σ H4 ⟨y2, y3, y4, y5, y6, y7, WL, acc, rfl, rfl, sm, hw, hA, hSub, hlen⟩
      refine ⟨.ref w, rfl, _, .inl ⟨acc, .inl (.inl hw), rfl⟩, ?_⟩
      rcases snoc_cases WL with rfl | ⟨WL, x, rfl⟩
      · cases hA
        exact iteF (q _ sm)
      · rw [List.map_append] at hA
        obtain ⟨us, v, rfl, hA1, hv⟩ := DpAll.snoc hA
        have hus := DpAll.len hA1
        rw [List.length_map] at hus
        obtain ⟨off, sb, k, p⟩ := x
        have hsub : Sub t off sb k p := hSub (off, sb, k, p) (by simp)
        have hsl := sub_le hsub
        obtain ⟨b, e, hb⟩ := Dp.intsInv (ns := [(off : Int), ((off + sb.size : Nat) : Int), p]) hv
        cases e
        have ne : (!(us ++ [V.ref b]).isEmpty) = true := by simp
        rw [ne]
        refine iteT ⟨fun σ' H' => ∃ m', m' < todo (WL ++ [(off, sb, k, p)]) ∧ NumInv K t H a w m' σ' H', fun σ' H' h => h, ?_⟩
        have kp : Keep K H4 (upd H4 w (.lst us)) := But.keep But.upd hw
        have hdl : (us ++ [V.ref b]).dropLast = us := by simp
        refine ⟨.ref w, rfl, .inl ⟨rfl, _, .inl (.inl hw)⟩, w, _, .ref b, rfl, rfl, hw, by simp, ?_⟩
        rw [hdl]
        have sm5 : Same H (upd H4 w (.lst us)) := Same.mut sm nw1
        have hA5 := DpAll.keep kp (tf_i3 WL) hA1
        have hb5 := kp _ _ hb
        generalize hH5 : upd H4 w (.lst us) = H5 at kp sm5 hA5 hb5 ⊢
        have hw5 : H5 w = some (.lst us) := by rw [← hH5]; exact upd_same
        refine ⟨b, _, rfl, hb5, rfl, _, _, rfl, _, _, rfl, _, [], rfl, rfl, ?_⟩
        refine ⟨_, rfl, _, rfl, rfl, _, rfl, ite2 (fun e => ?_) (fun e => ?_)⟩
        · have e0 : (off : Int) = ((off + sb.size : Nat) : Int) := V.int.inj (of_decide_eq_true e)
          refine ⟨todo WL, by rw [todo_app]; simp [todo], _, _, _, _, _, _, WL, us, rfl, rfl, sm5, hw5, hA5, fun x hx => hSub x (List.mem_append_left _ hx), ?_⟩
          rw [todo_app] at hlen; omega
        · have es : sb.size ≠ 0 := fun z => e (decide_eq_true (by rw [z]; rfl))
          cases sb with
          | nil => exact absurd rfl es
          | node lf rt =>
            have hsz : (T.node lf rt).size = lf.size + 1 + rt.size := rfl
            have nn : (((off + (T.node lf rt).size : Nat) : Int) - (off : Int)).toNat = (T.node lf rt).size := by omega
            refine ⟨_, rfl, _, rfl, _, _, rfl, ⟨by omega, by omega, by omega, by omega⟩, fun D nD => ?_⟩
            rw [nn]
            refine lc_fil (lo := (off : Int)) (j := 7) (fun i => decide (V.int (t.parOf.getD (off + i) 0) = V.int p)) (by omega) nD (fun x => rfl) (fun x => rfl) (fun i H6 Q6 hi s6 q6 => ?_) (fun H6 s6 hD6 => ?_)
            · have ea : (t.parOf.map V.int)[off + i]? = some (V.int (t.parOf.getD (off + i) 0)) := by
                rw [List.getElem?_map, List.getD_eq_getElem?_getD, List.getElem?_eq_getElem (by rw [parOf_len]; omega)]; rfl
              have ei : (off : Int) + (i : Nat) = ((off + i : Nat) : Int) := by omega
              rw [ei]
              exact ⟨.ref a, rfl, _, rfl, a, _, _, _, rfl, rfl, Same.tup (sm5.trans s6) hS, atI_nat ea, _, rfl, rfl, _, rfl, q6⟩
            · have hout := sub_out hsub
              have ef : (List.range (T.node lf rt).size).filter (fun i => decide (V.int (t.parOf.getD (off + i) 0) = V.int p)) = [lf.size] := by
                refine filter_one (by omega) ?_ fun i hi hf => ?_
                · rw [List.getD_eq_getElem?_getD, sub_root hsub]; exact decide_eq_true rfl
                · obtain ⟨qq, hq1, hq2⟩ := sub_par_at hsub hi
                  rw [List.getD_eq_getElem?_getD, hq2] at hf
                  have hf2 : qq = p := V.int.inj (of_decide_eq_true hf)
                  rcases par_in _ _ _ _ _ hq1 with ⟨l', r', e1, e2, _⟩ | ⟨h1, h2, _⟩
                  · cases e1; exact e2
                  · exfalso; rw [hf2] at h1 h2; omega
              rw [ef] at hD6
              have hD6' : H6 D = some (.lst [V.int ((off : Int) + (lf.size : Nat))]) := hD6
              refine ⟨.ref D, rfl, D, _, rfl, .inl (.inl (.inl hD6')), rfl, _, rfl, iteF ?_⟩
              refine ⟨.ref D, rfl, D, _, 0, _, rfl, rfl, .inl (.inl hD6'), rfl, ?_⟩
              have er : (off : Int) + (lf.size : Nat) = ((off + lf.size : Nat) : Int) := by omega
              rw [er]
              have hw7 := s6 _ _ hw5
              have hA7 := DpAll.same s6 hA5
              have sm7 := sm5.trans s6
              have hlw : WL.length ≤ 300 := by
                have := len_todo WL
                rw [todo_app] at hlen; omega
              -- the left subtree
              refine ⟨.ref w, rfl, .inl ⟨rfl, _, .inl (.inl hw7)⟩, _, rfl, _, rfl, _, rfl, sz60 (by simp), fun u1 nu1 => ?_⟩
              have s8 := same_upd (o := .tup [V.int (off : Int), V.int ((off + lf.size : Nat) : Int), V.int ((off + lf.size : Nat) : Int)]) nu1
              have hw8 := s8 _ _ hw7
              refine ⟨w, _, _, rfl, rfl, hw8, sz61 (by omega), ?_⟩
              have hu8 : Dp K (upd H6 u1 (.tup [V.int (off : Int), V.int ((off + lf.size : Nat) : Int), V.int ((off + lf.size : Nat) : Int)])) (.ref u1) (dI3 (off, lf, k, ((off + lf.size : Nat) : Int))) :=
                .tup (.inl (.inl upd_same)) (dp_ints [(off : Int), ((off + lf.size : Nat) : Int), ((off + lf.size : Nat) : Int)])
              have hA8 : DpAll K (upd H6 u1 (.tup [V.int (off : Int), V.int ((off + lf.size : Nat) : Int), V.int ((off + lf.size : Nat) : Int)])) (us ++ [.ref u1]) ((WL ++ [(off, lf, k, ((off + lf.size : Nat) : Int))]).map dI3) := by
                rw [List.map_append]; exact DpAll.append (DpAll.same s8 hA7) (.cons hu8 .nil)
              have sm8 := sm7.trans s8
              generalize upd H6 u1 (.tup [V.int (off : Int), V.int ((off + lf.size : Nat) : Int), V.int ((off + lf.size : Nat) : Int)]) = H8 at s8 hw8 hA8 sm8 ⊢
              have kp9 : Keep K H8 (upd H8 w (.lst (us ++ [.ref u1]))) := But.keep But.upd hw8
              have sm9 : Same H (upd H8 w (.lst (us ++ [.ref u1]))) := Same.mut sm8 nw1
              have hA9 := DpAll.keep kp9 (tf_i3 _) hA8
              have hw9 : (upd H8 w (.lst (us ++ [.ref u1]))) w = some (.lst (us ++ [.ref u1])) := upd_same
              generalize upd H8 w (.lst (us ++ [.ref u1])) = H9 at kp9 sm9 hA9 hw9 ⊢
              -- the right subtree
              refine ⟨.ref w, rfl, .inl ⟨rfl, _, .inl (.inl hw9)⟩, _, rfl, _, _, rfl, rfl, _, rfl, _, rfl, sz60 (by simp), fun u2 nu2 => ?_⟩
              have s10 := same_upd (o := .tup [V.int (((off + lf.size : Nat) : Int) + 1), V.int ((off + (T.node lf rt).size : Nat) : Int), V.int ((off + lf.size : Nat) : Int)]) nu2
              have hw10 := s10 _ _ hw9
              refine ⟨w, _, _, rfl, rfl, hw10, sz61 (by simp; omega), ?_⟩
              have hu10 : Dp K (upd H9 u2 (.tup [V.int (((off + lf.size : Nat) : Int) + 1), V.int ((off + (T.node lf rt).size : Nat) : Int), V.int ((off + lf.size : Nat) : Int)])) (.ref u2) (dI3 (off + lf.size + 1, rt, k + 1, ((off + lf.size : Nat) : Int))) := by
                refine .tup (.inl (.inl upd_same)) ?_
                have := dp_ints (K := K) (H := upd H9 u2 (.tup [V.int (((off + lf.size : Nat) : Int) + 1), V.int ((off + (T.node lf rt).size : Nat) : Int), V.int ((off + lf.size : Nat) : Int)])) [((off + lf.size : Nat) : Int) + 1, ((off + (T.node lf rt).size : Nat) : Int), ((off + lf.size : Nat) : Int)]
                have e1 : ((off + lf.size : Nat) : Int) + 1 = ((off + lf.size + 1 : Nat) : Int) := by omega
                have e2 : off + (T.node lf rt).size = off + lf.size + 1 + rt.size := by rw [hsz]; omega
                rw [e1, e2] at this ⊢
                exact this
              have hA10 : DpAll K (upd H9 u2 (.tup [V.int (((off + lf.size : Nat) : Int) + 1), V.int ((off + (T.node lf rt).size : Nat) : Int), V.int ((off + lf.size : Nat) : Int)])) ((us ++ [.ref u1]) ++ [.ref u2]) (((WL ++ [(off, lf, k, ((off + lf.size : Nat) : Int))]) ++ [(off + lf.size + 1, rt, k + 1, ((off + lf.size : Nat) : Int))]).map dI3) := by
                rw [List.map_append]; exact DpAll.append (DpAll.same s10 hA9) (.cons hu10 .nil)
              have sm10 := sm9.trans s10
              generalize upd H9 u2 (.tup [V.int (((off + lf.size : Nat) : Int) + 1), V.int ((off + (T.node lf rt).size : Nat) : Int), V.int ((off + lf.size : Nat) : Int)]) = H10 at s10 hw10 hA10 sm10 ⊢
              have kp11 : Keep K H10 (upd H10 w (.lst ((us ++ [.ref u1]) ++ [.ref u2]))) := But.keep But.upd hw10
              refine ⟨_, ?_, _, _, _, _, _, _, (WL ++ [(off, lf, k, ((off + lf.size : Nat) : Int))]) ++ [(off + lf.size + 1, rt, k + 1, ((off + lf.size : Nat) : Int))], (us ++ [.ref u1]) ++ [.ref u2], rfl, rfl, Same.mut sm10 nw1, upd_same, DpAll.keep kp11 (tf_i3 _) hA10, fun x hx => ?_, ?_⟩
              · simp only [todo_app, todo, hsz]; omega
              · rcases List.mem_append.mp hx with hx | hx
                · rcases List.mem_append.mp hx with hx | hx
                  · exact hSub x (List.mem_append_left _ hx)
                  · have e : x = (off, lf, k, ((off + lf.size : Nat) : Int)) := by simpa using hx
                    rw [e]; exact .left hsub
                · have e : x = (off + lf.size + 1, rt, k + 1, ((off + lf.size : Nat) : Int)) := by simpa using hx
                  rw [e]; exact .right hsub
              · simp only [todo_app, todo, hsz] at hlen ⊢; omega
def sp_is_tree (K : PySem.W.Frag) : Sp := fun vs H Q _ => ∃ (a : Addr) (t : T), vs = [.ref a] ∧ SqT K H a (t.parOf.map V.int) ∧ t.size ≤ 60 ∧ ∀ H', Same H H' → Q (.bl true) H'
theorem dp_bools_inv {K : PySem.W.Frag} {H : Hp} : ∀ {ns : List Bool} {vs : List V}, DpAll K H vs (ns.map PyData.bool) → vs = ns.map V.bl
  | [], _, .nil => rfl
  | n :: ns, _, .cons a b => by
    cases a
    rw [dp_bools_inv b]
    rfl
theorem ok_is_tree (TX : Tx K mg) : FnOk P w K mg base CX0 2 TX.a_is_tree TX.fd_is_tree ["value"] (sp_is_tree K) := by
  refine TX.f_is_tree.ok sc_is_tree (fun vs H Q E h => ?_) (fun cdv A outer s H vs Q E hr h => ?_)
  · obtain ⟨a, t, rfl, _⟩ := h; rfl
  · obtain ⟨a, t, rfl, hS, hz, q⟩ := h
    refine ⟨_, (pss_cons (ps_if (PW.pt (pw_or (pt_not (pt_val (pe_callB (id := "isinstance") (k_isi (K := K) rfl) (by rfl) TX.b_isinstance (by decide +kernel) (pa_cons (pv 0) (pa_cons (pe_bltn (v := .ty "tuple") (by rfl) TX.b_tuple (by decide +kernel) rfl) pa_nil))))) (pw_or1 (pt_cmpR op_gt (pe_callB (id := "len") (k_len (K := K) rfl) (by rfl) TX.b_len (by decide +kernel) (pa_cons (pv 0) pa_nil)) (pe_glob (v := .int (60)) (by rfl) TX.c_MOST_FLUSHES ⟨_, rfl⟩) (nomark _)))))
        (pss_one (ps_ret pe_bl))
        pss_nil)
      (pss_cons (ps_if (pt_not (pt_val (pe_callB (id := "all") (cr_all rfl) (by rfl) TX.b_all (by decide +kernel) (pa_cons (pe_lc (own := [("parent", 1)]) (by rfl) sc_is_tree.nd (k_piT (K := K) rfl (pv 0)) (blkOk_by (own := [("parent", 1)]) (N := N_is_tree) (sc := defScope s_is_tree) (by decide +kernel)) (fun _ _ _ _ _ => (pg_name (i := 1) sc_is_tree.nd rfl (Or.inl rfl))) (fun _ _ _ _ _ => pts_nil) (fun _ _ _ _ _ => (pe_call (ok_is_int TX) (hr.mono (by decide)) (by rfl) TX.g_is_int TX.f_is_int.kp TX.bd_is_int .nil pass0 (pa_cons (pv 1) pa_nil)))) pa_nil))))
        (pss_one (ps_ret pe_bl))
        pss_nil)
      (pss_one (ps_ret (pe_call (ok_is_numbered_in_order TX) (hr.mono (by decide)) (by rfl) TX.g_is_numbered_in_order TX.f_is_numbered_in_order.kp TX.bd_is_numbered_in_order .nil pass0 (pa_cons (pv 0) pa_nil)))))), ?_⟩
    have hl : (t.parOf.map V.int).length = t.size := by rw [List.length_map, parOf_len]
    refine ⟨.ref a, rfl, .ref a, .ty "tuple", .type "tuple", .type "tuple", true, rfl, .ty _, ty_tup hS, kit_ty (by decide +kernel), true, rfl, iteF ⟨.ref a, rfl, a, _, rfl, .inr hS, _, _, rfl, rfl, _, rfl, decF (by rw [hl]; omega) ?_⟩⟩
    refine ⟨.ref a, rfl, a, rfl, ⟨_, hS⟩, fun D nD => lc_all (K := K) walk_tup ((List.replicate t.size true).map PyData.bool) (by rw [List.length_map, List.length_replicate, hl]) (fun d h => ?_) (by omega) nD (fun H' s' => Same.tup s' hS) ?_ ?_ (fun x σ' H' Q Q' h => h _ _) (fun σ' H' Q Q' h => h _ _)⟩
    · obtain ⟨b, _, rfl⟩ := List.mem_map.mp h
      exact .bl b
    · rintro i x H2 H2' hi s2 ⟨rfl, hx⟩ d hd R hR
      rw [List.getElem?_map] at hx
      cases hp : t.parOf[i]? with
      | none => rw [hp] at hx; cases hx
      | some v =>
        rw [hp] at hx
        cases hx
        refine ⟨rfl, rfl, .int v, rfl, v, rfl, hR _ _ (Same.refl _) ?_⟩
        rw [List.getElem?_map, List.getElem?_replicate, if_pos (by omega)] at hd
        cases hd
        exact .bl true
    · intro H2 acc s2 ha hAcc
      rw [dp_bools_inv hAcc] at ha
      refine ⟨D, List.replicate t.size true, rfl, .inl (.inl ha), _, rfl, ?_⟩
      have e : (List.replicate t.size true).all id = true := by simp
      rw [e]
      exact iteF ⟨.ref a, rfl, a, t, rfl, Same.tup s2 hS, hz, fun H' s' => q H' (s2.trans s')⟩
end
theorem wr_at {t : T} {i : Nat} (h : i < t.size) : t.wr[i]? = some (t.wr.getD i 0) := by
  rw [List.getD_eq_getElem?_getD, List.getElem?_eq_getElem (by rw [T.wr_len]; exact h)]; rfl
theorem rc_atD {t : T} {i : Nat} (h : i < t.size) : t.rc[i]? = some (t.rc.getD i 0) := by
  rw [List.getD_eq_getElem?_getD, List.getElem?_eq_getElem (by rw [T.rc_len]; exact h)]; rfl
theorem par_at {t : T} {i : Nat} (h : i < t.size) : t.parOf[i]? = some (t.parOf.getD i 0) := by
  rw [List.getD_eq_getElem?_getD, List.getElem?_eq_getElem (by rw [parOf_len]; exact h)]; rfl
theorem at_par {t : T} {i : Nat} (h : i < t.size) : atI (t.parOf.map V.int) (i : Int) = some (.int (t.parOf.getD i 0)) := by
  refine atI_nat ?_
  rw [List.getElem?_map, par_at h]; rfl
/-- (left edges, right edges) -/
def dEd (t : T) (i : Nat) : PyData := .tuple [.int ((t.wr.getD i 0 : Int) - 1), .int ((t.rc.getD i 0 : Int) - 1)]
def dEdges (t : T) : List PyData := (List.range t.size).map (dEd t)
theorem tf_edges (t : T) : ∀ d, d ∈ dEdges t → Tf d := fun d h => by
  obtain ⟨i, _, rfl⟩ := List.mem_map.mp h
  exact .tup (tf_ints [((t.wr.getD i 0 : Int) - 1), ((t.rc.getD i 0 : Int) - 1)])
def EdInv (t : T) (H : Hp) (a : Addr) (i : Nat) (m : Nat) (σ : L2.St) (H' : Hp) : Prop := ∃ (lf rt : Int) (c : Nat), σ = [some (.ref a), some (.int (i : Int)), some (.int lf), some (.int rt), some (.int (c : Int))] ∧ H' = H ∧ c < t.size ∧ m = t.wr.getD c 0 + t.rc.getD c 0 ∧
  lf + (t.wr.getD c 0 : Int) = (t.wr.getD i 0 : Int) ∧ rt + (t.rc.getD c 0 : Int) = (t.rc.getD i 0 : Int)
section
variable {P : Program} {w : World} {K : PySem.W.Frag} {mg : Str → Option Value} {base : Heap}
def sp_edges_above (K : PySem.W.Frag) : Sp := fun vs H Q _ => ∃ (a : Addr) (t : T) (i : Nat), vs = [.ref a, .int (i : Int)] ∧ SqT K H a (t.parOf.map V.int) ∧ i < t.size ∧ ∀ H' p, Same H H' → Dp K H' (.ref p) (dEd t i) → Q (.ref p) H'
theorem ok_edges_above (TX : Tx K mg) : FnOk P w K mg base CX0 1 TX.a_edges_above TX.fd_edges_above ["tree", "node"] (sp_edges_above K) := by
  refine TX.f_edges_above.ok sc_edges_above (fun vs H Q E h => ?_) (fun cdv A outer s H vs Q E hr h => ?_)
  · obtain ⟨a, t, i, rfl, _⟩ := h; rfl
  · obtain ⟨a, t, i, rfl, hS, hi, q⟩ := h
    refine ⟨_, (pss_cons (ps_set (i := 2) sc_edges_above.nd rfl (.inl rfl) pe_int)
      (pss_cons (ps_set (i := 3) sc_edges_above.nd rfl (.inl rfl) pe_int)
      (pss_cons (ps_set (i := 4) sc_edges_above.nd rfl (.inl rfl) (pv 1))
      (pss_cons (ps_while PassesOwn.never (pt_cmpR op_ne (pe_ix (k_ixT (K := K) rfl) (pv 0) (pv 4) (fun _ _ => rfl)) (pe_glob (v := .int (-1)) (by rfl) TX.c_NO_PARENT ⟨_, rfl⟩) (nomark _))
        (pss_cons (ps_if (pt_cmpR op_lt (pv 4) (pe_ix (k_ixT (K := K) rfl) (pv 0) (pv 4) (fun _ _ => rfl)) (nomark _))
          (pss_one (ps_aug (i := 2) sc_edges_above.nd rfl (.inl rfl) pe_int ip_add))
          (pss_one (ps_aug (i := 3) sc_edges_above.nd rfl (.inl rfl) pe_int ip_add)))
        (pss_one (ps_set (i := 4) sc_edges_above.nd rfl (.inl rfl) (pe_ix (k_ixT (K := K) rfl) (pv 0) (pv 4) (fun _ _ => rfl))))))
      (pss_one (ps_ret (pe_tup (pa_cons (pv 2) (pa_cons (pv 3) pa_nil))))))))), ?_⟩
    refine ⟨.int (i : Int), rfl, EdInv t H a i, ⟨_, 0, 0, i, rfl, rfl, hi, rfl, by omega, by omega⟩, ?_⟩
    rintro m σ H' ⟨lf, rt, c, rfl, rfl, hc, rfl, e1, e2⟩
    refine ⟨.ref a, rfl, _, rfl, a, _, _, _, rfl, rfl, hS, at_par hc, rfl, _, rfl, ?_⟩
    have hp := par_at hc
    rcases up t 0 (-1) c _ hp with ⟨f1, f2, f3⟩ | ⟨j, f1, f2, f3, f4, f5⟩
    · rw [f1]
      refine iteF ?_
      refine ⟨_, rfl, _, rfl, sz60 (by simp), fun p np => q _ p (same_upd np) (.tup (.inl (.inl upd_same)) ?_)⟩
      rw [f2] at e1
      rw [f3] at e2
      have := dp_ints (K := K) (H := upd H' p (HO.tup [V.int lf, V.int rt])) [lf, rt]
      have g1 : (t.wr.getD i 0 : Int) - 1 = lf := by omega
      have g2 : (t.rc.getD i 0 : Int) - 1 = rt := by omega
      rw [g1, g2]
      exact this
    · have ej : t.parOf.getD c 0 = (j : Int) := by rw [f1]; omega
      rw [ej]
      have nj : (!decide (V.int (j : Int) = V.int (-1))) = true := by
        have : ¬ V.int (j : Int) = V.int (-1) := fun z => by have := V.int.inj z; omega
        rw [decide_eq_false this]; rfl
      have hc1 := wr_pos hc
      have hc2 := rc_posD hc
      refine iteB1 nj ⟨fun σ' H'' => ∃ m', m' < t.wr.getD c 0 + t.rc.getD c 0 ∧ EdInv t H' a i m' σ' H'', fun _ _ h => h, ?_⟩
      refine ⟨_, rfl, .ref a, rfl, _, rfl, a, _, _, _, rfl, rfl, hS, at_par hc, _, _, rfl, rfl, _, rfl, ?_⟩
      rw [ej]
      refine ite2 (fun h => ?_) (fun h => ?_)
      · have hcj : c < j := by have := of_decide_eq_true h; omega
        obtain ⟨g1, g2⟩ := f4 hcj
        refine ⟨_, rfl, _, _, rfl, rfl, .ref a, rfl, _, rfl, a, _, _, _, rfl, rfl, hS, at_par hc, ?_⟩
        rw [ej]
        exact ⟨_, by omega, lf + 1, rt, j, rfl, rfl, f2, rfl, by omega, by omega⟩
      · have hcj : j < c := by
          have : ¬ ((c : Int) < (j : Int)) := fun z => h (decide_eq_true z)
          omega
        obtain ⟨g1, g2⟩ := f5 hcj
        refine ⟨_, rfl, _, _, rfl, rfl, .ref a, rfl, _, rfl, a, _, _, _, rfl, rfl, hS, at_par hc, ?_⟩
        rw [ej]
        exact ⟨_, by omega, lf, rt + 1, j, rfl, rfl, f2, rfl, by omega, by omega⟩
def sp_edges (K : PySem.W.Frag) : Sp := fun vs H Q _ => ∃ (a : Addr) (t : T), vs = [.ref a] ∧ SqT K H a (t.parOf.map V.int) ∧ t.size ≤ 60 ∧ ∀ H' p, Same H H' → Dp K H' (.ref p) (.tuple (dEdges t)) → Q (.ref p) H'
theorem ok_edges (TX : Tx K mg) : FnOk P w K mg base CX0 3 TX.a_edges TX.fd_edges ["tree"] (sp_edges K) := by
  refine TX.f_edges.ok sc_edges (fun vs H Q E h => ?_) (fun cdv A outer s H vs Q E hr h => ?_)
  · obtain ⟨a, t, rfl, _⟩ := h; rfl
  · obtain ⟨a, t, rfl, hS, hz, q⟩ := h
    refine ⟨_, (pss_cons (ps_if (pt_not (pt_val (pe_call (ok_is_tree TX) (hr.mono (by decide)) (by rfl) TX.g_is_tree TX.f_is_tree.kp TX.bd_is_tree .nil pass0 (pa_cons (pv 0) pa_nil))))
        (pss_one ps_never)
        pss_nil)
      (pss_one (ps_ret (pe_callTy (T := "tuple") (k_tupOf (K := K) rfl) (by rfl) TX.b_tuple (by decide +kernel) (pa_cons (pe_lc (own := [("node", 1)]) (by rfl) sc_edges.nd (pi_range1 (by rfl) TX.b_range (pa_cons (pe_callB (id := "len") (k_len (K := K) rfl) (by rfl) TX.b_len (by decide +kernel) (pa_cons (pv 0) pa_nil)) pa_nil)) (blkOk_by (own := [("node", 1)]) (N := N_edges) (sc := defScope s_edges) (by decide +kernel)) (fun _ _ _ _ _ => (pg_name (i := 1) sc_edges.nd rfl (Or.inl rfl))) (fun _ _ _ _ _ => pts_nil) (fun _ _ _ _ _ => (pe_call (ok_edges_above TX) (hr.mono (by decide)) (by rfl) TX.g_edges_above TX.f_edges_above.kp TX.bd_edges_above .nil pass0 (pa_cons (pv 0) (pa_cons (pv 1) pa_nil))))) pa_nil))))), ?_⟩
    have hl : (t.parOf.map V.int).length = t.size := by rw [List.length_map, parOf_len]
    refine ⟨.ref a, rfl, a, t, rfl, hS, hz, fun H1 s1 => ⟨true, rfl, iteF ?_⟩⟩
    have hS1 := Same.tup s1 hS
    refine ⟨.ref a, rfl, a, _, rfl, .inr hS1, _, rfl, by omega, by omega, fun D nD => ?_⟩
    rw [hl, Int.toNat_natCast]
    refine lc_all (K := K) walk_range (dEdges t) (by simp [dEdges]) (tf_edges t) (by omega) nD (fun _ _ => trivial) ?_ ?_ (fun x σ' H' Q Q' h => h _ _) (fun σ' H' Q Q' h => h _ _)
    · rintro i x H2 H2' hi s2 ⟨rfl, rfl⟩ d hd R hR
      have ei : (0 : Int) + (i : Nat) = (i : Int) := by omega
      show gName 1 (V.int ((0 : Int) + (i : Nat))) _ _ _
      rw [ei]
      have ed : d = dEd t i := by
        rw [dEdges, List.getElem?_map, List.getElem?_range hi] at hd
        exact (Option.some.inj hd).symm
      subst ed
      exact ⟨rfl, rfl, .ref a, rfl, _, rfl, a, t, i, rfl, Same.tup s2 hS1, hi, fun H' p s' h' => hR _ _ s' h'⟩
    · intro H2 acc s2 ha hAcc
      refine ⟨D, acc, rfl, .inl ⟨.inl (.inl ha), fun o no => ?_⟩⟩
      exact q _ o ((s1.trans s2).trans (same_upd no)) (.tup (.inl (.inl upd_same)) (DpAll.same (same_upd no) hAcc))
def sp_schedule_of (K : PySem.W.Frag) : Sp := fun vs H Q _ => ∃ (a : Addr) (t : T), vs = [.ref a] ∧ SqT K H a (t.parOf.map V.int) ∧ t.size ≤ 60 ∧ ∀ H' p, Same H H' → SqT K H' p (vi t.sch) → Q (.ref p) H'
theorem ok_schedule_of (TX : Tx K mg) : FnOk P w K mg base CX0 4 TX.a_schedule_of TX.fd_schedule_of ["tree"] (sp_schedule_of K) := by
  refine TX.f_schedule_of.ok sc_schedule_of (fun vs H Q E h => ?_) (fun cdv A outer s H vs Q E hr h => ?_)
  · obtain ⟨a, t, rfl, _⟩ := h; rfl
  · obtain ⟨a, t, rfl, hS, hz, q⟩ := h
    refine ⟨_, (pss_cons (ps_set (i := 1) sc_schedule_of.nd rfl (.inl rfl) (pe_lst pa_nil))
      (pss_cons (ps_set (i := 2) sc_schedule_of.nd rfl (.inl rfl) pe_int)
      (pss_cons (ps_for PassesOwn.never rfl (k_piT (K := K) rfl (pe_call (ok_edges TX) (hr.mono (by decide)) (by rfl) TX.g_edges TX.f_edges.kp TX.bd_edges .nil pass0 (pa_cons (pv 0) pa_nil))) (pg_tup rfl (pgs_cons (pg_name (i := 3) sc_schedule_of.nd rfl (.inl rfl)) (pgs_cons (pg_name (i := 4) sc_schedule_of.nd rfl (.inl rfl)) pgs_nil)))
        (pss_cons (ps_set (i := 5) sc_schedule_of.nd rfl (.inl rfl) (pe_op op_add (pv 4) pe_int))
        (pss_cons (ps_expr (pe_bm PySem.F.plainAttrs_list PySem.F.slot_list_append PySem.F.type_list_append mt_append (pv 1) (pa_cons (pe_op op_sub (pe_op op_add (pv 2) pe_int) (pv 5)) pa_nil)))
        (pss_one (ps_set (i := 2) sc_schedule_of.nd rfl (.inl rfl) (pv 5))))))
      (pss_one (ps_ret (pe_callTy (T := "tuple") (k_tupOf (K := K) rfl) (by rfl) TX.b_tuple (by decide +kernel) (pa_cons (pv 1) pa_nil))))))), ?_⟩
    refine ⟨sz60 (by simp), fun l nl => ?_⟩
    have s0 : Same H (upd H l (.lst [])) := same_upd nl
    refine ⟨.ref a, rfl, a, t, rfl, Same.tup s0 hS, hz, fun H1 p1 s1 h1 => ?_⟩
    obtain ⟨p1', xs, e, hX, hA⟩ := Dp.tupInv h1
    cases e
    have hl := DpAll.len hA
    have hle : (dEdges t).length = t.size := by simp [dEdges]
    rw [hle] at hl
    refine ⟨p1, rfl, ⟨_, hX⟩, for_tup (K := K) (xs := xs) (fun i σ H' => ∃ y3 y4 y5, σ = [some (.ref a), some (.ref l), some (.int ((pre t i).runs : Int)), y3, y4, y5] ∧ Same H H' ∧ Keep K H1 H' ∧ H' l = some (.lst (vi (t.sch.take i))))
      ⟨none, none, none, rfl, s0.trans s1, Keep.refl, s1 _ _ upd_same⟩ (fun i σ H' _ ⟨_, _, _, _, _, k, _⟩ => k _ _ hX) ?_ ?_⟩
    · rintro i x σ H2 hx ⟨y3, y4, y5, rfl, s2, k2, hl2⟩
      have hi : i < t.size := by rw [← hl]; exact (List.getElem?_eq_some_iff.mp hx).1
      have hd : (dEdges t)[i]? = some (dEd t i) := by rw [dEdges, List.getElem?_map, List.getElem?_range hi]; rfl
      obtain ⟨v, g1, g2⟩ := DpAll.get (DpAll.keep k2 (tf_edges t) hA) hd
      rw [hx] at g1
      cases g1
      obtain ⟨b, e, g3⟩ := Dp.intsInv (ns := [((t.wr.getD i 0 : Int) - 1), ((t.rc.getD i 0 : Int) - 1)]) g2
      cases e
      obtain ⟨m, hm⟩ : ∃ m, t.sch[i]? = some m := ⟨_, List.getElem?_eq_getElem (show i < t.sch.length by rw [T.sch_len]; exact hi)⟩
      obtain ⟨f1, f2⟩ := pre_succ hm
      have f3 := rc_at hm
      rw [rc_atD hi] at f3
      have f4 : t.rc.getD i 0 = (pre t i).runs - m + 1 := Option.some.inj f3
      have f5 := T.push_runs _ _ f2
      refine ⟨b, _, rfl, g3, rfl, _, _, rfl, _, [], rfl, rfl, ?_⟩
      refine ⟨_, rfl, _, _, rfl, rfl, ?_⟩
      refine ⟨.ref l, rfl, .inl ⟨rfl, _, .inl (.inl hl2)⟩, _, rfl, _, _, rfl, rfl, _, rfl, _, _, rfl, rfl, l, _, _, rfl, rfl, hl2, sz61 (by rw [vi_len, List.length_take]; omega), ?_⟩
      refine ⟨_, rfl, ?_⟩
      refine ⟨some (V.int ((t.wr.getD i 0 : Int) - 1)), some (V.int ((t.rc.getD i 0 : Int) - 1)), some (V.int ((t.rc.getD i 0 : Int) - 1 + 1)), ?_, Same.mut s2 nl, k2.trans (But.keep But.upd hl2), ?_⟩
      · rw [f1, f5, ← f4, show (t.rc.getD i 0 : Int) = (t.rc.getD i 0 : Int) - 1 + 1 by omega]
        rw [show (t.rc.getD i 0 : Int) - 1 + 1 - 1 = (t.rc.getD i 0 : Int) - 1 by omega]
        rfl
      · rw [List.take_add_one, hm, vi_app]
        have e : ((pre t i).runs : Int) + 1 - ((t.rc.getD i 0 : Int) - 1 + 1) = (m : Int) := by rw [f4]; omega
        dsimp only
        rw [e]
        exact upd_same
    · rintro σ H2 ⟨y3, y4, y5, rfl, s2, k2, hl2⟩
      rw [hl, List.take_of_length_le (by rw [T.sch_len]; omega)] at hl2
      refine ⟨.ref l, rfl, l, _, rfl, .inl ⟨.inl (.inl hl2), fun o no => ?_⟩⟩
      exact q _ o (s2.trans (same_upd no)) (.inl (.inl upd_same))
def sp_mirrored_node (K : PySem.W.Frag) : Sp := fun vs H Q _ => ∃ n l : Int, vs = [.int n, .int l] ∧ Q (.int (mirN (l + 1) n)) H
theorem ok_mirrored_node (TX : Tx K mg) : FnOk P w K mg base CX0 1 TX.a_mirrored_node TX.fd_mirrored_node ["node", "last"] (sp_mirrored_node K) := by
  refine TX.f_mirrored_node.ok sc_mirrored_node (fun vs H Q E h => ?_) (fun cdv A outer s H vs Q E hr h => ?_)
  · obtain ⟨n, l, rfl, _⟩ := h; rfl
  · obtain ⟨n, l, rfl, q⟩ := h
    refine ⟨_, (pss_one (ps_ret (pe_ifExp (pt_cmpR op_eq (pv 0) (pe_glob (v := .int (-1)) (by rfl) TX.c_NO_PARENT ⟨_, rfl⟩) (nomark _)) (pe_glob (v := .int (-1)) (by rfl) TX.c_NO_PARENT ⟨_, rfl⟩) (pe_op op_sub (pv 1) (pv 0))))), ?_⟩
    refine ⟨_, rfl, rfl, _, rfl, ite2 (fun e => ?_) (fun e => ?_)⟩
    · have e0 : n = -1 := V.int.inj (of_decide_eq_true e)
      unfold mirN at q
      rw [if_pos e0] at q
      exact q
    · have e0 : ¬ n = -1 := fun z => e (decide_eq_true (by rw [z]))
      unfold mirN at q
      rw [if_neg e0, show l + 1 - 1 - n = l - n by omega] at q
      exact ⟨_, rfl, _, rfl, _, _, rfl, rfl, q⟩
def sp_mirror (K : PySem.W.Frag) : Sp := fun vs H Q _ => ∃ (a : Addr) (t : T), vs = [.ref a] ∧ SqT K H a (vi t.sch) ∧ t.size ≤ 60 ∧ ∀ H' p, Same H H' → SqT K H' p (vi t.mir.sch) → Q (.ref p) H'
theorem walk_revT {K : PySem.W.Frag} {a : Addr} {xs : List V} : Walk (RT.ItvT K a xs.length) xs.length (fun H => SqT K H a xs) (fun i H x H' => H' = H ∧ xs[xs.length - 1 - i]? = some x) := by
  refine ⟨fun i H hi hG => ?_, fun H hG => ?_, fun i H x H' hi hG y => ?_⟩
  · exact ⟨hi, xs, xs[xs.length - 1 - i], hG, List.getElem?_eq_getElem (by omega)⟩
  · exact Nat.le_refl _
  · exact ⟨y.1, y.2 xs hG⟩
theorem ok_mirror (TX : Tx K mg) : FnOk P w K mg base CX0 8 TX.a_mirror TX.fd_mirror ["schedule"] (sp_mirror K) := by
  refine TX.f_mirror.ok sc_mirror (fun vs H Q E h => ?_) (fun cdv A outer s H vs Q E hr h => ?_)
  · obtain ⟨a, t, rfl, _⟩ := h; rfl
  · obtain ⟨a, t, rfl, hS, hz, q⟩ := h
    refine ⟨_, (pss_cons (ps_set (i := 1) sc_mirror.nd rfl (.inl rfl) (pe_call (ok_tree_of TX) (hr.mono (by decide)) (by rfl) TX.g_tree_of TX.f_tree_of.kp TX.bd_tree_of .nil pass0 (pa_cons (pv 0) pa_nil)))
      (pss_cons (ps_set (i := 2) sc_mirror.nd rfl (.inr rfl) (pe_op op_sub (pe_callB (id := "len") (k_len (K := K) rfl) (by rfl) TX.b_len (by decide +kernel) (pa_cons (pv 1) pa_nil)) pe_int))
      (pss_one (ps_ret (pe_call (ok_schedule_of TX) (hr.mono (by decide)) (by rfl) TX.g_schedule_of TX.f_schedule_of.kp TX.bd_schedule_of .nil pass0 (pa_cons (pe_callTy (T := "tuple") (k_tupOf (K := K) rfl) (by rfl) TX.b_tuple (by decide +kernel) (pa_cons (pe_lc (own := [("parent", 3)]) (by rfl) sc_mirror.nd (RT.pi_revA (by rfl) TX.b_reversed (pv 1)) (blkOk_by (own := [("parent", 3)]) (N := N_mirror) (sc := defScope s_mirror) (by decide +kernel)) (fun _ _ _ _ _ => (pg_name (i := 3) sc_mirror.nd rfl (Or.inl rfl))) (fun _ _ _ _ _ => pts_nil) (fun _ _ _ _ _ => (pe_call (ok_mirrored_node TX) (hr.mono (by decide)) (by rfl) TX.g_mirrored_node TX.f_mirrored_node.kp TX.bd_mirrored_node .nil pass0 (pa_cons (pv 3) (pa_cons (pv 2) pa_nil))))) pa_nil)) pa_nil)))))), ?_⟩
    have hl : (t.parOf.map V.int).length = t.size := by rw [List.length_map, parOf_len]
    refine ⟨.ref a, rfl, a, t, rfl, hS, hz, fun H1 p1 ob s1 h1' _ => ?_⟩
    have h1 : SqT K H1 p1 (t.parOf.map V.int) := .inl (.inr ⟨ob, h1'⟩)
    refine ⟨.ref p1, rfl, p1, _, rfl, .inr h1, _, _, rfl, rfl, ?_⟩
    refine ⟨.ref p1, rfl, p1, _, rfl, .inr ⟨h1, fun D nD => ?_⟩⟩
    refine lc_all (K := K) walk_revT (t.mir.parOf.map PyData.int) (by rw [List.length_map, parOf_len, mir_size, hl]) (tf_ints _) (by omega) nD (fun H' s' => Same.tup s' h1) ?_ ?_ (fun x σ' H' Q Q' h => h _ _) (fun σ' H' Q Q' h => h _ _)
    · rintro i x H2 H2' hi s2 ⟨rfl, hx⟩ d hd R hR
      rw [hl] at hx hi
      rw [List.getElem?_map, par_at (by omega)] at hx
      cases hx
      refine ⟨rfl, rfl, _, rfl, _, rfl, _, _, rfl, hR _ _ (Same.refl _) ?_⟩
      rw [List.getElem?_map, mir_parOf, List.getElem?_map, List.getElem?_reverse (by rw [parOf_len]; exact hi), parOf_len, par_at (by omega)] at hd
      have ed : d = .int (mirN t.size (t.parOf.getD (t.size - 1 - i) 0)) := (Option.some.inj hd).symm
      rw [ed, hl, show ((t.size : Int) - 1 + 1) = t.size by omega]
      exact .int _
    · intro H2 acc s2 ha hAcc
      rw [dp_ints_inv hAcc] at ha
      refine ⟨D, _, rfl, .inl ⟨.inl (.inl ha), fun o no => ?_⟩⟩
      exact ⟨o, t.mir, rfl, .inl (.inl upd_same), by rw [mir_size]; exact hz, fun H' p s' h' => q H' p (((s1.trans s2).trans (same_upd no)).trans s') h'⟩
end
/-- the draws' list: a number not below 0, a seed, a count of at most n -/
def Pot (H : Hp) (a : Addr) (n : Int) : Prop := ∃ d s m : Int, H a = some (.lst [.int d, .int s, .int m]) ∧ 0 ≤ d ∧ 0 ≤ s ∧ s < 2 ^ 61 ∧ 0 ≤ m ∧ m ≤ n
theorem Pot.mono {H : Hp} {a : Addr} {n k : Int} (h : Pot H a n) (e : n ≤ k) : Pot H a k := by
  obtain ⟨d, s, m, h1, h2, h3, h4, h5, h6⟩ := h
  exact ⟨d, s, m, h1, h2, h3, h4, h5, by omega⟩
theorem Pot.same {H H' : Hp} {a : Addr} {n : Int} (h : Pot H a n) (e : Same H H') : Pot H' a n := by
  obtain ⟨d, s, m, h1, r⟩ := h
  exact ⟨d, s, m, e _ _ h1, r⟩
theorem Pot.keep {K : PySem.W.Frag} {H H' : Hp} {a : Addr} {n : Int} (h : Pot H a n) (e : But a H H') : Keep K H H' := by
  obtain ⟨d, s, m, h1, r⟩ := h
  exact But.keep e h1
theorem Pot.ne {H : Hp} {a b : Addr} {n : Int} (h : Pot H a n) (e : H b = none) : b ≠ a := fun z => by
  obtain ⟨d, s, m, h1, r⟩ := h
  rw [z, h1] at e; cases e
theorem But.free {a l : Addr} {H H' : Hp} (b : But a H H') (h : H' l = none) (n : l ≠ a) : H l = none := by
  cases e : H l with
  | none => rfl
  | some o => rw [b _ _ n e] at h; cases h
theorem But.mut {a l : Addr} {H H' : Hp} {o : HO} (b : But a H H') (h : H l = none) : But a H (L2.upd H' l o) := fun c u n e => by
  rw [upd_ne (ne_of_none e h)]; exact b _ _ n e
theorem Pot.upd {H : Hp} {a l : Addr} {n : Int} {o : HO} (h : Pot H a n) (e : l ≠ a) : Pot (L2.upd H l o) a n := by
  obtain ⟨d, s, m, h1, r⟩ := h
  exact ⟨d, s, m, by rw [upd_ne e.symm]; exact h1, r⟩
theorem na_lt {x : Int} {n : Nat} (h0 : 0 ≤ x) (h1 : x < ((2 ^ n : Nat) : Int)) : x.natAbs < 2 ^ n := by omega
theorem bit01 (b : Bool) : (if b = true then (1 : Int) else 0).natAbs < 2 ^ 2 ∧ (0 : Int) ≤ (if b = true then (1 : Int) else 0) := by cases b <;> exact ⟨by decide, by decide⟩
set_option exponentiation.threshold 2000
section
variable {P : Program} {w : World} {K : PySem.W.Frag} {mg : Str → Option Value} {base : Heap}
def sp_L_pot (K : PySem.W.Frag) : Sp := fun vs H Q _ => ∃ (a : Addr) (ns : List Int) (pl : Nat), vs = [.ref a, .int (pl : Int)] ∧ SqL K H a (ns.map V.int) ∧ pl ≤ 62 ∧ ∀ H' p, Same H H' → H p = none → Pot H' p 0 → Q (.ref p) H'
theorem ok_L_pot (TX : Tx K mg) : FnOk P w K mg base CX0 1 TX.a_L_pot TX.fd_L_pot ["_law_script", "_law_place"] (sp_L_pot K) := by
  refine TX.f_L_pot.ok sc_L_pot (fun vs H Q E h => ?_) (fun cdv A outer s H vs Q E hr h => ?_)
  · obtain ⟨a, ns, pl, rfl, _⟩ := h; rfl
  · obtain ⟨a, ns, pl, rfl, hS, hpl, q⟩ := h
    refine ⟨_, (pss_cons (ps_set (i := 2) sc_L_pot.nd rfl (.inl rfl) (pe_ifExp (pt_cmpR op_lt (pv 1) (pe_callB (id := "len") (k_len (K := K) rfl) (by rfl) TX.b_len (by decide +kernel) (pa_cons (pv 0) pa_nil)) (nomark _)) (pe_ix (k_ixL (K := K) rfl) (pv 0) (pv 1) (fun _ _ => rfl)) pe_int))
      (pss_cons (ps_set (i := 3) sc_L_pot.nd rfl (.inl rfl) (pe_op op_mulW (pe_op op_mod (pe_callB (id := "abs") call_abs (by rfl) TX.b_abs (by decide +kernel) (pa_cons (pv 2) pa_nil)) (pe_op op_powW (pe_op op_powW pe_int pe_int) pe_int)) (pe_callTy (T := "int") call_int1 (by rfl) TX.b_int (by decide +kernel) (pa_cons (pe_cmpR op_ge (pe_callB (id := "abs") call_abs (by rfl) TX.b_abs (by decide +kernel) (pa_cons (pv 2) pa_nil)) (pe_op op_powW pe_int pe_int) (nomark _)) pa_nil))))
      (pss_one (ps_ret (pe_lst (pa_cons (pv 3) (pa_cons (pe_op op_mod (pe_op op_mulW (pe_op op_add (pe_op op_add (pe_op op_mod (pv 2) pe_int) (pe_op op_mulW (pe_op op_mulW pe_int (pv 1)) (pv 1))) pe_int) pe_int) pe_int) (pa_cons pe_int pa_nil)))))))), ?_⟩
    refine ⟨_, rfl, .ref a, rfl, a, _, rfl, .inl hS, _, _, rfl, rfl, _, rfl, ?_⟩
    have P0 : (0 : Int) < (10 ^ (60 : Int).toNat) ^ (5 : Int).toNat := by decide +kernel
    have P1 : ((10 ^ (60 : Int).toNat) ^ (5 : Int).toNat : Int) < ((2 ^ 1000 : Nat) : Int) := by decide +kernel
    have nl1 : ∀ pl : Nat, pl ≤ 62 → (0 : Int) ≤ 1299709 * (pl : Int) * (pl : Int) ∧ 1299709 * (pl : Int) * (pl : Int) ≤ 1299709 * 3844 := fun pl h => by
      have h1 : (pl : Int) * (pl : Int) ≤ 62 * 62 := Int.mul_le_mul (by omega) (by omega) (by omega) (by omega)
      have h2 : (0 : Int) ≤ (pl : Int) * (pl : Int) := Int.mul_nonneg (by omega) (by omega)
      rw [Int.mul_assoc]; omega
    refine ite2 (fun h => ?_) (fun h => ?_)
    · have hlt : pl < ns.length := by
        have := of_decide_eq_true h
        rw [List.length_map] at this
        omega
      refine ⟨.ref a, rfl, _, rfl, a, _, _, .int ns[pl], rfl, rfl, hS, atI_nat (by rw [List.getElem?_map, List.getElem?_eq_getElem hlt]; rfl), ?_⟩
      have c0 := Int.emod_nonneg (ns[pl]) (show (2305843009213693951 : Int) ≠ 0 by decide)
      have c1 := Int.emod_lt_of_pos (ns[pl]) (show (0 : Int) < 2305843009213693951 by decide)
      refine ⟨_, rfl, _, rfl, _, _, rfl, rfl, ⟨by decide, by decide +kernel⟩, _, _, rfl, rfl, ⟨by decide, by decide +kernel⟩, _, _, rfl, rfl, P0, _, rfl, _, rfl, _, _, rfl, rfl, ⟨by decide, by decide +kernel⟩, _, _, rfl, rfl, .inr ⟨_, rfl, _, _, rfl, rfl, ?_, ?_⟩⟩
      · exact wide_mul (a := 1000) (b := 2) (na_lt (Int.emod_nonneg _ (Int.ne_of_gt P0)) (Int.lt_trans (Int.emod_lt_of_pos _ P0) P1)) (bit01 _).1 (by decide) (by decide) (by decide)
      · refine ⟨_, rfl, _, rfl, _, _, rfl, rfl, (show (0 : Int) < 2305843009213693951 by decide), _, rfl, _, _, rfl, rfl, wide_mul (a := 21) (b := 7) (by decide) (by omega) (by decide) (by decide) (by decide), _, rfl, _, _, rfl, rfl, wide_mul (a := 28) (b := 7) (by omega) (by omega) (by decide) (by decide) (by decide), _, _, rfl, rfl, _, _, rfl, rfl, _, _, rfl, rfl, ?_, _, _, rfl, rfl, (show (0 : Int) < 2305843009213693921 by decide), sz60 (by simp), fun p np => q _ p (same_upd np) np ?_⟩
        · refine wide_mul (a := 62) (b := 16) (na_lt ?_ ?_) (by decide) (by decide) (by decide) (by decide)
          · have := nl1 pl hpl; omega
          · have := nl1 pl hpl; omega
        · refine ⟨_, _, _, upd_same, ?_, Int.emod_nonneg _ (by decide), Int.lt_trans (Int.emod_lt_of_pos _ (by decide)) (by decide), by decide, by decide⟩
          refine Int.mul_nonneg (Int.emod_nonneg _ (Int.ne_of_gt P0)) ?_
          exact (bit01 _).2
    · show tSeq _ _ _ _ _
      have c0 := Int.emod_nonneg (0) (show (2305843009213693951 : Int) ≠ 0 by decide)
      have c1 := Int.emod_lt_of_pos (0) (show (0 : Int) < 2305843009213693951 by decide)
      refine ⟨_, rfl, _, rfl, _, _, rfl, rfl, ⟨by decide, by decide +kernel⟩, _, _, rfl, rfl, ⟨by decide, by decide +kernel⟩, _, _, rfl, rfl, P0, _, rfl, _, rfl, _, _, rfl, rfl, ⟨by decide, by decide +kernel⟩, _, _, rfl, rfl, .inr ⟨_, rfl, _, _, rfl, rfl, ?_, ?_⟩⟩
      · exact wide_mul (a := 1000) (b := 2) (na_lt (Int.emod_nonneg _ (Int.ne_of_gt P0)) (Int.lt_trans (Int.emod_lt_of_pos _ P0) P1)) (bit01 _).1 (by decide) (by decide) (by decide)
      · refine ⟨_, rfl, _, rfl, _, _, rfl, rfl, (show (0 : Int) < 2305843009213693951 by decide), _, rfl, _, _, rfl, rfl, wide_mul (a := 21) (b := 7) (by decide) (by omega) (by decide) (by decide) (by decide), _, rfl, _, _, rfl, rfl, wide_mul (a := 28) (b := 7) (by omega) (by omega) (by decide) (by decide) (by decide), _, _, rfl, rfl, _, _, rfl, rfl, _, _, rfl, rfl, ?_, _, _, rfl, rfl, (show (0 : Int) < 2305843009213693921 by decide), sz60 (by simp), fun p np => q _ p (same_upd np) np ?_⟩
        · refine wide_mul (a := 62) (b := 16) (na_lt ?_ ?_) (by decide) (by decide) (by decide) (by decide)
          · have := nl1 pl hpl; omega
          · have := nl1 pl hpl; omega
        · refine ⟨_, _, _, upd_same, ?_, Int.emod_nonneg _ (by decide), Int.lt_trans (Int.emod_lt_of_pos _ (by decide)) (by decide), by decide, by decide⟩
          refine Int.mul_nonneg (Int.emod_nonneg _ (Int.ne_of_gt P0)) ?_
          exact (bit01 _).2
def sp_L_take (K : PySem.W.Frag) : Sp := fun vs H Q _ => ∃ (a : Addr) (z n : Int), vs = [.ref a, .int z] ∧ Pot H a n ∧ n ≤ 100000 ∧ 1 ≤ z ∧ z ≤ 1000000 ∧ ∀ H' r, But a H H' → Pot H' a (n + 1) → 0 ≤ r → r < z → Q (.int r) H'
theorem prime_at {m : Int} (h0 : 0 ≤ m) : ∃ v : Int, atI [V.int 2305843009213693951, V.int 2305843009213693921, V.int 2305843009213693907, V.int 67280421310721] (m % 4) = some (.int v) ∧ 0 < v ∧ v < 2 ^ 61 := by
  have h : m % 4 = 0 ∨ m % 4 = 1 ∨ m % 4 = 2 ∨ m % 4 = 3 := by omega
  rcases h with h | h | h | h <;> rw [h]
  · exact ⟨2305843009213693951, rfl, by decide, by decide⟩
  · exact ⟨2305843009213693921, rfl, by decide, by decide⟩
  · exact ⟨2305843009213693907, rfl, by decide, by decide⟩
  · exact ⟨67280421310721, rfl, by decide, by decide⟩
theorem ok_L_take (TX : Tx K mg) : FnOk P w K mg base CX0 1 TX.a_L_take TX.fd_L_take ["_law_pot", "_law_size"] (sp_L_take K) := by
  refine TX.f_L_take.ok sc_L_take (fun vs H Q E h => ?_) (fun cdv A outer s H vs Q E hr h => ?_)
  · obtain ⟨a, z, n, rfl, _⟩ := h; rfl
  · obtain ⟨a, z, n, rfl, ⟨d, sd, m, hp, hd, hs0, hs1, hm0, hm1⟩, hn, hz1, hz2, q⟩ := h
    refine ⟨_, (pss_cons (ps_if (pt_cmpR op_gt (pe_ix (k_ixL (K := K) rfl) (pv 0) pe_int (fun _ _ => rfl)) pe_int (nomark _))
        (pss_cons (ps_set (i := 2) sc_L_take.nd rfl (.inl rfl) (pe_op op_mod (pe_ix (k_ixL (K := K) rfl) (pv 0) pe_int (fun _ _ => rfl)) (pv 1)))
        (pss_cons (ps_asg (pe_op op_fdivW (pe_ix (k_ixL (K := K) rfl) (pv 0) pe_int (fun _ _ => rfl)) (pv 1)) (pg_sub (pv 0) pe_int set_list))
        (pss_one (ps_ret (pv 2)))))
        pss_nil)
      (pss_cons (ps_set (i := 3) sc_L_take.nd rfl (.inl rfl) (pe_op op_add (pe_ix (k_ixL (K := K) rfl) (pv 0) pe_int (fun _ _ => rfl)) pe_int))
      (pss_cons (ps_asg (pv 3) (pg_sub (pv 0) pe_int set_list))
      (pss_cons (ps_set (i := 4) sc_L_take.nd rfl (.inl rfl) (pe_ix (k_ixL (K := K) rfl) (pe_lst (pa_cons pe_int (pa_cons pe_int (pa_cons pe_int (pa_cons pe_int pa_nil))))) (pe_op op_mod (pv 3) pe_int) (fun _ _ => rfl)))
      (pss_cons (ps_set (i := 5) sc_L_take.nd rfl (.inl rfl) (pe_op op_mod (pe_op op_pow (pe_op op_add (pe_op op_add (pe_ix (k_ixL (K := K) rfl) (pv 0) pe_int (fun _ _ => rfl)) (pe_op op_mulW (pe_op op_mulW pe_int (pv 3)) (pv 3))) (pe_op op_mulW pe_int (pv 3))) pe_int) (pv 4)))
      (pss_one (ps_ret (pe_op op_mod (pe_op op_fdivW (pe_op op_mod (pe_op op_mulW (pv 5) (pe_op op_add (pe_op op_mod (pv 5) pe_int) (pe_op op_mulW pe_int (pv 3)))) pe_int) pe_int) (pv 1))))))))), ?_⟩
    refine ⟨.ref a, rfl, a, _, _, .int d, rfl, rfl, .inl (.inl hp), rfl, _, _, rfl, rfl, _, rfl, ite2 (fun h => ?_) (fun h => ?_)⟩
    · refine ⟨.ref a, rfl, a, _, _, .int d, rfl, rfl, .inl (.inl hp), rfl, _, rfl, _, _, rfl, rfl, (show 0 < z by omega), ?_⟩
      refine ⟨.ref a, rfl, a, _, _, .int d, rfl, rfl, .inl (.inl hp), rfl, _, rfl, _, _, rfl, rfl, wide_div (b := 20) (by omega) (by omega) (by decide) (by decide), .ref a, rfl, a, _, 0, 0, rfl, rfl, hp, rfl, ?_⟩
      refine ⟨_, rfl, q _ _ But.upd ⟨d / z, sd, m, upd_same, Int.ediv_nonneg hd (by omega), hs0, hs1, hm0, by omega⟩ (Int.emod_nonneg _ (by omega)) (Int.emod_lt_of_pos _ (by omega))⟩
    · refine ⟨.ref a, rfl, a, _, _, .int m, rfl, rfl, .inl (.inl hp), rfl, _, _, rfl, rfl, ?_⟩
      refine ⟨_, rfl, .ref a, rfl, a, _, 2, 2, rfl, rfl, hp, rfl, ?_⟩
      have hp1 : (upd H a (.lst (List.set [V.int d, V.int sd, V.int m] 2 (V.int (m + 1))))) a = some (.lst [V.int d, V.int sd, V.int (m + 1)]) := upd_same
      have b1 : But a H (upd H a (.lst (List.set [V.int d, V.int sd, V.int m] 2 (V.int (m + 1))))) := But.upd
      generalize upd H a (.lst (List.set [V.int d, V.int sd, V.int m] 2 (V.int (m + 1)))) = H1 at hp1 b1 ⊢
      refine ⟨sz60 (by simp), fun pl npl => ?_⟩
      have s2 := same_upd (o := .lst [V.int 2305843009213693951, V.int 2305843009213693921, V.int 2305843009213693907, V.int 67280421310721]) npl
      have hp2 := s2 _ _ hp1
      obtain ⟨pr, hpr, pr0, pr1⟩ := prime_at (m := m + 1) (by omega)
      refine ⟨_, rfl, _, _, rfl, rfl, (show (0 : Int) < 4 by decide), pl, _, _, .int pr, rfl, rfl, .inl (.inl upd_same), hpr, ?_⟩
      have k1 : (m + 1) * (m + 1) ≤ 100001 * 100001 := Int.mul_le_mul (by omega) (by omega) (by omega) (by omega)
      have k2 : (0 : Int) ≤ (m + 1) * (m + 1) := Int.mul_nonneg (by omega) (by omega)
      have k3 : 6700417 * (m + 1) * (m + 1) = 6700417 * ((m + 1) * (m + 1)) := Int.mul_assoc _ _ _
      refine ⟨.ref a, rfl, a, _, _, .int sd, rfl, rfl, .inl (.inl hp2), rfl, _, rfl, _, _, rfl, rfl, wide_mul (a := 23) (b := 18) (by decide) (by omega) (by decide) (by decide) (by decide), _, rfl, _, _, rfl, rfl, wide_mul (a := 42) (b := 18) (by omega) (by omega) (by decide) (by decide) (by decide), _, _, rfl, rfl, _, rfl, _, _, rfl, rfl, wide_mul (a := 17) (b := 18) (by decide) (by omega) (by decide) (by decide) (by decide), _, _, rfl, rfl, _, _, rfl, rfl, ⟨by decide, by decide, by omega⟩, _, rfl, _, _, rfl, rfl, pr0, ?_⟩
      generalize hmx : (sd + 6700417 * (m + 1) * (m + 1) + 65537 * (m + 1)) ^ (3 : Int).toNat % pr = mx
      have mx0 : 0 ≤ mx := by rw [← hmx]; exact Int.emod_nonneg _ (by omega)
      have mx1 : mx < pr := by rw [← hmx]; exact Int.emod_lt_of_pos _ pr0
      refine ⟨_, rfl, _, rfl, _, _, rfl, rfl, (show (0 : Int) < 10007 by decide), _, rfl, _, _, rfl, rfl, wide_mul (a := 7) (b := 18) (by decide) (by omega) (by decide) (by decide) (by decide), _, _, rfl, rfl, _, _, rfl, rfl, wide_mul (a := 61) (b := 25) (by omega) (by omega) (by decide) (by decide) (by decide), _, _, rfl, rfl, (show (0 : Int) < 2305843009213693669 by decide), _, _, rfl, rfl, wide_div (b := 13) (by decide) (by decide) (by decide) (by decide), _, rfl, _, _, rfl, rfl, (show 0 < z by omega), ?_⟩
      exact q _ _ (b1.trans (But.of s2)) ⟨d, sd, m + 1, hp2, hd, hs0, hs1, by omega, by omega⟩ (Int.emod_nonneg _ (by omega)) (Int.emod_lt_of_pos _ (by omega))
def sp_L_of (K : PySem.W.Frag) : Sp := fun vs H Q _ => ∃ (a l : Addr) (xs : List V) (n : Int), vs = [.ref a, .ref l] ∧ Pot H a n ∧ n ≤ 100000 ∧ H l = some (.lst xs) ∧ l ≠ a ∧ xs ≠ [] ∧ xs.length ≤ 1000 ∧ ∀ H' v, But a H H' → Pot H' a (n + 1) → v ∈ xs → Q v H'
theorem ok_L_of (TX : Tx K mg) : FnOk P w K mg base CX0 2 TX.a_L_of TX.fd_L_of ["_law_pot", "_law_options"] (sp_L_of K) := by
  refine TX.f_L_of.ok sc_L_of (fun vs H Q E h => ?_) (fun cdv A outer s H vs Q E hr h => ?_)
  · obtain ⟨a, l, xs, n, rfl, _⟩ := h; rfl
  · obtain ⟨a, l, xs, n, rfl, hp, hn, hl, nla, hne, hlen, q⟩ := h
    refine ⟨_, (pss_one (ps_ret (pe_ix (k_ixL (K := K) rfl) (pv 1) (pe_call (ok_L_take TX) (hr.mono (by decide)) (by rfl) TX.g_L_take TX.f_L_take.kp TX.bd_L_take .nil pass0 (pa_cons (pv 0) (pa_cons (pe_callB (id := "len") (k_len (K := K) rfl) (by rfl) TX.b_len (by decide +kernel) (pa_cons (pv 1) pa_nil)) pa_nil))) (fun _ _ => rfl)))), ?_⟩
    have h0 : 0 < xs.length := List.length_pos_iff.mpr hne
    refine ⟨.ref l, rfl, .ref a, rfl, .ref l, rfl, l, _, rfl, .inl (.inl (.inl hl)), a, _, n, rfl, hp, hn, by omega, by omega, fun H' r b1 p1 r0 r1 => ?_⟩
    have er : r = ((r.toNat : Nat) : Int) := by omega
    have hr1 : r.toNat < xs.length := by omega
    have hat : atI xs r = some xs[r.toNat] := by
      have := atI_nat (List.getElem?_eq_getElem hr1)
      rwa [← er] at this
    exact ⟨l, xs, r, xs[r.toNat], rfl, rfl, .inl (.inl (b1 _ _ nla hl)), hat, q _ _ b1 p1 (List.getElem_mem ..)⟩
/-- the options of a flush -/
def Opts (H : Hp) (o : Addr) (k : Nat) : Prop := ∃ xs : List V, H o = some (.lst xs) ∧ xs ≠ [] ∧ xs.length ≤ 1000 ∧ ∀ v, v ∈ xs → ∃ j : Nat, v = .int (j : Int) ∧ j ≤ k
def DrawInv (H : Hp) (a : Addr) (sz wy : Int) (l : Addr) (n : Int) (t : T) (σ : L2.St) (H' : Hp) : Prop :=
  ∃ y6 y7 : Option V, ∃ o : Addr, σ = [some (.ref a), some (.int sz), some (.int wy), some (.ref l), some (.int (t.runs : Int)), y6, some (.ref o), y7] ∧ But a H H' ∧ Pot H' a n ∧ H' l = some (.lst (vi t.sch)) ∧ o ≠ a ∧ o ≠ l ∧ Opts H' o t.runs
def sp_L_drawn (K : PySem.W.Frag) : Sp := fun vs H Q _ => ∃ (a : Addr) (k : Nat) (n : Int), vs = [.ref a, .int (k : Int)] ∧ Pot H a n ∧ n ≤ 90000 ∧ k ≤ 60 ∧ ∀ H' p (t : T), But a H H' → Pot H' a (n + 200) → t.size = k → SqT K H' p (vi t.sch) → Q (.ref p) H'
theorem ok_L_drawn (TX : Tx K mg) : FnOk P w K mg base CX0 3 TX.a_L_drawn TX.fd_L_drawn ["_law_pot", "_law_size"] (sp_L_drawn K) := by
  refine TX.f_L_drawn.ok sc_L_drawn (fun vs H Q E h => ?_) (fun cdv A outer s H vs Q E hr h => ?_)
  · obtain ⟨a, k, n, rfl, _⟩ := h; rfl
  · obtain ⟨a, k, n, rfl, hp, hn, hk, q⟩ := h
    refine ⟨_, (pss_cons (ps_par3 (i := 2) (j := 3) (l := 4) (by rfl) sc_L_drawn.nd rfl rfl rfl (by decide) (by decide) (by decide) rfl rfl rfl (pa_cons (pe_call (ok_L_take TX) (hr.mono (by decide)) (by rfl) TX.g_L_take TX.f_L_take.kp TX.bd_L_take .nil pass0 (pa_cons (pv 0) (pa_cons pe_int pa_nil))) (pa_cons (pe_lst pa_nil) (pa_cons pe_int pa_nil))) (by rfl))
      (pss_cons (ps_for PassesOwn.never rfl (pi_range1 (by rfl) TX.b_range (pa_cons (pv 1) pa_nil)) (pg_name (i := 5) sc_L_drawn.nd rfl (.inl rfl))
        (pss_cons (ps_set (i := 6) sc_L_drawn.nd rfl (.inl rfl) (pe_lst (pa_cons (pe_call (ok_L_take TX) (hr.mono (by decide)) (by rfl) TX.g_L_take TX.f_L_take.kp TX.bd_L_take .nil pass0 (pa_cons (pv 0) (pa_cons (pe_op op_add (pv 4) pe_int) pa_nil))) pa_nil)))
        (pss_cut (ps_if (pt_cmpR op_eq (pv 2) pe_int (nomark _))
          (pss_one (ps_set (i := 6) sc_L_drawn.nd rfl (.inl rfl) (pe_lst (pa_cons pe_int (pa_cons pe_int (pa_cons (pe_callB (id := "min") (call_min2 rfl) (by rfl) TX.b_min (by decide +kernel) (pa_cons pe_int (pa_cons (pv 4) pa_nil))) (pa_cons (pe_call (ok_L_take TX) (hr.mono (by decide)) (by rfl) TX.g_L_take TX.f_L_take.kp TX.bd_L_take .nil pass0 (pa_cons (pv 0) (pa_cons (pe_op op_add (pv 4) pe_int) pa_nil))) pa_nil)))))))
          pss_nil)
        (pss_cut (ps_if (pt_cmpR op_eq (pv 2) pe_int (nomark _))
          (pss_one (ps_set (i := 6) sc_L_drawn.nd rfl (.inl rfl) (pe_lst (pa_cons (pv 4) (pa_cons (pe_callB (id := "max") (call_max2 rfl) (by rfl) TX.b_max (by decide +kernel) (pa_cons pe_int (pa_cons (pe_op op_sub (pv 4) pe_int) pa_nil))) (pa_cons (pv 4) pa_nil))))))
          pss_nil)
        (pss_cut (ps_if (pt_cmpR op_eq (pv 2) pe_int (nomark _))
          (pss_one (ps_set (i := 6) sc_L_drawn.nd rfl (.inl rfl) (pe_lst (pa_cons pe_int (pa_cons (pv 4) pa_nil)))))
          pss_nil)
        (pss_cons (ps_set (i := 7) sc_L_drawn.nd rfl (.inl rfl) (pe_call (ok_L_of TX) (hr.mono (by decide)) (by rfl) TX.g_L_of TX.f_L_of.kp TX.bd_L_of .nil pass0 (pa_cons (pv 0) (pa_cons (pv 6) pa_nil))))
        (pss_cons (ps_expr (pe_bm PySem.F.plainAttrs_list PySem.F.slot_list_append PySem.F.type_list_append mt_append (pv 3) (pa_cons (pv 7) pa_nil)))
        (pss_one (ps_set (i := 4) sc_L_drawn.nd rfl (.inl rfl) (pe_op op_add (pe_op op_sub (pv 4) (pv 7)) pe_int))))))))))
      (pss_one (ps_ret (pe_callTy (T := "tuple") (k_tupOf (K := K) rfl) (by rfl) TX.b_tuple (by decide +kernel) (pa_cons (pv 3) pa_nil)))))), ?_⟩
    refine ⟨.ref a, rfl, a, 4, n, rfl, hp, by omega, by decide, by decide, fun H1 wy b1 p1 w0 w1 => ⟨sz60 (by simp), fun l nl => ⟨_, _, _, rfl, ?_⟩⟩⟩
    have s2 := same_upd (o := .lst []) nl
    have nla : l ≠ a := p1.ne nl
    refine ⟨_, rfl, _, rfl, by omega, by omega, for_range (lo := 0) (n := ((k : Nat) : Int).toNat) (fun i σ H' => ∃ (y5 y6 y7 : Option V) (t : T), σ = [some (.ref a), some (.int (k : Int)), some (.int wy), some (.ref l), some (.int (t.runs : Int)), y5, y6, y7] ∧ t.size = i ∧ But a H H' ∧ Pot H' a (n + 1 + 3 * (i : Int)) ∧ H' l = some (.lst (vi t.sch)))
      ⟨none, none, none, .nil, rfl, rfl, b1.trans (But.of s2), (p1.same s2).mono (by omega), upd_same⟩ ?_ ?_⟩
    · rintro i σ H2 hi ⟨y5, y6, y7, t, rfl, ht, b2, p2, h2⟩
      have hi' : i < 60 := by omega
      have hrs := T.runs_le t
      refine ⟨.ref a, rfl, _, rfl, _, _, rfl, rfl, a, _, _, rfl, p2, by omega, by omega, by omega, fun H3 r b3 p3 r0 r1 => ⟨sz60 (by simp), fun o no => ?_⟩⟩
      have s4 := same_upd (o := .lst [V.int r]) no
      have h3 := b3 _ _ nla h2
      have h4 := s4 _ _ h3
      have oa : o ≠ a := p3.ne no
      have ol : o ≠ l := fun e => by rw [e, h3] at no; cases no
      have o4 : Opts (upd H3 o (.lst [V.int r])) o t.runs := ⟨_, upd_same, by simp, by simp, fun v hv => by
        have e : v = .int r := by simpa using hv
        exact ⟨r.toNat, by rw [e]; congr 1; omega, by omega⟩⟩
      have b4 : But a H (upd H3 o (.lst [V.int r])) := (b2.trans b3).trans (But.of s4)
      have p4 := p3.same s4
      generalize upd H3 o (.lst [V.int r]) = H4 at h4 o4 b4 p4 ⊢
      -- way == 1
      refine ⟨DrawInv H a (k : Int) wy l (n + 3 + 3 * (i : Int)) t, ?_, ?_⟩
      · refine ⟨_, rfl, rfl, _, rfl, ite2 (fun e => ?_) (fun e => ?_)⟩
        · refine ⟨_, rfl, _, _, rfl, .ref a, rfl, _, rfl, _, _, rfl, rfl, a, _, _, rfl, p4, by omega, by omega, by omega, fun H5 r' b5 p5 r0' r1' => ⟨sz60 (by simp), fun o' no' => ?_⟩⟩
          have s6 := same_upd (o := .lst [V.int 0, V.int 0, V.int (if (t.runs : Int) < 1 then (t.runs : Int) else 1), V.int r']) no'
          have h5 := b5 _ _ nla h4
          refine ⟨_, _, o', rfl, (b4.trans b5).trans (But.of s6), (p5.same s6).mono (by omega), s6 _ _ h5, p5.ne no', (fun e => by rw [e, h5] at no'; cases no'), _, upd_same, by simp, by simp, fun v hv => ?_⟩
          have e : v = .int 0 ∨ v = .int (if (t.runs : Int) < 1 then (t.runs : Int) else 1) ∨ v = .int r' := by simpa using hv
          rcases e with e | e | e
          · exact ⟨0, by rw [e]; rfl, by omega⟩
          · refine ⟨(if (t.runs : Int) < 1 then (t.runs : Int) else 1).toNat, ?_, ?_⟩
            · rw [e]; congr 1; split <;> omega
            · split <;> omega
          · exact ⟨r'.toNat, by rw [e]; congr 1; omega, by omega⟩
        · exact ⟨_, _, o, rfl, b4, p4.mono (by omega), h4, oa, ol, o4⟩
      rintro σ' H5 ⟨z5, z7, o5, rfl, b5, p5, h5, oa5, ol5, oo5⟩
      -- way == 2
      refine ⟨DrawInv H a (k : Int) wy l (n + 3 + 3 * (i : Int)) t, ?_, ?_⟩
      · refine ⟨_, rfl, rfl, _, rfl, ite2 (fun e => ?_) (fun e => ?_)⟩
        · refine ⟨_, rfl, _, rfl, _, _, rfl, rfl, _, _, rfl, _, rfl, sz60 (by simp), fun o' no' => ?_⟩
          have s6 := same_upd (o := .lst [V.int (t.runs : Int), V.int (if (t.runs : Int) - 1 > 0 then (t.runs : Int) - 1 else 0), V.int (t.runs : Int)]) no'
          refine ⟨_, _, o', rfl, b5.trans (But.of s6), p5.same s6, s6 _ _ h5, p5.ne no', (fun e => by rw [e, h5] at no'; cases no'), _, upd_same, by simp, by simp, fun v hv => ?_⟩
          have e : v = .int (t.runs : Int) ∨ v = .int (if (t.runs : Int) - 1 > 0 then (t.runs : Int) - 1 else 0) ∨ v = .int (t.runs : Int) := by simpa using hv
          rcases e with e | e | e
          · exact ⟨t.runs, e, by omega⟩
          · refine ⟨(if (t.runs : Int) - 1 > 0 then (t.runs : Int) - 1 else 0).toNat, ?_, ?_⟩
            · rw [e]; congr 1; split <;> omega
            · split <;> omega
          · exact ⟨t.runs, e, by omega⟩
        · exact ⟨_, _, o5, rfl, b5, p5, h5, oa5, ol5, oo5⟩
      clear o4 h4 b4 p4 oa ol
      rintro σ' H6 ⟨z5, z7, o6, rfl, b6, p6, h6, oa6, ol6, oo6⟩
      -- way == 3
      refine ⟨DrawInv H a (k : Int) wy l (n + 3 + 3 * (i : Int)) t, ?_, ?_⟩
      · refine ⟨_, rfl, rfl, _, rfl, ite2 (fun e => ?_) (fun e => ?_)⟩
        · refine ⟨_, rfl, sz60 (by simp), fun o' no' => ?_⟩
          have s7 := same_upd (o := .lst [V.int 0, V.int (t.runs : Int)]) no'
          refine ⟨_, _, o', rfl, b6.trans (But.of s7), p6.same s7, s7 _ _ h6, p6.ne no', (fun e => by rw [e, h6] at no'; cases no'), _, upd_same, by simp, by simp, fun v hv => ?_⟩
          have e : v = .int 0 ∨ v = .int (t.runs : Int) := by simpa using hv
          rcases e with e | e
          · exact ⟨0, by rw [e]; rfl, by omega⟩
          · exact ⟨t.runs, e, by omega⟩
        · exact ⟨_, _, o6, rfl, b6, p6, h6, oa6, ol6, oo6⟩
      clear h5 b5 p5 oa5 ol5 oo5
      rintro σ' H7 ⟨z5, z7, o7, rfl, b7, p7, h7, oa7, ol7, xs7, ho7, hne7, hl7, hx7⟩
      refine ⟨.ref a, rfl, .ref o7, rfl, a, o7, xs7, _, rfl, p7, by omega, ho7, oa7, hne7, hl7, fun H8 v b8 p8 hv => ?_⟩
      obtain ⟨j, rfl, hj⟩ := hx7 v hv
      have h8 := b8 _ _ nla h7
      have hsl : (vi t.sch).length ≤ 60 := by rw [vi_len, T.sch_len]; omega
      refine ⟨.ref l, rfl, .inl ⟨rfl, _, .inl (.inl h8)⟩, _, rfl, l, _, _, rfl, rfl, h8, sz61 (by omega), ?_⟩
      refine ⟨_, rfl, _, rfl, _, _, rfl, rfl, _, _, rfl, rfl, ?_⟩
      refine ⟨z5, some (.ref o7), some (.int (j : Int)), t.push j, ?_, by rw [T.push_size t j hj]; omega, But.mut (b7.trans b8) (But.free b1 nl nla), (p8.upd nla).mono (by omega), ?_⟩
      · rw [T.push_runs t j hj]
        rw [show ((t.runs - j + 1 : Nat) : Int) = (t.runs : Int) - (j : Int) + 1 by omega]
        rfl
      · rw [T.push_sch t j hj, vi_app]; exact upd_same
    · rintro σ H2 ⟨y5, y6, y7, t, rfl, ht, b2, p2, h2⟩
      refine ⟨.ref l, rfl, l, _, rfl, .inl ⟨.inl (.inl h2), fun o no => ?_⟩⟩
      exact q _ o t (b2.trans (But.of (same_upd no))) ((p2.same (same_upd no)).mono (by omega)) (by omega) (.inl (.inl upd_same))
end
/-! ### how many trees of a size within budgets -/
def rowB (prev : Nat → Nat → Nat) : Nat → Nat → Nat
  | 0, s => if s = 0 then 1 else 0
  | _ + 1, 0 => 1
  | a + 1, s + 1 => ((List.range (s + 1)).map fun i => rowB prev a i * prev (a + 1) (s - i)).sum
def nB : Nat → Nat → Nat → Nat
  | 0 => fun _ s => if s = 0 then 1 else 0
  | b + 1 => rowB (nB b)
theorem nB_z : ∀ b a, nB b a 0 = 1
  | 0, _ => rfl
  | _ + 1, 0 => rfl
  | _ + 1, _ + 1 => rfl
theorem nB_l0 (a s : Nat) : nB 0 a s = if s = 0 then 1 else 0 := rfl
theorem nB_r0 : ∀ b s, nB b 0 s = if s = 0 then 1 else 0
  | 0, _ => rfl
  | _ + 1, _ => rfl
theorem nB_s (b a s : Nat) : nB (b + 1) (a + 1) (s + 1) = ((List.range (s + 1)).map fun i => nB (b + 1) a i * nB b (a + 1) (s - i)).sum := rfl
theorem sum_le {f : Nat → Nat} {B : Nat} : ∀ n, (∀ i, i < n → f i ≤ B) → ((List.range n).map f).sum ≤ n * B
  | 0, _ => by simp
  | n + 1, h => by
    rw [List.range_succ, List.map_append, List.sum_append]
    have h1 := sum_le n fun i hi => h i (by omega)
    have h2 := h n (by omega)
    simp only [List.map_cons, List.map_nil, List.sum_cons, List.sum_nil]
    rw [Nat.succ_mul]; omega
theorem nB_le : ∀ b a s, nB b a s ≤ 2 ^ (s * s) := fun b => by
  induction b with
  | zero => intro a s; rw [nB_l0]; (split; exact Nat.one_le_two_pow; exact Nat.zero_le _)
  | succ b ihb =>
    intro a
    induction a with
    | zero => intro s; rw [nB_r0]; (split; exact Nat.one_le_two_pow; exact Nat.zero_le _)
    | succ a iha =>
      intro s
      cases s with
      | zero => rw [nB_z]; exact Nat.one_le_two_pow
      | succ s =>
        rw [nB_s]
        refine Nat.le_trans (sum_le (B := 2 ^ (s * s)) (s + 1) fun i hi => ?_) ?_
        · obtain ⟨j, rfl⟩ : ∃ j, s = i + j := ⟨s - i, by omega⟩
          have h1 := iha i
          have h2 := ihb (a + 1) j
          rw [show i + j - i = j by omega]
          refine Nat.le_trans (Nat.mul_le_mul h1 h2) ?_
          rw [← Nat.pow_add]
          refine Nat.pow_le_pow_right (by decide) ?_
          have : (i + j) * (i + j) = i * i + j * j + 2 * (i * j) := by rw [Nat.add_mul, Nat.mul_add, Nat.mul_add, Nat.mul_comm j i]; omega
          omega
        · have h1 : s + 1 ≤ 2 ^ s := Nat.lt_two_pow_self
          refine Nat.le_trans (Nat.mul_le_mul_right _ h1) ?_
          rw [← Nat.pow_add]
          refine Nat.pow_le_pow_right (by decide) ?_
          have : (s + 1) * (s + 1) = s * s + 2 * s + 1 := by rw [Nat.add_mul, Nat.mul_add]; omega
          omega
theorem nB_lt {b a s : Nat} (h : s ≤ 60) : nB b a s < 2 ^ 4000 := by
  refine Nat.lt_of_le_of_lt (nB_le b a s) (Nat.pow_lt_pow_right (by decide) ?_)
  have := Nat.mul_le_mul h h
  omega
/-- the counts of a place of the table -/
def cwL (b a most : Nat) : List Nat := (List.range (most + 1)).map (nB b a)
theorem cwL_len (b a m : Nat) : (cwL b a m).length = m + 1 := by simp [cwL]
theorem cwL_get {b a m s : Nat} (h : s ≤ m) : (cwL b a m)[s]? = some (nB b a s) := by
  unfold cwL
  rw [List.getElem?_map, List.getElem?_range (by omega)]; rfl
theorem cwL_edge {b a m : Nat} (h : m = 0 ∨ b = 0 ∨ a = 0) : cwL b a m = 1 :: List.replicate m 0 := by
  refine List.ext_getElem? fun s => ?_
  by_cases hs : s ≤ m
  · rw [cwL_get hs]
    cases s with
    | zero => rw [nB_z]; rfl
    | succ s =>
      rw [List.getElem?_cons_succ, List.getElem?_replicate, if_pos (by omega)]
      rcases h with h | h | h
      · omega
      · subst h; rw [nB_l0, if_neg (by omega)]
      · subst h; rw [nB_r0, if_neg (by omega)]
  · rw [List.getElem?_eq_none (by rw [cwL_len]; omega), List.getElem?_eq_none (by simp; omega)]
def conv (xs ys : List Nat) : List Nat := 1 :: (List.range xs.length).map fun t => ((List.range (t + 1)).map fun i => xs.getD i 0 * ys.getD (t - i) 0).sum
theorem cwL_conv {b a m : Nat} : conv (cwL (b + 1) a m) (cwL b (a + 1) m) = cwL (b + 1) (a + 1) (m + 1) := by
  unfold conv
  rw [cwL_len]
  have e : cwL (b + 1) (a + 1) (m + 1) = 1 :: (List.range (m + 1)).map fun t => nB (b + 1) (a + 1) (t + 1) := by
    unfold cwL
    rw [List.range_succ_eq_map, List.map_cons, List.map_map, nB_z]
    rfl
  rw [e]
  congr 1
  refine List.map_congr_left fun t ht => ?_
  have ht := List.mem_range.mp ht
  rw [nB_s]
  congr 1
  refine List.map_congr_left fun i hi => ?_
  have hi := List.mem_range.mp hi
  rw [List.getD_eq_getElem?_getD, List.getD_eq_getElem?_getD, cwL_get (by omega), cwL_get (by omega)]
  rfl
/-! ### a dict whose values are lists of numbers that nobody changes -/
def TabL (K : PySem.W.Frag) (P : Program) (w : World) (H : Hp) (d : Addr) (N : Nat) (T : Nat → Nat → Option (List Nat)) : Prop :=
  ∃ kvs, DN K P w H d kvs ∧ kvs.length ≤ N ∧ ∀ (b a : Nat) (xs : List Nat), T b a = some xs → ∃ l, valV kvs [(b : Int), (a : Int)] = some (.ref l) ∧ l ≠ d ∧ H l = some (.lst (vi xs))
theorem TabL.same {K : PySem.W.Frag} {P : Program} {w : World} {H H' : Hp} {d : Addr} {N : Nat} {T : Nat → Nat → Option (List Nat)} (t : TabL K P w H d N T) (s : Same H H') : TabL K P w H' d N T := by
  obtain ⟨kvs, h1, h2, h3⟩ := t
  refine ⟨kvs, h1.same s, h2, fun b a xs e => ?_⟩
  obtain ⟨l, a1, a2, a3⟩ := h3 b a xs e
  exact ⟨l, a1, a2, s _ _ a3⟩
theorem TabL.extN {K : PySem.W.Frag} {P : Program} {w : World} {H : Hp} {d : Addr} {N : Nat} {T T' : Nat → Nat → Option (List Nat)} (t : TabL K P w H d N T) (h : ∀ b a xs, T' b a = some xs → T b a = some xs) : TabL K P w H d N T' := by
  obtain ⟨kvs, h1, h2, h3⟩ := t
  exact ⟨kvs, h1, h2, fun b a xs e => h3 b a xs (h b a xs e)⟩
theorem TabL.at {K : PySem.W.Frag} {P : Program} {w : World} {H : Hp} {d : Addr} {N : Nat} {T : Nat → Nat → Option (List Nat)} (t : TabL K P w H d N T) {b a : Nat} {xs : List Nat} (e : T b a = some xs) : ∃ kvs l, DN K P w H d kvs ∧ valV kvs [(b : Int), (a : Int)] = some (.ref l) ∧ H l = some (.lst (vi xs)) := by
  obtain ⟨kvs, h1, h2, h3⟩ := t
  obtain ⟨l, a1, a2, a3⟩ := h3 b a xs e
  exact ⟨kvs, l, h1, a1, a3⟩
theorem TabL.new {K : PySem.W.Frag} {P : Program} {w : World} {H : Hp} {d : Addr} (g : DN K P w H d []) : TabL K P w H d 0 fun _ _ => none := ⟨[], g, Nat.le_refl _, fun _ _ _ h => nomatch h⟩
theorem key2_inj {b a b' a' : Nat} (h : ([(b : Int), (a : Int)] : List Int) = [(b' : Int), (a' : Int)]) : b = b' ∧ a = a' := by
  simp only [List.cons.injEq, and_true] at h
  omega
theorem TabL.put {K : PySem.W.Frag} {P : Program} {w : World} {H : Hp} {d l : Addr} {N : Nat} {T : Nat → Nat → Option (List Nat)} (t : TabL K P w H d N T) {xs : List Nat} (b a : Nat) (hl : H l = some (.lst (vi xs))) (hN : N ≤ 100000) : ∃ kvs, DN K P w H d kvs ∧ kvs.length < sizeLine ∧
    ∀ H', (∀ c, c ≠ d → H' c = H c) → DN K P w H' d (putK kvs [(b : Int), (a : Int)] (.ref l)) → TabL K P w H' d (N + 1) (fun b' a' => if b' = b ∧ a' = a then some xs else T b' a') := by
  obtain ⟨kvs, h1, h2, h3⟩ := t
  have hld : l ≠ d := fun e => by
    obtain ⟨L, g, _⟩ := h1
    rw [e, g] at hl; cases hl
  refine ⟨kvs, h1, sz61 (by omega), fun H' hH g => ⟨_, g, by have := length_putK kvs [(b : Int), (a : Int)] (.ref l); omega, fun b' a' ys e => ?_⟩⟩
  replace e : (if b' = b ∧ a' = a then some xs else T b' a') = some ys := e
  rw [valV_put]
  by_cases z : b' = b ∧ a' = a
  · rw [if_pos z] at e
    cases e
    rw [if_pos (by rw [z.1, z.2])]
    exact ⟨l, rfl, hld, by rw [hH l hld]; exact hl⟩
  · rw [if_neg z] at e
    obtain ⟨m, a1, a2, a3⟩ := h3 b' a' ys e
    rw [if_neg fun q => z (key2_inj q)]
    exact ⟨m, a1, a2, by rw [hH m a2]; exact a3⟩
theorem TabL.list {K : PySem.W.Frag} {P : Program} {w : World} {H : Hp} {d : Addr} {N : Nat} {T : Nat → Nat → Option (List Nat)} (t : TabL K P w H d N T) : ∃ L, H d = some (DXO P w d L) := by
  obtain ⟨kvs, ⟨L, g, _⟩, _⟩ := t
  exact ⟨L, g⟩
section
variable {P : Program} {w : World} {K : PySem.W.Frag} {mg : Str → Option Value} {base : Heap}
def sp_counts_by_size (K : PySem.W.Frag) : Sp := fun vs H Q _ => ∃ (la lb : Addr) (xs ys : List Nat), vs = [.ref la, .ref lb] ∧ H la = some (.lst (vi xs)) ∧ H lb = some (.lst (vi ys)) ∧ xs.length = ys.length ∧ xs.length ≤ 100 ∧ (∀ x, x ∈ xs → x < 2 ^ 4000) ∧ (∀ y, y ∈ ys → y < 2 ^ 4000) ∧ ∀ H' p, Same H H' → H' p = some (.lst (vi (conv xs ys))) → Q (.ref p) H'
theorem ok_counts_by_size (TX : Tx K mg) : FnOk P w K mg base CX0 1 TX.a_counts_by_size TX.fd_counts_by_size ["lefts", "rights"] (sp_counts_by_size K) := by
  refine TX.f_counts_by_size.ok sc_counts_by_size (fun vs H Q E h => ?_) (fun cdv A outer s H vs Q E hr h => ?_)
  · obtain ⟨la, lb, xs, ys, rfl, _⟩ := h; rfl
  · obtain ⟨la, lb, xs, ys, rfl, hxs, hys, hl, hl100, bx, bY, q⟩ := h
    refine ⟨_, (pss_cons (ps_set (i := 2) sc_counts_by_size.nd rfl (.inl rfl) (pe_lst (pa_cons pe_int pa_nil)))
      (pss_cons (ps_for PassesOwn.never rfl (pi_range1 (by rfl) TX.b_range (pa_cons (pe_callB (id := "len") (k_len (K := K) rfl) (by rfl) TX.b_len (by decide +kernel) (pa_cons (pv 0) pa_nil)) pa_nil)) (pg_name (i := 3) sc_counts_by_size.nd rfl (.inl rfl))
        (pss_one (ps_expr (pe_bm PySem.F.plainAttrs_list PySem.F.slot_list_append PySem.F.type_list_append mt_append (pv 2) (pa_cons (pe_callB (id := "sum") (cr_sum rfl) (by rfl) TX.b_sum (by decide +kernel) (pa_cons (pe_lc (own := [("left", 4), ("right", 5)]) (by rfl) sc_counts_by_size.nd (pi_zip (by rfl) TX.b_zip (pa_cons (pv 0) (pa_cons (pe_revF (K := K) rfl (pv 1) (pv 3)) pa_nil))) (blkOk_by (own := [("left", 4), ("right", 5)]) (N := N_counts_by_size) (sc := defScope s_counts_by_size) (by decide +kernel)) (fun _ _ _ _ _ => (k_pgT2 (K := K) rfl rfl (pg_name (i := 4) sc_counts_by_size.nd rfl (Or.inl rfl)) (pg_name (i := 5) sc_counts_by_size.nd rfl (Or.inl rfl)))) (fun _ _ _ _ _ => pts_nil) (fun _ _ _ _ _ => (pe_op op_mulW (pv 4) (pv 5)))) pa_nil)) pa_nil)))))
      (pss_one (ps_ret (pv 2))))), ?_⟩
    refine ⟨sz60 (by simp), fun C nC => ?_⟩
    have s0 := same_upd (o := .lst [V.int 1]) nC
    have hC0 := upd_same (H := H) (a := C) (o := .lst [V.int 1])
    generalize upd H C (.lst [V.int 1]) = H0 at s0 hC0 ⊢
    refine ⟨.ref la, rfl, la, _, rfl, .inl (.inl (.inl (s0 _ _ hxs))), _, rfl, by rw [vi_len]; omega, by rw [vi_len]; omega, ?_⟩
    refine for_range (lo := 0) (n := ((vi xs).length : Int).toNat) (fun t σ G => ∃ y3 y4 y5, σ = [some (.ref la), some (.ref lb), some (.ref C), y3, y4, y5] ∧ Same H G ∧ G C = some (.lst (vi ((conv xs ys).take (t + 1))))) ⟨_, _, _, rfl, s0, hC0⟩ ?_ ?_
    · rintro t σ G ht ⟨y3, y4, y5, rfl, s1, hC⟩
      have ht' : t < xs.length := by rw [vi_len] at ht; omega
      have et : (0 : Int) + (t : Nat) = (t : Int) := by omega
      rw [et]
      have hyG := s1 _ _ hys
      have hxG := s1 _ _ hxs
      refine ⟨.ref C, rfl, .inl ⟨rfl, _, .inl (.inl hC)⟩, .ref la, rfl, .ref lb, rfl, _, rfl, _, rfl, lb, vi ys, t, rfl, rfl, .inl (.inl hyG), by rw [vi_len]; omega, fun R nR => ?_⟩
      have s2 := same_upd (o := .lst ((vi ys).take (t + 1)).reverse) nR
      have hR := upd_same (H := G) (a := R) (o := .lst ((vi ys).take (t + 1)).reverse)
      have er : ((vi ys).take (t + 1)).reverse = vi ((ys.take (t + 1)).reverse) := by
        unfold vi
        rw [← List.map_take, ← List.map_reverse]
      rw [er] at s2 hR ⊢
      generalize upd G R (.lst (vi ((ys.take (t + 1)).reverse))) = G2 at s2 hR ⊢
      have hxG2 := s2 _ _ hxG
      refine ⟨la, R, _, _, rfl, .inl (.inl hxG2), .inl (.inl hR), fun D nD => ?_⟩
      have hmin : min (vi xs).length (vi ((ys.take (t + 1)).reverse)).length = t + 1 := by
        rw [vi_len, vi_len, List.length_reverse, List.length_take]; omega
      refine lc_ints (K := K) (walk_zip (xs := vi xs) (ys := vi ((ys.take (t + 1)).reverse)) rfl) (ci ((List.range (t + 1)).map fun i => xs.getD i 0 * ys.getD (t - i) 0)) (by rw [hmin]; simp [ci]) (by rw [hmin]; omega) nD (fun H' s' => ⟨.inl (.inl (s' _ _ hxG2)), .inl (.inl (s' _ _ hR))⟩) ?_ ?_ mono_pair (fun σ' H' Q Q' h => h _ _)
      · rintro i x H6 H6' hi s6 ⟨T, x1, x2, rfl, nT, rfl, e1, e2⟩ z hz Rq hRq
        rw [hmin] at hi
        have g1 : xs[i]? = some (xs.getD i 0) := by rw [List.getD_eq_getElem?_getD, List.getElem?_eq_getElem (show i < xs.length by omega)]; rfl
        have g2 : ((ys.take (t + 1)).reverse)[i]? = some (ys.getD (t - i) 0) := by
          have hl2 : (ys.take (t + 1)).length = t + 1 := by rw [List.length_take]; omega
          rw [List.getElem?_reverse (by omega), hl2, List.getElem?_take, if_pos (by omega), show t + 1 - 1 - i = t - i by omega, List.getD_eq_getElem?_getD, List.getElem?_eq_getElem (show t - i < ys.length by omega)]
          rfl
        dsimp only at e1 e2
        rw [vi_get g1] at e1
        rw [vi_get g2] at e2
        cases e1
        cases e2
        rw [ci, List.getElem?_map, List.getElem?_map, List.getElem?_range hi] at hz
        cases hz
        have h1 := bx _ (List.mem_of_getElem? g1)
        have h2 : ys.getD (t - i) 0 < 2 ^ 4000 := bY _ (by
          rw [List.getD_eq_getElem?_getD, List.getElem?_eq_getElem (show t - i < ys.length by omega)]
          exact List.getElem_mem _)
        have sT := same_upd (o := .tup [V.int ((xs.getD i 0 : Nat) : Int), V.int ((ys.getD (t - i) 0 : Nat) : Int)]) nT
        refine ⟨T, _, rfl, .inl (.inl upd_same), rfl, _, _, rfl, _, _, rfl, rfl, rfl, rfl, _, rfl, _, rfl, _, _, rfl, rfl, wide_mul (a := 4000) (b := 4000) (by rw [Int.natAbs_natCast]; exact h1) (by rw [Int.natAbs_natCast]; exact h2) (by decide) (by decide) (by decide), ?_⟩
        have := hRq _ sT
        exact this
      · intro G3 s3 hD
        refine ⟨D, _, rfl, .inl (.inl hD), ?_⟩
        have hC3 := s3 _ _ (s2 _ _ hC)
        have hlen : ((conv xs ys).take (t + 1)).length ≤ t + 1 := by rw [List.length_take]; omega
        refine ⟨C, _, _, rfl, rfl, hC3, sz61 (by rw [vi_len]; omega), ?_⟩
        refine ⟨_, _, _, rfl, Same.mut (s1.trans (s2.trans s3)) nC, ?_⟩
        rw [upd_same, ci_sum]
        have e : (conv xs ys).take (t + 1 + 1) = (conv xs ys).take (t + 1) ++ [((List.range (t + 1)).map fun i => xs.getD i 0 * ys.getD (t - i) 0).sum] := by
          rw [List.take_add_one (i := t + 1)]
          congr 1
          unfold conv
          rw [List.getElem?_cons_succ, List.getElem?_map, List.getElem?_range ht']
          rfl
        rw [e, vi_app]; rfl
    · rintro σ G ⟨y3, y4, y5, rfl, s1, hC⟩
      rw [vi_len] at hC
      have e : (conv xs ys).take (((xs.length : Nat) : Int).toNat + 1) = conv xs ys := List.take_of_length_le (by unfold conv; simp)
      rw [e] at hC
      exact ⟨.ref C, rfl, q G C s1 hC⟩
/-- the table of counts within (k, c) for n flushes -/
def cwT (n k c : Nat) : Nat → Nat → Option (List Nat) := fun b a => if k ≤ b + n ∧ b ≤ k ∧ c ≤ a + n ∧ a ≤ c ∧ (k - b) + (c - a) ≤ n then some (cwL b a (n - (k - b) - (c - a))) else none
def sp_counts_within (K : PySem.W.Frag) (P : Program) (w : World) : Sp := fun vs H Q _ => ∃ n k c : Nat, vs = [.int (n : Int), .int (k : Int), .int (c : Int)] ∧ n ≤ 60 ∧ k ≤ 60 ∧ c ≤ 60 ∧ ∀ H' p, Same H H' → TabL K P w H' p 4000 (cwT n k c) → Q (.ref p) H'
theorem ok_counts_within (TX : Tx K mg) : FnOk P w K mg base CX0 2 TX.a_counts_within TX.fd_counts_within ["n", "k", "c"] (sp_counts_within K P w) := by
  refine TX.f_counts_within.ok sc_counts_within (fun vs H Q E h => ?_) (fun cdv A outer s H vs Q E hr h => ?_)
  · obtain ⟨n, k, c, rfl, _⟩ := h; rfl
  · obtain ⟨n, k, c, rfl, hn, hk, hc, q⟩ := h
    refine ⟨_, (pss_cons (ps_set (i := 3) sc_counts_within.nd rfl (.inl rfl) (pe_nnew (K := K) (P := P) (w := w) rfl rfl rfl))
      (pss_cons (ps_for PassesOwn.never rfl (pi_range2 (by rfl) TX.b_range (pa_cons (pe_callB (id := "max") (call_max2 rfl) (by rfl) TX.b_max (by decide +kernel) (pa_cons pe_int (pa_cons (pe_op op_sub (pv 1) (pv 0)) pa_nil))) (pa_cons (pe_op op_add (pv 1) pe_int) pa_nil))) (pg_name (i := 4) sc_counts_within.nd rfl (.inl rfl))
        (pss_one (ps_for PassesOwn.never rfl (pi_range2 (by rfl) TX.b_range (pa_cons (pe_callB (id := "max") (call_max2 rfl) (by rfl) TX.b_max (by decide +kernel) (pa_cons pe_int (pa_cons (pe_op op_sub (pv 2) (pv 0)) pa_nil))) (pa_cons (pe_op op_add (pv 2) pe_int) pa_nil))) (pg_name (i := 5) sc_counts_within.nd rfl (.inl rfl))
          (pss_cons (ps_set (i := 6) sc_counts_within.nd rfl (.inl rfl) (pe_op op_sub (pe_op op_sub (pv 0) (pe_op op_sub (pv 1) (pv 4))) (pe_op op_sub (pv 2) (pv 5))))
          (pss_cons (ps_if (pt_cmpR op_lt (pv 6) pe_int (nomark _))
            (pss_one ps_continue)
            pss_nil)
          (pss_one (ps_if (PW.pt (pw_or (pt_cmpR op_eq (pv 6) pe_int (nomark _)) (pw_or (pt_cmpR op_eq (pv 4) pe_int (nomark _)) (pw_or1 (pt_cmpR op_eq (pv 5) pe_int (nomark _))))))
            (pss_one (ps_nput (K := K) (P := P) (w := w) rfl rfl rfl (hu_of hr) (pv 3) (pe_tup (pa_cons (pv 4) (pa_cons (pv 5) pa_nil))) (pe_op op_cat (pe_lst (pa_cons pe_int pa_nil)) (pe_op op_rep (pe_lst (pa_cons pe_int pa_nil)) (pv 6))) (by rfl)))
            (pss_one (ps_nput (K := K) (P := P) (w := w) rfl rfl rfl (hu_of hr) (pv 3) (pe_tup (pa_cons (pv 4) (pa_cons (pv 5) pa_nil))) (pe_call (ok_counts_by_size TX) (hr.mono (by decide)) (by rfl) TX.g_counts_by_size TX.f_counts_by_size.kp TX.bd_counts_by_size .nil pass0 (pa_cons (pe_nget (K := K) (P := P) (w := w) rfl rfl rfl (hu_of hr) (pv 3) (pe_tup (pa_cons (pv 4) (pa_cons (pe_op op_sub (pv 5) pe_int) pa_nil))) (fun _ _ => rfl)) (pa_cons (pe_nget (K := K) (P := P) (w := w) rfl rfl rfl (hu_of hr) (pv 3) (pe_tup (pa_cons (pe_op op_sub (pv 4) pe_int) (pa_cons (pv 5) pa_nil))) (fun _ _ => rfl)) pa_nil))) (by rfl))))))))))
      (pss_one (ps_ret (pv 3))))), ?_⟩
    refine fun d H0 nd s0 hd => ?_
    have emax : ∀ x y : Nat, (if ((x : Int) - (y : Int)) > 0 then ((x : Int) - (y : Int)) else 0) = ((x - y : Nat) : Int) := fun x y => by split <;> omega
    refine ⟨_, rfl, _, rfl, _, _, rfl, rfl, _, _, rfl, _, rfl, _, _, rfl, rfl, _, _, rfl, ?_, ?_⟩
    · rw [emax]; exact ⟨by omega, by omega, by omega, by omega⟩
    rw [emax]
    refine for_range (lo := ((k - n : Nat) : Int)) (n := ((k : Int) + 1 - ((k - n : Nat) : Int)).toNat) (fun i σ G => ∃ y4 y5 y6, σ = [some (.int (n : Int)), some (.int (k : Int)), some (.int (c : Int)), some (.ref d), y4, y5, y6] ∧ Same H G ∧ TabL K P w G d (61 * i) (fun b a => if b < k - n + i then cwT n k c b a else none)) ⟨_, _, _, rfl, s0, (TabL.new hd).extN fun b a xs e => by
      by_cases h : b < k - n + 0
      · rw [if_pos h] at e
        unfold cwT at e
        rw [if_neg (by omega)] at e; cases e
      · rw [if_neg h] at e; cases e⟩ ?_ ?_
    rotate_left
    · rintro σ G ⟨y4, y5, y6, rfl, s1, t1⟩
      refine ⟨.ref d, rfl, q G d s1 ?_⟩
      obtain ⟨kvs, g1, g2, g3⟩ := t1
      refine ⟨kvs, g1, by omega, fun b a xs e => g3 b a xs ?_⟩
      dsimp only
      have hb : b ≤ k := by
        unfold cwT at e
        by_cases h : k ≤ b + n ∧ b ≤ k ∧ c ≤ a + n ∧ a ≤ c ∧ (k - b) + (c - a) ≤ n
        · exact h.2.1
        · rw [if_neg h] at e; cases e
      rw [if_pos (by omega)]; exact e
    rintro i σ G hi ⟨y4, y5, y6, rfl, s1, t1⟩
    obtain ⟨b, hb⟩ : ∃ b, b = k - n + i := ⟨_, rfl⟩
    have hbk : b ≤ k := by omega
    have eb : ((k - n : Nat) : Int) + (i : Nat) = (b : Int) := by omega
    rw [eb]
    refine ⟨_, rfl, _, rfl, _, _, rfl, rfl, _, _, rfl, _, rfl, _, _, rfl, rfl, _, _, rfl, ?_, ?_⟩
    · rw [emax]; exact ⟨by omega, by omega, by omega, by omega⟩
    rw [emax]
    refine for_range (lo := ((c - n : Nat) : Int)) (n := ((c : Int) + 1 - ((c - n : Nat) : Int)).toNat) (fun j σ G => ∃ y5 y6, σ = [some (.int (n : Int)), some (.int (k : Int)), some (.int (c : Int)), some (.ref d), some (.int (b : Int)), y5, y6] ∧ Same H G ∧ TabL K P w G d (61 * i + j) (fun b' a => if b' < b ∨ (b' = b ∧ a < c - n + j) then cwT n k c b' a else none)) ⟨_, _, rfl, s1, t1.extN fun b' a xs e => by
      by_cases h : b' < b ∨ (b' = b ∧ a < c - n + 0)
      · rw [if_pos h] at e
        rcases h with h | ⟨h, h2⟩
        · rw [if_pos (by omega)]; exact e
        · unfold cwT at e
          rw [if_neg (by omega)] at e; cases e
      · rw [if_neg h] at e; cases e⟩ ?_ ?_
    rotate_left
    · rintro σ G2 ⟨y5, y6, rfl, s2, t2⟩
      refine ⟨_, _, _, rfl, s2, ?_⟩
      obtain ⟨kvs, g1, g2, g3⟩ := t2
      refine ⟨kvs, g1, by omega, fun b' a xs e => g3 b' a xs ?_⟩
      dsimp only at e ⊢
      by_cases h : b' < k - n + (i + 1)
      · rw [if_pos h] at e
        have ha : a ≤ c := by
          unfold cwT at e
          by_cases h : k ≤ b' + n ∧ b' ≤ k ∧ c ≤ a + n ∧ a ≤ c ∧ (k - b') + (c - a) ≤ n
          · exact h.2.2.2.1
          · rw [if_neg h] at e; cases e
        rw [if_pos (by omega)]; exact e
      · rw [if_neg h] at e; cases e
    rintro j σ G2 hj ⟨y5, y6, rfl, s2, t2⟩
    obtain ⟨a, ha⟩ : ∃ a, a = c - n + j := ⟨_, rfl⟩
    have hac : a ≤ c := by omega
    have ea : ((c - n : Nat) : Int) + (j : Nat) = (a : Int) := by omega
    rw [ea]
    have same' : ∀ {G3 G4 : Hp}, Same H G3 → (∀ u, u ≠ d → G4 u = G3 u) → Same H G4 := fun s h u o e => by
      have hu : u ≠ d := fun z => by rw [z, nd] at e; cases e
      rw [h u hu]; exact s _ _ e
    refine ⟨_, rfl, _, rfl, _, rfl, _, _, rfl, rfl, _, _, rfl, rfl, _, rfl, _, rfl, _, _, rfl, rfl, _, _, rfl, rfl, _, rfl, _, _, rfl, rfl, _, rfl, ?_⟩
    by_cases hm : (k - b) + (c - a) ≤ n
    · refine decF (by omega) ?_
      obtain ⟨m, em⟩ : ∃ m, m = n - (k - b) - (c - a) := ⟨_, rfl⟩
      have eM : (n : Int) - ((k : Int) - (b : Int)) - ((c : Int) - (a : Int)) = (m : Int) := by omega
      have hT : cwT n k c b a = some (cwL b a m) := by
        unfold cwT
        rw [if_pos (by omega), em]
      have fin : ∀ {G3 : Hp} {l : Addr} {y6 : Option V}, Same G2 G3 → G3 l = some (.lst (vi (cwL b a m))) → ∃ kvs, DN K P w G3 d kvs ∧ kvs.length < sizeLine ∧ DNput K P w G3 d kvs [(b : Int), (a : Int)] (.ref l) fun G4 => ∃ y5 y6', [some (V.int (n : Int)), some (.int (k : Int)), some (.int (c : Int)), some (.ref d), some (.int (b : Int)), some (.int (a : Int)), y6] = [some (.int (n : Int)), some (.int (k : Int)), some (.int (c : Int)), some (.ref d), some (.int (b : Int)), y5, y6'] ∧ Same H G4 ∧ TabL K P w G4 d (61 * i + (j + 1)) (fun b' a => if b' < b ∨ (b' = b ∧ a < c - n + (j + 1)) then cwT n k c b' a else none) := fun {G3 l y6} s3 hl => by
        obtain ⟨kvs, h1, h2, h3⟩ := (t2.same s3).put b a hl (by omega)
        refine ⟨kvs, h1, h2, fun G4 k1 _ k3 => ⟨_, _, rfl, same' (s2.trans s3) k1, (h3 G4 k1 k3).extN fun b' a' xs e => ?_⟩⟩
        by_cases h : b' = b ∧ a' = a
        · rw [if_pos h]
          rw [if_pos (by omega), h.1, h.2, hT] at e
          exact e
        · rw [if_neg h]
          by_cases h2 : b' < b ∨ (b' = b ∧ a' < c - n + (j + 1))
          · rw [if_pos h2] at e
            rw [if_pos (by omega)]; exact e
          · rw [if_neg h2] at e; cases e
      dsimp only
      rw [eM]
      have tor : ∀ Qb : Bool → Hp → Prop, Qb (decide (m = 0 ∨ b = 0 ∨ a = 0)) G2 → tOr (tTest (tOp rEq (tVar 6) (tC (V.int 0)))) (tOr (tTest (tOp rEq (tVar 4) (tC (V.int 0)))) (tTest (tOp rEq (tVar 5) (tC (V.int 0))))) (([some (V.int (n : Int)), some (V.int (k : Int)), some (V.int (c : Int)), some (V.ref d), some (V.int (b : Int)), y5, y6].set 5 (some (V.int (a : Int)))).set 6 (some (V.int (m : Int)))) G2 Qb := fun Qb hq => by
        refine ⟨_, rfl, rfl, _, rfl, ?_⟩
        by_cases h1 : m = 0
        · refine decT (by rw [h1]; rfl) ?_
          rw [decide_eq_true (.inl h1)] at hq; exact hq
        refine decF (int_ne (by omega)) ⟨_, rfl, rfl, _, rfl, ?_⟩
        by_cases h2 : b = 0
        · refine decT (by rw [h2]; rfl) ?_
          rw [decide_eq_true (.inr (.inl h2))] at hq; exact hq
        refine decF (int_ne (by omega)) ⟨_, rfl, rfl, _, rfl, ?_⟩
        by_cases h3 : a = 0
        · rw [decide_eq_true (.inr (.inr h3))] at hq
          rw [decide_eq_true (by rw [h3]; rfl)]; exact hq
        · rw [decide_eq_false (by omega)] at hq
          rw [decide_eq_false (int_ne (by omega))]; exact hq
      refine tor _ ?_
      have hdk := fun {G3 : Hp} (s3 : Same G2 G3) => (t2.same s3)
      by_cases he : m = 0 ∨ b = 0 ∨ a = 0
      · refine decT he ?_
        refine ⟨sz60 (by simp), fun l1 n1 => ⟨sz60 (by simp), fun l2 n2 => ⟨_, rfl, l2, _, _, rfl, rfl, upd_same, by omega, by omega, sz60 (by simp; omega), fun l3 n3 => ⟨l1, l3, [V.int 1], _, rfl, rfl, ?_, upd_same, sz60 (by rw [List.flatten_replicate_singleton]; simp; omega), fun l4 n4 => ?_⟩⟩⟩⟩
        · exact same_upd n3 _ _ (same_upd n2 _ _ upd_same)
        have z4 := ((same_upd n1 (o := .lst [V.int 1])).trans (same_upd n2 (o := .lst [V.int 0]))).trans ((same_upd n3).trans (same_upd n4 (o := .lst ([V.int 1] ++ (List.replicate ((m : Nat) : Int).toNat [V.int 0]).flatten))))
        have hl4 := upd_same (H := upd (upd (upd G2 l1 (.lst [V.int 1])) l2 (.lst [V.int 0])) l3 (.lst (List.replicate ((m : Nat) : Int).toNat [V.int 0]).flatten)) (a := l4) (o := .lst ([V.int 1] ++ (List.replicate ((m : Nat) : Int).toNat [V.int 0]).flatten))
        generalize upd (upd (upd (upd G2 l1 _) l2 _) l3 _) l4 _ = G3 at z4 hl4 ⊢
        have el : [V.int 1] ++ (List.replicate ((m : Nat) : Int).toNat [V.int 0]).flatten = vi (cwL b a m) := by
          rw [cwL_edge he, Int.toNat_natCast, List.flatten_replicate_singleton]
          show V.int 1 :: List.replicate m (V.int 0) = vi (1 :: List.replicate m 0)
          have := vi_rep m 0
          show _ = V.int 1 :: vi (List.replicate m 0)
          rw [this]; rfl
        rw [el] at hl4
        refine ⟨.ref d, rfl, _, rfl, _, rfl, sz60 (by simp), fun t nt => ?_⟩
        have z5 := same_upd (o := .tup [V.int (b : Int), V.int (a : Int)]) nt
        obtain ⟨kvs, h1, h2, h3⟩ := fin (y6 := some (V.int (m : Int))) (z4.trans z5) (z5 _ _ hl4)
        exact ⟨d, t, kvs, [(b : Int), (a : Int)], rfl, rfl, h1, .inl (.inl upd_same), h2, h3⟩
      · refine decF he ?_
        obtain ⟨b', rfl⟩ : ∃ b', b = b' + 1 := ⟨b - 1, by omega⟩
        obtain ⟨a', rfl⟩ : ∃ a', a = a' + 1 := ⟨a - 1, by omega⟩
        obtain ⟨m', rfl⟩ : ∃ m', m = m' + 1 := ⟨m - 1, by omega⟩
        have hT1 : (if b' + 1 < b' + 1 ∨ (b' + 1 = b' + 1 ∧ a' < c - n + j) then cwT n k c (b' + 1) a' else none) = some (cwL (b' + 1) a' m') := by
          rw [if_pos (by omega)]
          unfold cwT
          rw [if_pos (by omega)]
          congr 2; omega
        have hT2 : (if b' < b' + 1 ∨ (b' = b' + 1 ∧ a' + 1 < c - n + j) then cwT n k c b' (a' + 1) else none) = some (cwL b' (a' + 1) m') := by
          rw [if_pos (by omega)]
          unfold cwT
          rw [if_pos (by omega)]
          congr 2; omega
        have ea1 : ((a' + 1 : Nat) : Int) - 1 = (a' : Int) := by omega
        have eb1 : ((b' + 1 : Nat) : Int) - 1 = (b' : Int) := by omega
        refine ⟨.ref d, rfl, _, rfl, _, rfl, _, _, rfl, rfl, sz60 (by simp), fun t1 n1 => ?_⟩
        have z1 := same_upd (o := .tup [V.int ((b' + 1 : Nat) : Int), V.int (((a' + 1 : Nat) : Int) - 1)]) n1
        obtain ⟨kvs1, l1, g1, g2, g3⟩ := (t2.same z1).at hT1
        refine ⟨d, t1, kvs1, [((b' + 1 : Nat) : Int), (a' : Int)], .ref l1, rfl, rfl, g1, by rw [← ea1]; exact .inl (.inl upd_same), g2, ?_⟩
        generalize upd G2 t1 _ = G3 at z1 g1 g3 ⊢
        refine ⟨.ref d, rfl, _, rfl, _, _, rfl, rfl, _, rfl, sz60 (by simp), fun t3 n3 => ?_⟩
        have z3 := same_upd (o := .tup [V.int (((b' + 1 : Nat) : Int) - 1), V.int ((a' + 1 : Nat) : Int)]) n3
        obtain ⟨kvs2, l2, f1, f2, f3⟩ := (t2.same (z1.trans z3)).at hT2
        refine ⟨d, t3, kvs2, [(b' : Int), ((a' + 1 : Nat) : Int)], .ref l2, rfl, rfl, f1, by rw [← eb1]; exact .inl (.inl upd_same), f2, ?_⟩
        generalize upd G3 t3 _ = G4 at z3 f1 f3 ⊢
        have bnd : ∀ b a m : Nat, m ≤ 60 → ∀ x, x ∈ cwL b a m → x < 2 ^ 4000 := fun b a m hm x hx => by
          obtain ⟨s, hs, rfl⟩ := List.mem_map.mp hx
          have := List.mem_range.mp hs
          exact nB_lt (by omega)
        refine ⟨l1, l2, cwL (b' + 1) a' m', cwL b' (a' + 1) m', rfl, z3 _ _ g3, f3, by rw [cwL_len, cwL_len], by rw [cwL_len]; omega, bnd _ _ _ (by omega), bnd _ _ _ (by omega), fun G5 l5 s5 hl5 => ?_⟩
        rw [cwL_conv] at hl5
        refine ⟨.ref d, rfl, _, rfl, _, rfl, sz60 (by simp), fun t nt => ?_⟩
        have z5 := same_upd (o := .tup [V.int ((b' + 1 : Nat) : Int), V.int ((a' + 1 : Nat) : Int)]) nt
        obtain ⟨kvs, h1, h2, h3⟩ := fin (y6 := some (V.int ((m' + 1 : Nat) : Int))) ((z1.trans z3).trans (s5.trans z5)) (z5 _ _ hl5)
        exact ⟨d, t, kvs, [((b' + 1 : Nat) : Int), ((a' + 1 : Nat) : Int)], rfl, rfl, h1, .inl (.inl upd_same), h2, h3⟩
    · refine decT (by omega) ?_
      refine ⟨_, _, rfl, s2, ?_⟩
      obtain ⟨kvs, g1, g2, g3⟩ := t2
      refine ⟨kvs, g1, by omega, fun b' a' xs e => g3 b' a' xs ?_⟩
      dsimp only at e ⊢
      by_cases h : b' < b ∨ (b' = b ∧ a' < c - n + (j + 1))
      · rw [if_pos h] at e
        by_cases h2 : b' = b ∧ a' = a
        · unfold cwT at e
          rw [if_neg (by omega)] at e; cases e
        · rw [if_pos (by omega)]; exact e
      · rw [if_neg h] at e; cases e
end
section
variable {P : Program} {w : World} {K : PySem.W.Frag} {mg : Str → Option Value} {base : Heap}
def sp_count_within (K : PySem.W.Frag) : Sp := fun vs H Q _ => ∃ n k c : Nat, vs = [.int (n : Int), .int (k : Int), .int (c : Int)] ∧ n ≤ 60 ∧ k ≤ 60 ∧ c ≤ 60 ∧ ∀ H', Same H H' → Q (.int (nB k c n : Int)) H'
theorem ok_count_within (TX : Tx K mg) : FnOk P w K mg base CX0 5 TX.a_count_within TX.fd_count_within ["n", "k", "c"] (sp_count_within K) := by
  refine TX.f_count_within.ok sc_count_within (fun vs H Q E h => ?_) (fun cdv A outer s H vs Q E hr h => ?_)
  · obtain ⟨n, k, c, rfl, _⟩ := h; rfl
  · obtain ⟨n, k, c, rfl, hn, hk, hc, q⟩ := h
    refine ⟨_, (pss_cons (ps_expr (pe_call (ok_check_flushes TX) (hr.mono (by decide)) (by rfl) TX.g_check_flushes TX.f_check_flushes.kp TX.bd_check_flushes .nil pass0 (pa_cons (pv 0) pa_nil)))
      (pss_cons (ps_expr (pe_call (ok_check_budgets TX) (hr.mono (by decide)) (by rfl) TX.g_check_budgets TX.f_check_budgets.kp TX.bd_check_budgets .nil pass0 (pa_cons (pv 1) (pa_cons (pv 2) (pa_cons (pe_glob (v := .int (60)) (by rfl) TX.c_MOST_BUDGET ⟨_, rfl⟩) pa_nil)))))
      (pss_one (ps_ret (pe_ix (k_ixL (K := K) rfl) (pe_nget (K := K) (P := P) (w := w) rfl rfl rfl (hu_of hr) (pe_call (ok_counts_within TX) (hr.mono (by decide)) (by rfl) TX.g_counts_within TX.f_counts_within.kp TX.bd_counts_within .nil pass0 (pa_cons (pv 0) (pa_cons (pv 1) (pa_cons (pv 2) pa_nil)))) (pe_tup (pa_cons (pv 1) (pa_cons (pv 2) pa_nil))) (fun _ _ => rfl)) (pv 0) (fun _ _ => rfl)))))), ?_⟩
    have hT : cwT n k c k c = some (cwL k c n) := by
      unfold cwT
      rw [if_pos (by omega)]
      congr 2; omega
    refine ⟨_, rfl, n, rfl, hn, _, rfl, _, rfl, _, _, _, rfl, by omega, by omega, by omega, by omega, fun H1 s1 => ?_⟩
    refine ⟨_, rfl, _, rfl, _, rfl, n, k, c, rfl, hn, hk, hc, fun H2 d s2 t2 => ⟨_, rfl, _, rfl, sz60 (by simp), fun t nt => ?_⟩⟩
    have z3 := same_upd (o := .tup [V.int (k : Int), V.int (c : Int)]) nt
    obtain ⟨kvs, l, g1, g2, g3⟩ := (t2.same z3).at hT
    refine ⟨d, t, kvs, [(k : Int), (c : Int)], .ref l, rfl, rfl, g1, .inl (.inl upd_same), g2, _, rfl, ?_⟩
    exact ⟨l, _, _, _, rfl, rfl, .inl (.inl g3), at_vi (cwL_get (Nat.le_refl n)), q _ (s1.trans (s2.trans z3))⟩
end
/-! ### the place of a tree among those of its size within budgets -/
def Wi : T → Nat → Nat → Prop
  | .nil, _, _ => True
  | .node l r, b, a => 1 ≤ b ∧ 1 ≤ a ∧ Wi l b (a - 1) ∧ Wi r (b - 1) a
/-- those whose roots stand before the o-th -/
def pfs (b a s : Nat) (o : Nat) : Nat := ((List.range o).map fun i => nB b (a - 1) i * nB (b - 1) a (s - i)).sum
def plc : T → Nat → Nat → Nat
  | .nil, _, _ => 0
  | .node l r, b, a => pfs b a (l.size + r.size) l.size + plc l b (a - 1) * nB (b - 1) a r.size + plc r (b - 1) a
theorem pfs_succ (b a s o : Nat) : pfs b a s (o + 1) = pfs b a s o + nB b (a - 1) o * nB (b - 1) a (s - o) := by
  unfold pfs
  rw [List.range_succ, List.map_append, List.sum_append]
  simp
theorem pfs_le {b a s : Nat} {i n : Nat} (h : i ≤ n) : pfs b a s i ≤ pfs b a s n := by
  induction n with
  | zero => rw [show i = 0 by omega]; exact Nat.le_refl _
  | succ n ih =>
    by_cases e : i = n + 1
    · rw [e]; exact Nat.le_refl _
    · have := ih (by omega)
      rw [pfs_succ]; omega
theorem nB_pfs {b a s : Nat} (hb : 1 ≤ b) (ha : 1 ≤ a) : nB b a (s + 1) = pfs b a s (s + 1) := by
  obtain ⟨b', rfl⟩ : ∃ b', b = b' + 1 := ⟨b - 1, by omega⟩
  obtain ⟨a', rfl⟩ : ∃ a', a = a' + 1 := ⟨a - 1, by omega⟩
  rw [nB_s]; rfl
theorem plc_lt : ∀ {t : T} {b a : Nat}, Wi t b a → plc t b a < nB b a t.size
  | .nil, b, a, _ => by
    show 0 < nB b a 0
    rw [nB_z]; exact Nat.one_pos
  | .node l r, b, a, ⟨hb, ha, hl, hr⟩ => by
    have h1 := plc_lt hl
    have h2 := plc_lt hr
    have e : (T.node l r).size = (l.size + r.size) + 1 := by show l.size + 1 + r.size = _; omega
    rw [e, nB_pfs hb ha]
    have h3 := pfs_le (b := b) (a := a) (s := l.size + r.size) (i := l.size + 1) (n := l.size + r.size + 1) (by omega)
    rw [pfs_succ, show l.size + r.size - l.size = r.size by omega] at h3
    show pfs b a (l.size + r.size) l.size + plc l b (a - 1) * nB (b - 1) a r.size + plc r (b - 1) a < _
    have h4 := Nat.mul_le_mul_right (nB (b - 1) a r.size) (show plc l b (a - 1) + 1 ≤ nB b (a - 1) l.size by omega)
    rw [Nat.succ_mul] at h4
    omega
/-- the rest before the root's own product -/
theorem plc_rest {l r : T} {b a : Nat} (h : Wi (.node l r) b a) : (plc l b (a - 1) * nB (b - 1) a r.size + plc r (b - 1) a) / nB (b - 1) a r.size = plc l b (a - 1) ∧ (plc l b (a - 1) * nB (b - 1) a r.size + plc r (b - 1) a) % nB (b - 1) a r.size = plc r (b - 1) a ∧ plc l b (a - 1) * nB (b - 1) a r.size + plc r (b - 1) a < nB b (a - 1) l.size * nB (b - 1) a r.size := by
  obtain ⟨hb, ha, hl, hr⟩ := h
  have h1 := plc_lt hl
  have h2 := plc_lt hr
  refine ⟨?_, ?_, ?_⟩
  · rw [Nat.mul_comm, Nat.mul_add_div (by omega), Nat.div_eq_of_lt h2]; rfl
  · rw [Nat.mul_comm, Nat.mul_add_mod, Nat.mod_eq_of_lt h2]
  · have h4 := Nat.mul_le_mul_right (nB (b - 1) a r.size) (show plc l b (a - 1) + 1 ≤ nB b (a - 1) l.size by omega)
    rw [Nat.succ_mul] at h4
    omega
theorem wi_mono : ∀ {t : T} {b a b' a' : Nat}, Wi t b a → b ≤ b' → a ≤ a' → Wi t b' a'
  | .nil, _, _, _, _, _, _, _ => trivial
  | .node l r, b, a, b', a', ⟨hb, ha, hl, hr⟩, h1, h2 => ⟨by omega, by omega, wi_mono hl h1 (by omega), wi_mono hr (by omega) h2⟩
/-- a tree is within budgets of its own size -/
theorem wi_size : ∀ {t : T} {b a : Nat}, t.size ≤ b → t.size ≤ a → Wi t b a
  | .nil, _, _, _, _ => trivial
  | .node l r, b, a, h1, h2 => by
    have e : (T.node l r).size = l.size + 1 + r.size := rfl
    exact ⟨by omega, by omega, wi_size (by omega) (by omega), wi_size (by omega) (by omega)⟩
theorem wi_of : ∀ {t : T} {b a : Nat}, (∀ x, x ∈ t.rc → x ≤ b) → (∀ x, x ∈ t.wr → x ≤ a) → Wi t b a
  | .nil, _, _, _, _ => trivial
  | .node l r, b, a, h1, h2 => by
    have e1 : (T.node l r).rc = l.rc ++ 1 :: r.rc.map (· + 1) := by simp [T.rc]
    have e2 : (T.node l r).wr = l.wr.map (· + 1) ++ 1 :: r.wr := by simp [T.wr]
    rw [e1] at h1
    rw [e2] at h2
    have p1 := h1 1 (by simp)
    have p2 := h2 1 (by simp)
    refine ⟨p1, p2, wi_of (fun x hx => h1 x (by simp [hx])) (fun x hx => ?_), wi_of (fun x hx => ?_) (fun x hx => h2 x (by simp [hx]))⟩
    · have := h2 (x + 1) (by simp [hx]); omega
    · have := h1 (x + 1) (by simp [hx]); omega
theorem wi_rc : ∀ {t : T} {b a : Nat}, Wi t b a → (∀ x, x ∈ t.rc → x ≤ b) ∧ ∀ x, x ∈ t.wr → x ≤ a
  | .nil, _, _, _ => ⟨(fun x h => nomatch h), (fun x h => nomatch h)⟩
  | .node l r, b, a, ⟨hb, ha, hl, hr⟩ => by
    have e1 : (T.node l r).rc = l.rc ++ 1 :: r.rc.map (· + 1) := by simp [T.rc]
    have e2 : (T.node l r).wr = l.wr.map (· + 1) ++ 1 :: r.wr := by simp [T.wr]
    obtain ⟨l1, l2⟩ := wi_rc hl
    obtain ⟨r1, r2⟩ := wi_rc hr
    rw [e1, e2]
    refine ⟨fun x hx => ?_, fun x hx => ?_⟩
    · rcases List.mem_append.mp hx with h | h
      · exact l1 x h
      · rcases List.mem_cons.mp h with rfl | h
        · exact hb
        · obtain ⟨y, hy, rfl⟩ := List.mem_map.mp h
          have := r1 y hy; omega
    · rcases List.mem_append.mp hx with h | h
      · obtain ⟨y, hy, rfl⟩ := List.mem_map.mp h
        have := l2 y hy; omega
      · rcases List.mem_cons.mp h with rfl | h
        · exact ha
        · exact r2 x h
section
variable {P : Program} {w : World} {K : PySem.W.Frag} {mg : Str → Option Value} {base : Heap}
def sp_root_of (K : PySem.W.Frag) : Sp := fun vs H Q _ => ∃ (a : Addr) (l r : T), vs = [.ref a] ∧ SqT K H a (vi (T.node l r).sch) ∧ (T.node l r).size ≤ 60 ∧ ∀ H', Same H H' → Q (.int (l.size : Int)) H'
theorem ok_root_of (TX : Tx K mg) : FnOk P w K mg base CX0 1 TX.a_root_of TX.fd_root_of ["schedule"] (sp_root_of K) := by
  refine TX.f_root_of.ok sc_root_of (fun vs H Q E h => ?_) (fun cdv A outer s H vs Q E hr h => ?_)
  · obtain ⟨a, l, r, rfl, _⟩ := h; rfl
  · obtain ⟨a, l, r, rfl, hS, hz, q⟩ := h
    refine ⟨_, (pss_cons (ps_set (i := 1) sc_root_of.nd rfl (.inl rfl) pe_int)
      (pss_cons (ps_set (i := 2) sc_root_of.nd rfl (.inl rfl) pe_int)
      (pss_cons (ps_for PassesOwn.never rfl (pi_enumT (by rfl) TX.b_enumerate (pa_cons (pv 0) pa_nil)) (pg_tup rfl (pgs_cons (pg_name (i := 3) sc_root_of.nd rfl (.inl rfl)) (pgs_cons (pg_name (i := 4) sc_root_of.nd rfl (.inl rfl)) pgs_nil)))
        (pss_cons (ps_aug (i := 2) sc_root_of.nd rfl (.inl rfl) (pe_op op_sub pe_int (pv 4)) ip_add)
        (pss_one (ps_if (pt_cmpR op_eq (pv 2) pe_int (nomark _))
          (pss_one (ps_set (i := 1) sc_root_of.nd rfl (.inl rfl) (pv 3)))
          pss_nil))))
      (pss_one (ps_ret (pv 1)))))), ?_⟩
    have hlen : (vi (T.node l r).sch).length = (T.node l r).size := by rw [vi_len, T.sch_len]
    refine ⟨.ref a, rfl, a, _, rfl, hS, for_it walk_enumT (fun i σ H' => ∃ (ρ : Int) (y3 y4 : Option V), σ = [some (.ref a), some (.int ρ), some (.int ((pre (.node l r) i).runs : Int)), y3, y4] ∧ Same H H' ∧ (l.size < i → ρ = (l.size : Int))) ⟨0, none, none, rfl, Same.refl _, fun h => absurd h (Nat.not_lt_zero _)⟩ (fun i σ H' _ ⟨_, _, _, _, h, _⟩ => Same.tup h hS) ?_ ?_⟩
    · rintro i x σ H2 H3 hi ⟨ρ, y3, y4, rfl, sm, hρ⟩ hy
      obtain ⟨Tp, x1, x2, rfl, nT, rfl, e1, e2⟩ := hy
      cases e1
      have hi' : i < (T.node l r).sch.length := by rw [vi_len] at hi; exact hi
      have hi2 : i < (T.node l r).size := by rw [← T.sch_len]; exact hi'
      have hm := List.getElem?_eq_getElem hi'
      replace e2 : (vi (T.node l r).sch)[i]? = some x2 := e2
      rw [vi_get hm] at e2
      cases e2
      obtain ⟨g1, g2⟩ := pre_succ hm
      have g3 := T.push_runs _ _ g2
      have g4 := pre_runs hi2
      obtain ⟨m, hmm⟩ : ∃ m, m = (T.node l r).sch[i] := ⟨_, rfl⟩
      rw [← hmm] at hm g1 g2 g3 ⊢
      have sT : Same H2 (upd H2 Tp (.tup [.int (i : Nat), .int (m : Int)])) := same_upd nT
      have er : ((pre (.node l r) i).runs : Int) + (1 - (m : Int)) = ((pre (.node l r) (i + 1)).runs : Int) := by rw [g1, g3]; omega
      refine ⟨Tp, _, rfl, .inl (.inl upd_same), rfl, _, _, rfl, _, _, rfl, rfl, ?_⟩
      refine ⟨_, rfl, _, rfl, _, _, rfl, rfl, _, _, rfl, rfl, ?_⟩
      refine ⟨_, rfl, rfl, _, rfl, ?_⟩
      by_cases h1 : (pre (.node l r) (i + 1)).runs = 1
      rotate_left
      · refine decF (int_ne (by dsimp only; rw [er]; omega)) ?_
        refine ⟨ρ, some (.int (i : Int)), some (.int (m : Int)), ?_, sm.trans sT, fun h => ?_⟩
        · show [_, _, _, _, _] = [_, _, _, _, _]
          rw [← er]
        · refine hρ ?_
          have := rc_root l r
          by_cases e : i = l.size
          · rw [e, this] at g4
            exact absurd (Option.some.inj g4).symm (by rw [← e]; exact h1)
          · omega
      · refine decT (by dsimp only; rw [er, h1]; rfl) ?_
        refine ⟨_, rfl, (i : Int), some (.int (i : Int)), some (.int (m : Int)), ?_, sm.trans sT, fun h => ?_⟩
        · show [_, _, _, _, _] = [_, _, _, _, _]
          rw [← er]
        · have : i ≤ l.size := rc_one (r := r) (by rw [g4, h1])
          omega
    · rintro σ H' ⟨ρ, y3, y4, rfl, sm, hρ⟩
      exact ⟨_, rfl, by rw [hρ (by rw [hlen]; show l.size < l.size + 1 + r.size; omega)]; exact q _ sm⟩
end
section
variable {P : Program} {w : World} {K : PySem.W.Frag} {mg : Str → Option Value} {base : Heap}
theorem pfs_ci (b a s n : Nat) : ((List.range n).map fun o => ((nB b (a - 1) o * nB (b - 1) a (s - o) : Nat) : Int)).sum = (pfs b a s n : Int) := by
  induction n with
  | zero => rfl
  | succ n ih =>
    rw [List.range_succ, List.map_append, List.sum_append, ih, pfs_succ]
    simp
theorem cwT_left {n k c b a s : Nat} (hn : (k - b) + (c - a) + (s + 1) ≤ n) (hb : b ≤ k) (ha : a ≤ c) (ha1 : 1 ≤ a) : cwT n k c b (a - 1) = some (cwL b (a - 1) (n - (k - b) - (c - (a - 1)))) ∧ s ≤ n - (k - b) - (c - (a - 1)) := by
  unfold cwT
  rw [if_pos (by omega)]
  exact ⟨rfl, by omega⟩
theorem cwT_right {n k c b a s : Nat} (hn : (k - b) + (c - a) + (s + 1) ≤ n) (hb : b ≤ k) (ha : a ≤ c) (hb1 : 1 ≤ b) : cwT n k c (b - 1) a = some (cwL (b - 1) a (n - (k - (b - 1)) - (c - a))) ∧ s ≤ n - (k - (b - 1)) - (c - a) := by
  unfold cwT
  rw [if_pos (by omega)]
  exact ⟨rfl, by omega⟩
def spq_plc (m : Nat) (K : PySem.W.Frag) (P : Program) (w : World) : Sp := fun vs H Q _ => ∃ (x d : Addr) (t : T) (b a n k c N : Nat), vs = [.ref x, .int (b : Int), .int (a : Int), .ref d] ∧ SqT K H x (vi t.sch) ∧ TabL K P w H d N (cwT n k c) ∧ n ≤ 60 ∧ b ≤ k ∧ a ≤ c ∧ (k - b) + (c - a) + t.size ≤ n ∧ Wi t b a ∧ t.size < m ∧ ∀ H', Same H H' → Q (.int (plc t b a : Int)) H'
theorem okq_plc (TX : Tx K mg) : ∀ m : Nat, FnOk P w K mg base CX0 (1 + m) TX.a_place_of TX.fd_place_of ["schedule", "b", "a", "counts"] (spq_plc m K P w)
  | 0 => ⟨fun vs H Q E h => by obtain ⟨_, _, t, _, _, _, _, _, _, _, _, _, _, _, _, _, _, h, _⟩ := h; omega, fun A outer s H args us vs Q E _ _ _ _ h => by obtain ⟨_, _, t, _, _, _, _, _, _, _, _, _, _, _, _, _, _, h, _⟩ := h; omega⟩
  | m + 1 => by
    have ih := okq_plc TX m
    refine TX.f_place_of.ok (k := 1 + m) sc_place_of (fun vs H Q E h => ?_) (fun cdv A outer s H vs Q E hr h => ?_)
    · obtain ⟨x, d, t, b, a, n, k, c, N, rfl, _⟩ := h; rfl
    · obtain ⟨x, d, t, b, a, n, k, c, N, rfl, hS, hT, hn, hb, ha, hz, hw, hm, q⟩ := h
      refine ⟨_, (pss_cons (ps_if (pt_not (pt_truth (pv 0) (by intro _; rfl)))
        (pss_one (ps_ret pe_int))
        pss_nil)
      (pss_cons (ps_set (i := 4) sc_place_of.nd rfl (.inl rfl) (pe_call (ok_root_of TX) (hr.mono (by omega)) (by rfl) TX.g_root_of TX.f_root_of.kp TX.bd_root_of .nil pass0 (pa_cons (pv 0) pa_nil)))
      (pss_cons (ps_set (i := 5) sc_place_of.nd rfl (.inr rfl) (pe_op op_sub (pe_callB (id := "len") (k_len (K := K) rfl) (by rfl) TX.b_len (by decide +kernel) (pa_cons (pv 0) pa_nil)) pe_int))
      (pss_cons (ps_set (i := 6) sc_place_of.nd rfl (.inr rfl) (pe_nget (K := K) (P := P) (w := w) rfl rfl rfl (hu_of hr) (pv 3) (pe_tup (pa_cons (pv 1) (pa_cons (pe_op op_sub (pv 2) pe_int) pa_nil))) (fun _ _ => rfl)))
      (pss_cons (ps_set (i := 7) sc_place_of.nd rfl (.inr rfl) (pe_nget (K := K) (P := P) (w := w) rfl rfl rfl (hu_of hr) (pv 3) (pe_tup (pa_cons (pe_op op_sub (pv 1) pe_int) (pa_cons (pv 2) pa_nil))) (fun _ _ => rfl)))
      (pss_cons (ps_set (i := 8) sc_place_of.nd rfl (.inl rfl) (pe_callB (id := "sum") (cr_sum rfl) (by rfl) TX.b_sum (by decide +kernel) (pa_cons (pe_lc (own := [("other", 10)]) (by rfl) sc_place_of.nd (pi_range1 (by rfl) TX.b_range (pa_cons (pv 4) pa_nil)) (blkOk_by (own := [("other", 10)]) (N := N_place_of) (sc := defScope s_place_of) (by decide +kernel)) (fun _ _ _ _ _ => (pg_name (i := 10) sc_place_of.nd rfl (Or.inl rfl))) (fun _ _ _ _ _ => pts_nil) (fun _ _ _ _ _ => (pe_op op_mulW (pe_ix (k_ixL (K := K) rfl) (pv 6) (pv 10) (fun _ _ => rfl)) (pe_ix (k_ixL (K := K) rfl) (pv 7) (pe_op op_sub (pv 5) (pv 10)) (fun _ _ => rfl))))) pa_nil)))
      (pss_cons (ps_set (i := 9) sc_place_of.nd rfl (.inl rfl) (pe_op op_mulW (pe_call ih (hr.mono (by omega)) (by rfl) TX.g_place_of TX.f_place_of.kp TX.bd_place_of .nil pass0 (pa_cons (pe_slice (k_slT (K := K) rfl) (pv 0) po_none (po_some (pv 4))) (pa_cons (pv 1) (pa_cons (pe_op op_sub (pv 2) pe_int) (pa_cons (pv 3) pa_nil))))) (pe_ix (k_ixL (K := K) rfl) (pv 7) (pe_op op_sub (pv 5) (pv 4)) (fun _ _ => rfl))))
      (pss_one (ps_ret (pe_op op_add (pe_op op_add (pv 8) (pv 9)) (pe_call ih (hr.mono (by omega)) (by rfl) TX.g_place_of TX.f_place_of.kp TX.bd_place_of .nil pass0 (pa_cons (pe_slice (k_slT (K := K) rfl) (pv 0) (po_some (pe_op op_add (pv 4) pe_int)) po_none) (pa_cons (pe_op op_sub (pv 1) pe_int) (pa_cons (pv 2) (pa_cons (pv 3) pa_nil))))))))))))))), ?_⟩
      cases t with
      | nil => exact ⟨.ref x, rfl, false, .inr (.inl ⟨_, hS, rfl⟩), iteT (q _ (Same.refl _))⟩
      | node l r =>
        obtain ⟨hb1, ha1, hwl, hwr⟩ := hw
        have hzn : (T.node l r).size = (l.size + r.size) + 1 := by show l.size + 1 + r.size = _; omega
        have lp : (vi (T.node l r).sch).length = l.size + 1 + r.size := by rw [vi_len, T.sch_len]; rfl
        have l1 : (vi l.sch).length = l.size := by rw [vi_len, T.sch_len]
        have e1 : vi (T.node l r).sch = vi l.sch ++ (V.int (l.runs : Int) :: vi r.sch) := by simp [T.sch, vi]
        obtain ⟨hT1, hL1⟩ := cwT_left (n := n) (k := k) (c := c) (b := b) (a := a) (s := l.size + r.size) (by omega) hb ha ha1
        obtain ⟨hT2, hL2⟩ := cwT_right (n := n) (k := k) (c := c) (b := b) (a := a) (s := l.size + r.size) (by omega) hb ha hb1
        have eb1 : (b : Int) - 1 = ((b - 1 : Nat) : Int) := by omega
        have ea1 : (a : Int) - 1 = ((a - 1 : Nat) : Int) := by omega
        refine ⟨.ref x, rfl, true, .inr (.inl ⟨_, hS, ?_⟩), iteF ?_⟩
        · rw [e1]
          cases vi l.sch <;> rfl
        refine ⟨.ref x, rfl, x, l, r, rfl, hS, by omega, fun H1 s1 => ?_⟩
        refine ⟨.ref x, rfl, x, _, rfl, .inr (Same.tup s1 hS), _, _, rfl, rfl, ?_⟩
        refine ⟨.ref d, rfl, _, rfl, _, rfl, _, _, rfl, rfl, sz60 (by simp), fun t1 n1 => ?_⟩
        have z1 := same_upd (o := .tup [V.int (b : Int), V.int ((a : Int) - 1)]) n1
        obtain ⟨kvs1, d1, g1, g2, g3⟩ := ((hT.same s1).same z1).at hT1
        refine ⟨d, t1, kvs1, [(b : Int), ((a - 1 : Nat) : Int)], .ref d1, rfl, rfl, g1, by rw [← ea1]; exact .inl (.inl upd_same), g2, ?_⟩
        generalize upd H1 t1 _ = H2 at z1 g1 g3 ⊢
        refine ⟨.ref d, rfl, _, rfl, _, _, rfl, rfl, _, rfl, sz60 (by simp), fun t2 n2 => ?_⟩
        have z2 := same_upd (o := .tup [V.int ((b : Int) - 1), V.int (a : Int)]) n2
        obtain ⟨kvs2, d2, f1, f2, f3⟩ := ((hT.same s1).same (z1.trans z2)).at hT2
        refine ⟨d, t2, kvs2, [((b - 1 : Nat) : Int), (a : Int)], .ref d2, rfl, rfl, f1, by rw [← eb1]; exact .inl (.inl upd_same), f2, ?_⟩
        generalize upd H2 t2 _ = H3 at z2 f1 f3 ⊢
        have s3 := s1.trans (z1.trans z2)
        have hd1 := z2 _ _ g3
        have bnd : ∀ {b a s : Nat}, s ≤ 60 → ((nB b a s : Nat) : Int).natAbs < 2 ^ 4000 := fun h => by rw [Int.natAbs_natCast]; exact nB_lt h
        have eRow : (((vi (T.node l r).sch).length : Int) - 1) = ((l.size + r.size : Nat) : Int) := by rw [lp]; omega
        refine ⟨_, rfl, _, rfl, by omega, by omega, fun D nD => lc_ints (K := K) walk_range (ci ((List.range l.size).map fun o => nB b (a - 1) o * nB (b - 1) a (l.size + r.size - o))) (by rw [ci, List.length_map, List.length_map, List.length_range]; omega) (by omega) nD (fun _ _ => trivial) ?_ ?_ (fun x σ' H' Q Q' h => h _ _) (fun σ' H' Q Q' h => h _ _)⟩
        · rintro i y H6 H6' hi s6 ⟨rfl, rfl⟩ z hz' R hR
          have hi' : i < l.size := by omega
          rw [ci, List.getElem?_map, List.getElem?_map, List.getElem?_range hi'] at hz'
          cases hz'
          have ei : (0 : Int) + (i : Nat) = (i : Int) := by omega
          refine ⟨rfl, rfl, _, rfl, _, rfl, d1, _, _, .int ((nB b (a - 1) i : Nat) : Int), rfl, rfl, .inl (.inl (s6 _ _ hd1)), ?_, ?_⟩
          · rw [ei]; exact at_vi (cwL_get (by omega))
          refine ⟨_, rfl, _, rfl, _, rfl, _, _, rfl, rfl, d2, _, _, .int ((nB (b - 1) a (l.size + r.size - i) : Nat) : Int), rfl, rfl, .inl (.inl (s6 _ _ f3)), ?_, ?_⟩
          · rw [ei, eRow, show ((l.size + r.size : Nat) : Int) - (i : Int) = ((l.size + r.size - i : Nat) : Int) by omega]
            exact at_vi (cwL_get (by omega))
          refine ⟨_, _, rfl, rfl, wide_mul (a := 4000) (b := 4000) (bnd (by omega)) (bnd (by omega)) (by decide) (by decide) (by decide), ?_⟩
          have := hR _ (Same.refl _)
          exact this
        · intro H4 s4 hD
          refine ⟨D, _, rfl, .inl (.inl hD), ?_⟩
          rw [ci_sum]
          have s4' := s3.trans s4
          have hS4 := Same.tup s4' hS
          refine ⟨.ref x, rfl, ?_⟩
          dsimp only [tNoPart]
          refine ⟨_, rfl, _, rfl, sl_read hS4 fun c1 H5 s5 hc1 => ?_⟩
          rw [cut_to (by rw [lp]; omega), e1, List.take_left' l1] at hc1
          have s05 := s4'.trans s5
          have hb3 := plc_lt hwl
          have hb4 := plc_lt hwr
          refine ⟨_, rfl, _, rfl, _, _, rfl, rfl, _, rfl, c1, d, l, b, a - 1, n, k, c, N, by rw [← ea1]; rfl, hc1, hT.same s05, hn, hb, by omega, by omega, hwl, by omega, fun H6 s6 => ?_⟩
          have f36 := (s4.trans (s5.trans s6)) _ _ f3
          refine ⟨_, rfl, _, rfl, _, rfl, _, _, rfl, rfl, d2, _, _, .int ((nB (b - 1) a r.size : Nat) : Int), rfl, rfl, .inl (.inl f36), ?_, ?_⟩
          · rw [eRow, show ((l.size + r.size : Nat) : Int) - (l.size : Int) = ((r.size : Nat) : Int) by omega]
            exact at_vi (cwL_get (by omega))
          refine ⟨_, _, rfl, rfl, wide_mul (a := 4000) (b := 4000) (by rw [Int.natAbs_natCast]; exact Nat.lt_trans hb3 (nB_lt (by omega))) (bnd (by omega)) (by decide) (by decide) (by decide), ?_⟩
          have hS6 := Same.tup (s05.trans s6) hS
          refine ⟨_, rfl, _, rfl, _, _, rfl, rfl, .ref x, rfl, _, rfl, _, _, rfl, rfl, _, rfl, ?_⟩
          dsimp only [tNoPart]
          refine sl_read hS6 fun c2 H7 s7 hc2 => ?_
          have ec : ((l.size : Int) + 1) = ((l.size + 1 : Nat) : Int) := by omega
          rw [ec, cut_from (by rw [lp]; omega), e1, List.drop_append, List.drop_eq_nil_of_le (by rw [l1]; omega), l1, show l.size + 1 - l.size = 1 by omega] at hc2
          have hc2' : SqT K H7 c2 (vi r.sch) := hc2
          have s07 := (s05.trans s6).trans s7
          refine ⟨_, rfl, _, _, rfl, rfl, _, rfl, _, rfl, c2, d, r, b - 1, a, n, k, c, N, by rw [← eb1]; rfl, hc2', hT.same s07, hn, by omega, ha, by omega, hwr, by omega, fun H8 s8 => ?_⟩
          refine ⟨_, _, rfl, rfl, ?_⟩
          have := q _ (s07.trans s8)
          exact this
def sp_place_of (K : PySem.W.Frag) (P : Program) (w : World) : Sp := spq_plc 61 K P w
theorem ok_place_of (TX : Tx K mg) : FnOk P w K mg base CX0 62 TX.a_place_of TX.fd_place_of ["schedule", "b", "a", "counts"] (sp_place_of K P w) := okq_plc TX 61
end
section
variable {P : Program} {w : World} {K : PySem.W.Frag} {mg : Str → Option Value} {base : Heap}
def spq_sip (m : Nat) (K : PySem.W.Frag) (P : Program) (w : World) : Sp := fun vs H Q _ => ∃ (d : Addr) (t : T) (b a n k c N : Nat), vs = [.int (t.size : Int), .int (b : Int), .int (a : Int), .int (plc t b a : Int), .ref d] ∧ TabL K P w H d N (cwT n k c) ∧ n ≤ 60 ∧ b ≤ k ∧ a ≤ c ∧ (k - b) + (c - a) + t.size ≤ n ∧ Wi t b a ∧ t.size < m ∧ ∀ H' p, Same H H' → SqT K H' p (vi t.sch) → Q (.ref p) H'
theorem okq_sip (TX : Tx K mg) : ∀ m : Nat, FnOk P w K mg base CX0 (1 + m) TX.a_schedule_in_place TX.fd_schedule_in_place ["n", "b", "a", "place", "counts"] (spq_sip m K P w)
  | 0 => ⟨fun vs H Q E h => by obtain ⟨_, t, _, _, _, _, _, _, _, _, _, _, _, _, _, h, _⟩ := h; omega, fun A outer s H args us vs Q E _ _ _ _ h => by obtain ⟨_, t, _, _, _, _, _, _, _, _, _, _, _, _, _, h, _⟩ := h; omega⟩
  | m + 1 => by
    have ih := okq_sip TX m
    refine TX.f_schedule_in_place.ok (k := 1 + m) sc_schedule_in_place (fun vs H Q E h => ?_) (fun cdv A outer s H vs Q E hr h => ?_)
    · obtain ⟨d, t, b, a, n, k, c, N, rfl, _⟩ := h; rfl
    · obtain ⟨d, t, b, a, n, k, c, N, rfl, hT, hn, hb, ha, hz, hw, hm, q⟩ := h
      refine ⟨_, (pss_cons (ps_if (pt_cmpR op_eq (pv 0) pe_int (nomark _))
        (pss_one (ps_ret (pe_tup pa_nil)))
        pss_nil)
      (pss_cons (ps_set (i := 5) sc_schedule_in_place.nd rfl (.inl rfl) (pe_nget (K := K) (P := P) (w := w) rfl rfl rfl (hu_of hr) (pv 4) (pe_tup (pa_cons (pv 1) (pa_cons (pe_op op_sub (pv 2) pe_int) pa_nil))) (fun _ _ => rfl)))
      (pss_cons (ps_set (i := 6) sc_schedule_in_place.nd rfl (.inl rfl) (pe_nget (K := K) (P := P) (w := w) rfl rfl rfl (hu_of hr) (pv 4) (pe_tup (pa_cons (pe_op op_sub (pv 1) pe_int) (pa_cons (pv 2) pa_nil))) (fun _ _ => rfl)))
      (pss_cons (ps_set (i := 7) sc_schedule_in_place.nd rfl (.inl rfl) pe_int)
      (pss_cons (ps_set (i := 8) sc_schedule_in_place.nd rfl (.inl rfl) (pv 3))
      (pss_cons (ps_while PassesOwn.never (pt_cmpR op_ge (pv 8) (pe_op op_mulW (pe_ix (k_ixL (K := K) rfl) (pv 5) (pv 7) (fun _ _ => rfl)) (pe_ix (k_ixL (K := K) rfl) (pv 6) (pe_op op_sub (pe_op op_sub (pv 0) pe_int) (pv 7)) (fun _ _ => rfl))) (nomark _))
        (pss_cons (ps_aug (i := 8) sc_schedule_in_place.nd rfl (.inl rfl) (pe_op op_mulW (pe_ix (k_ixL (K := K) rfl) (pv 5) (pv 7) (fun _ _ => rfl)) (pe_ix (k_ixL (K := K) rfl) (pv 6) (pe_op op_sub (pe_op op_sub (pv 0) pe_int) (pv 7)) (fun _ _ => rfl))) ip_sub)
        (pss_one (ps_aug (i := 7) sc_schedule_in_place.nd rfl (.inl rfl) pe_int ip_add))))
      (pss_cons (ps_asg (pe_callB (id := "divmod") call_divmodW (by rfl) TX.b_divmod (by decide +kernel) (pa_cons (pv 8) (pa_cons (pe_ix (k_ixL (K := K) rfl) (pv 6) (pe_op op_sub (pe_op op_sub (pv 0) pe_int) (pv 7)) (fun _ _ => rfl)) pa_nil))) (pg_tup rfl (pgs_cons (pg_name (i := 9) sc_schedule_in_place.nd rfl (.inl rfl)) (pgs_cons (pg_name (i := 10) sc_schedule_in_place.nd rfl (.inl rfl)) pgs_nil))))
      (pss_cons (ps_set (i := 11) sc_schedule_in_place.nd rfl (.inl rfl) (pe_call ih (hr.mono (by omega)) (by rfl) TX.g_schedule_in_place TX.f_schedule_in_place.kp TX.bd_schedule_in_place .nil pass0 (pa_cons (pv 7) (pa_cons (pv 1) (pa_cons (pe_op op_sub (pv 2) pe_int) (pa_cons (pv 9) (pa_cons (pv 4) pa_nil)))))))
      (pss_cons (ps_set (i := 12) sc_schedule_in_place.nd rfl (.inl rfl) (pe_call ih (hr.mono (by omega)) (by rfl) TX.g_schedule_in_place TX.f_schedule_in_place.kp TX.bd_schedule_in_place .nil pass0 (pa_cons (pe_op op_sub (pe_op op_sub (pv 0) pe_int) (pv 7)) (pa_cons (pe_op op_sub (pv 1) pe_int) (pa_cons (pv 2) (pa_cons (pv 10) (pa_cons (pv 4) pa_nil)))))))
      (pss_one (ps_ret (pe_op (k_catT (K := K) rfl) (pe_op (k_catT (K := K) rfl) (pv 11) (pe_tup (pa_cons (pe_call (ok_runs_at_end TX) (hr.mono (by omega)) (by rfl) TX.g_runs_at_end TX.f_runs_at_end.kp TX.bd_runs_at_end .nil pass0 (pa_cons (pv 11) pa_nil)) pa_nil))) (pv 12))))))))))))), ?_⟩
      refine ⟨_, rfl, rfl, _, rfl, ?_⟩
      cases t with
      | nil => exact decT rfl ⟨sz60 (by simp), fun p np => q _ p (same_upd np) (.inl (.inl upd_same))⟩
      | node l r =>
        have hw' := hw
        obtain ⟨hb1, ha1, hwl, hwr⟩ := hw
        have hzn : (T.node l r).size = (l.size + r.size) + 1 := by show l.size + 1 + r.size = _; omega
        refine decF (int_ne (by omega)) ?_
        obtain ⟨hT1, hL1⟩ := cwT_left (n := n) (k := k) (c := c) (b := b) (a := a) (s := l.size + r.size) (by omega) hb ha ha1
        obtain ⟨hT2, hL2⟩ := cwT_right (n := n) (k := k) (c := c) (b := b) (a := a) (s := l.size + r.size) (by omega) hb ha hb1
        have eb1 : (b : Int) - 1 = ((b - 1 : Nat) : Int) := by omega
        have ea1 : (a : Int) - 1 = ((a - 1 : Nat) : Int) := by omega
        refine ⟨.ref d, rfl, _, rfl, _, rfl, _, _, rfl, rfl, sz60 (by simp), fun t1 n1 => ?_⟩
        have z1 := same_upd (o := .tup [V.int (b : Int), V.int ((a : Int) - 1)]) n1
        obtain ⟨kvs1, d1, g1, g2, g3⟩ := (hT.same z1).at hT1
        refine ⟨d, t1, kvs1, [(b : Int), ((a - 1 : Nat) : Int)], .ref d1, rfl, rfl, g1, by rw [← ea1]; exact .inl (.inl upd_same), g2, ?_⟩
        generalize upd H t1 _ = H2 at z1 g1 g3 ⊢
        refine ⟨.ref d, rfl, _, rfl, _, _, rfl, rfl, _, rfl, sz60 (by simp), fun t2 n2 => ?_⟩
        have z2 := same_upd (o := .tup [V.int ((b : Int) - 1), V.int (a : Int)]) n2
        obtain ⟨kvs2, d2, f1, f2, f3⟩ := (hT.same (z1.trans z2)).at hT2
        refine ⟨d, t2, kvs2, [((b - 1 : Nat) : Int), (a : Int)], .ref d2, rfl, rfl, f1, by rw [← eb1]; exact .inl (.inl upd_same), f2, ?_⟩
        generalize upd H2 t2 _ = H3 at z2 f1 f3 ⊢
        have s3 := z1.trans z2
        have hd1 := z2 _ _ g3
        have bnd : ∀ {b a s : Nat}, s ≤ 60 → ((nB b a s : Nat) : Int).natAbs < 2 ^ 4000 := fun h => by rw [Int.natAbs_natCast]; exact nB_lt h
        have eSub : ∀ ρ : Nat, ρ ≤ l.size → (((T.node l r).size : Int) - 1 - (ρ : Int)) = ((l.size + r.size - ρ : Nat) : Int) := fun ρ h => by omega
        obtain ⟨hdiv, hmod, hlast⟩ := plc_rest hw'
        have hplc : plc (.node l r) b a = pfs b a (l.size + r.size) l.size + plc l b (a - 1) * nB (b - 1) a r.size + plc r (b - 1) a := rfl
        have at1 : ∀ ρ : Nat, ρ ≤ l.size → atI (vi (cwL b (a - 1) (n - (k - b) - (c - (a - 1))))) (ρ : Int) = some (.int ((nB b (a - 1) ρ : Nat) : Int)) := fun ρ h => at_vi (cwL_get (by omega))
        have at2 : ∀ ρ : Nat, ρ ≤ l.size → atI (vi (cwL (b - 1) a (n - (k - (b - 1)) - (c - a)))) (((T.node l r).size : Int) - 1 - (ρ : Int)) = some (.int ((nB (b - 1) a (l.size + r.size - ρ) : Nat) : Int)) := fun ρ h => by rw [eSub ρ h]; exact at_vi (cwL_get (by omega))
        refine ⟨_, rfl, ?_⟩
        refine ⟨fun m σ G => ∃ ρ bf : Nat, σ = [some (.int ((T.node l r).size : Int)), some (.int (b : Int)), some (.int (a : Int)), some (.int (plc (.node l r) b a : Int)), some (.ref d), some (.ref d1), some (.ref d2), some (.int (ρ : Int)), some (.int (bf : Int)), none, none, none, none] ∧ G = H3 ∧ ρ + m = l.size ∧ bf + pfs b a (l.size + r.size) ρ = plc (.node l r) b a, ⟨l.size, 0, plc (.node l r) b a, rfl, rfl, by omega, by simp [pfs]⟩, ?_⟩
        rintro m' σ G ⟨ρ, bf, rfl, rfl, hρ, hbf⟩
        refine ⟨_, rfl, _, rfl, _, rfl, d1, _, _, _, rfl, rfl, .inl (.inl hd1), at1 ρ (by omega), ?_⟩
        refine ⟨_, rfl, _, rfl, _, _, rfl, rfl, _, rfl, _, _, rfl, rfl, d2, _, _, _, rfl, rfl, .inl (.inl f3), at2 ρ (by omega), ?_⟩
        refine ⟨_, _, rfl, rfl, wide_mul (a := 4000) (b := 4000) (bnd (by omega)) (bnd (by omega)) (by decide) (by decide) (by decide), ?_⟩
        refine ⟨_, _, rfl, rfl, ?_⟩
        have hps := pfs_succ b a (l.size + r.size) ρ
        by_cases hm0 : m' = 0
        rotate_left
        · have hle := pfs_le (b := b) (a := a) (s := l.size + r.size) (i := ρ + 1) (n := l.size) (by omega)
          have hge : nB b (a - 1) ρ * nB (b - 1) a (l.size + r.size - ρ) ≤ bf := by omega
          refine ⟨true, blT (by rw [← Int.natCast_mul]; omega), iteT ⟨_, fun σ' H' h => ⟨m' - 1, by omega, h⟩, ?_⟩⟩
          refine ⟨_, rfl, _, rfl, _, rfl, d1, _, _, _, rfl, rfl, .inl (.inl hd1), at1 ρ (by omega), ?_⟩
          refine ⟨_, rfl, _, rfl, _, _, rfl, rfl, _, rfl, _, _, rfl, rfl, d2, _, _, _, rfl, rfl, .inl (.inl f3), at2 ρ (by omega), ?_⟩
          refine ⟨_, _, rfl, rfl, wide_mul (a := 4000) (b := 4000) (bnd (by omega)) (bnd (by omega)) (by decide) (by decide) (by decide), ?_⟩
          refine ⟨_, _, rfl, rfl, ?_⟩
          refine ⟨_, rfl, _, _, rfl, rfl, ρ + 1, bf - nB b (a - 1) ρ * nB (b - 1) a (l.size + r.size - ρ), ?_, rfl, by omega, by omega⟩
          show [_, _, _, _, _, _, _, _, _, _, _, _, _] = [_, _, _, _, _, _, _, _, _, _, _, _, _]
          rw [Int.natCast_sub hge, Int.natCast_mul]
          rfl
        · obtain rfl : ρ = l.size := by omega
          have eLR : l.size + r.size - l.size = r.size := by omega
          have at3 := at2 l.size (Nat.le_refl _)
          rw [eLR] at at3 ⊢
          have ebf : bf = plc l b (a - 1) * nB (b - 1) a r.size + plc r (b - 1) a := by omega
          rw [← ebf] at hdiv hmod hlast
          refine ⟨false, blF (by rw [← Int.natCast_mul]; omega), iteF ?_⟩
          have hb3 := plc_lt hwl
          have hb4 := plc_lt hwr
          have hbf2 : bf < 2 ^ 4000 := by
            have h1 := plc_lt hw'
            have h2 := nB_lt (b := b) (a := a) (s := (T.node l r).size) (by omega)
            omega
          refine ⟨_, rfl, _, rfl, _, rfl, _, _, rfl, rfl, _, rfl, _, _, rfl, rfl, d2, _, _, _, rfl, rfl, .inl (.inl f3), at3, (bf : Int), ((nB (b - 1) a r.size : Nat) : Int), rfl, divp_nat (by omega) hbf2, fun p np => ?_⟩
          have ed : (bf : Int) / ((nB (b - 1) a r.size : Nat) : Int) = (plc l b (a - 1) : Int) := by rw [← hdiv]; rfl
          have em : (bf : Int) % ((nB (b - 1) a r.size : Nat) : Int) = (plc r (b - 1) a : Int) := by rw [← hmod]; rfl
          rw [ed, em]
          have s4 := same_upd (o := .tup [V.int (plc l b (a - 1) : Int), V.int (plc r (b - 1) a : Int)]) np
          refine ⟨p, _, rfl, .inl (.inl upd_same), rfl, _, _, rfl, _, _, rfl, rfl, ?_⟩
          generalize upd G p _ = H4 at s4 ⊢
          have s04 := s3.trans s4
          refine ⟨_, rfl, _, rfl, _, rfl, _, _, rfl, rfl, _, rfl, _, rfl, d, l, b, a - 1, n, k, c, N, by rw [← ea1]; rfl, hT.same s04, hn, hb, by omega, by omega, hwl, by omega, fun H5 p1 s5 h1 => ?_⟩
          refine ⟨_, rfl, _, _, rfl, rfl, _, rfl, _, _, rfl, rfl, _, rfl, _, _, rfl, rfl, _, rfl, _, rfl, _, rfl, d, r, b - 1, a, n, k, c, N, ?_, hT.same (s04.trans s5), hn, by omega, ha, by omega, hwr, by omega, fun H6 p2 s6 h2 => ?_⟩
          · rw [← eb1, show (r.size : Int) = ((T.node l r).size : Int) - 1 - (l.size : Int) by omega]; rfl
          have h1' := Same.tup s6 h1
          have s06 := (s04.trans s5).trans s6
          refine ⟨.ref p1, rfl, .ref p1, rfl, p1, l, rfl, h1', by omega, sz60 (by simp), fun p3 np3 => ?_⟩
          have s7 := same_upd (o := .tup [V.int (l.runs : Int)]) np3
          refine cat_read (Same.tup s7 h1') (.inl (.inl upd_same)) (by simp [vi_len, T.sch_len]; omega) fun p4 H8 s8 h4 => ⟨.ref p2, rfl, ?_⟩
          refine cat_read h4 (Same.tup (s7.trans s8) h2) (by simp [vi_len, T.sch_len]; omega) fun p5 H9 s9 h5 => q _ p5 ((s06.trans s7).trans (s8.trans s9)) ?_
          have e : vi (T.node l r).sch = vi l.sch ++ [V.int (l.runs : Int)] ++ vi r.sch := by simp [T.sch, vi]
          rw [e]
          exact h5
def sp_schedule_in_place (K : PySem.W.Frag) (P : Program) (w : World) : Sp := spq_sip 61 K P w
theorem ok_schedule_in_place (TX : Tx K mg) : FnOk P w K mg base CX0 62 TX.a_schedule_in_place TX.fd_schedule_in_place ["n", "b", "a", "place", "counts"] (sp_schedule_in_place K P w) := okq_sip TX 61
end
section
variable {P : Program} {w : World} {K : PySem.W.Frag} {mg : Str → Option Value} {base : Heap}
theorem fold_le {B : Int} : ∀ (r : List Int) (m : Int), m ≤ B → (∀ x, x ∈ r → x ≤ B) → r.foldl max m ≤ B
  | [], m, h, _ => h
  | x :: r, m, h, hr => fold_le r (max m x) (by have := hr x (by simp); omega) fun y hy => hr y (by simp [hy])
theorem max_le {K : PySem.W.Frag} {H : Hp} {a : Addr} {xs : List Nat} {B : Nat} {Q : VK} (h : SqT K H a (vi xs)) (hB : ∀ x, x ∈ xs → x ≤ B) (q : ∀ i : Int, i ≤ (B : Int) → Q (.int i) H) : rMaxDef K [.ref a] [.int 0] H Q := by
  refine ⟨a, 0, ci xs, rfl, rfl, by rw [← vi_ci]; exact h, fun _ => q 0 (by omega), fun m r e => q _ ?_⟩
  have hall : ∀ y, y ∈ ci xs → y ≤ (B : Int) := fun y hy => by
    obtain ⟨z, hz, rfl⟩ := List.mem_map.mp hy
    have := hB z hz
    omega
  rw [e] at hall
  exact fold_le r m (hall m (by simp)) fun y hy => hall y (by simp [hy])
def sp_index_within (K : PySem.W.Frag) : Sp := fun vs H Q _ => ∃ (x : Addr) (t : T) (k c : Nat), vs = [.ref x, .int (k : Int), .int (c : Int)] ∧ SqT K H x (vi t.sch) ∧ t.size ≤ 60 ∧ k ≤ 60 ∧ c ≤ 60 ∧ Wi t k c ∧ ∀ H', Same H H' → Q (.int (plc t k c : Int)) H'
theorem ok_index_within (TX : Tx K mg) : FnOk P w K mg base CX0 63 TX.a_index_within TX.fd_index_within ["schedule", "k", "c"] (sp_index_within K) := by
  refine TX.f_index_within.ok sc_index_within (fun vs H Q E h => ?_) (fun cdv A outer s H vs Q E hr h => ?_)
  · obtain ⟨x, t, k, c, rfl, _⟩ := h; rfl
  · obtain ⟨x, t, k, c, rfl, hS, hz, hk, hc, hw, q⟩ := h
    refine ⟨_, (pss_cons (ps_if (pt_not (pt_val (pe_call (ok_is_schedule TX) (hr.mono (by decide)) (by rfl) TX.g_is_schedule TX.f_is_schedule.kp TX.bd_is_schedule .nil pass0 (pa_cons (pv 0) pa_nil))))
        (pss_one ps_never)
        pss_nil)
      (pss_cons (ps_expr (pe_call (ok_check_budgets TX) (hr.mono (by decide)) (by rfl) TX.g_check_budgets TX.f_check_budgets.kp TX.bd_check_budgets .nil pass0 (pa_cons (pv 1) (pa_cons (pv 2) (pa_cons (pe_glob (v := .int (60)) (by rfl) TX.c_MOST_BUDGET ⟨_, rfl⟩) pa_nil)))))
      (pss_cons (ps_if (PW.pt (pw_or (pt_cmpR op_gt (pe_callBK (id := "max") (cr_maxDef (K := K) rfl rfl hr.units) (by rfl) TX.b_max (by decide +kernel) (pa_cons (pe_call (ok_run_counts TX) (hr.mono (by decide)) (by rfl) TX.g_run_counts TX.f_run_counts.kp TX.bd_run_counts .nil pass0 (pa_cons (pv 0) pa_nil)) pa_nil) (pk_cons pe_int pk_nil)) (pv 1) (nomark _)) (pw_or1 (pt_cmpR op_gt (pe_callBK (id := "max") (cr_maxDef (K := K) rfl rfl hr.units) (by rfl) TX.b_max (by decide +kernel) (pa_cons (pe_call (ok_writes TX) (hr.mono (by decide)) (by rfl) TX.g_writes TX.f_writes.kp TX.bd_writes .nil pass0 (pa_cons (pv 0) pa_nil)) pa_nil) (pk_cons pe_int pk_nil)) (pv 2) (nomark _)))))
        (pss_one ps_never)
        pss_nil)
      (pss_one (ps_ret (pe_call (ok_place_of TX) (hr.mono (by decide)) (by rfl) TX.g_place_of TX.f_place_of.kp TX.bd_place_of .nil pass0 (pa_cons (pv 0) (pa_cons (pv 1) (pa_cons (pv 2) (pa_cons (pe_call (ok_counts_within TX) (hr.mono (by decide)) (by rfl) TX.g_counts_within TX.f_counts_within.kp TX.bd_counts_within .nil pass0 (pa_cons (pe_callB (id := "len") (k_len (K := K) rfl) (by rfl) TX.b_len (by decide +kernel) (pa_cons (pv 0) pa_nil)) (pa_cons (pv 1) (pa_cons (pv 2) pa_nil)))) pa_nil)))))))))), ?_⟩
    obtain ⟨w1, w2⟩ := wi_rc hw
    refine ⟨.ref x, rfl, x, t, rfl, hS, hz, true, rfl, iteF ?_⟩
    refine ⟨_, rfl, _, rfl, _, _, _, rfl, by omega, by omega, by omega, by omega, fun H1 s1 => ?_⟩
    have hS1 := Same.tup s1 hS
    refine ⟨.ref x, rfl, x, t, rfl, hS1, hz, fun H2 p2 s2 h2 => ?_⟩
    dsimp only [tNil, tCons, tC]
    refine max_le h2 w1 ?_
    intro i hi
    refine ⟨_, rfl, _, _, rfl, rfl, _, rfl, decF (by omega) ?_⟩
    have hS2 := Same.tup s2 hS1
    refine ⟨.ref x, rfl, x, t, rfl, hS2, hz, fun H3 p3 s3 h3 => ?_⟩
    dsimp only [tNil, tCons, tC]
    refine max_le h3 w2 ?_
    intro j hj
    refine ⟨_, rfl, _, _, rfl, rfl, _, rfl, decF (by omega) ?_⟩
    have s03 := s1.trans (s2.trans s3)
    have hS3 := Same.tup s3 hS2
    refine ⟨.ref x, rfl, _, rfl, _, rfl, .ref x, rfl, x, _, rfl, .inr hS3, _, rfl, _, rfl, t.size, k, c, by rw [vi_len, T.sch_len]; rfl, hz, hk, hc, fun H4 d s4 hT => ?_⟩
    refine ⟨x, d, t, k, c, t.size, k, c, 4000, rfl, Same.tup s4 hS3, hT, hz, Nat.le_refl _, Nat.le_refl _, by omega, hw, by omega, fun H5 s5 => q _ ((s03.trans s4).trans s5)⟩
def sp_schedule_within (K : PySem.W.Frag) : Sp := fun vs H Q _ => ∃ (t : T) (k c : Nat), vs = [.int (t.size : Int), .int (k : Int), .int (c : Int), .int (plc t k c : Int)] ∧ t.size ≤ 60 ∧ k ≤ 60 ∧ c ≤ 60 ∧ Wi t k c ∧ ∀ H' p, Same H H' → SqT K H' p (vi t.sch) → Q (.ref p) H'
theorem ok_schedule_within (TX : Tx K mg) : FnOk P w K mg base CX0 63 TX.a_schedule_within TX.fd_schedule_within ["n", "k", "c", "index"] (sp_schedule_within K) := by
  refine TX.f_schedule_within.ok sc_schedule_within (fun vs H Q E h => ?_) (fun cdv A outer s H vs Q E hr h => ?_)
  · obtain ⟨t, k, c, rfl, _⟩ := h; rfl
  · obtain ⟨t, k, c, rfl, hz, hk, hc, hw, q⟩ := h
    refine ⟨_, (pss_cons (ps_expr (pe_call (ok_check_flushes TX) (hr.mono (by decide)) (by rfl) TX.g_check_flushes TX.f_check_flushes.kp TX.bd_check_flushes .nil pass0 (pa_cons (pv 0) pa_nil)))
      (pss_cons (ps_expr (pe_call (ok_check_budgets TX) (hr.mono (by decide)) (by rfl) TX.g_check_budgets TX.f_check_budgets.kp TX.bd_check_budgets .nil pass0 (pa_cons (pv 1) (pa_cons (pv 2) (pa_cons (pe_glob (v := .int (60)) (by rfl) TX.c_MOST_BUDGET ⟨_, rfl⟩) pa_nil)))))
      (pss_cons (ps_set (i := 4) sc_schedule_within.nd rfl (.inl rfl) (pe_call (ok_counts_within TX) (hr.mono (by decide)) (by rfl) TX.g_counts_within TX.f_counts_within.kp TX.bd_counts_within .nil pass0 (pa_cons (pv 0) (pa_cons (pv 1) (pa_cons (pv 2) pa_nil)))))
      (pss_cons (ps_if (pt_not (pt_val (pe_call (ok_is_count_up_to TX) (hr.mono (by decide)) (by rfl) TX.g_is_count_up_to TX.f_is_count_up_to.kp TX.bd_is_count_up_to .nil pass0 (pa_cons (pv 3) (pa_cons (pe_op op_sub (pe_ix (k_ixL (K := K) rfl) (pe_nget (K := K) (P := P) (w := w) rfl rfl rfl (hu_of hr) (pv 4) (pe_tup (pa_cons (pv 1) (pa_cons (pv 2) pa_nil))) (fun _ _ => rfl)) (pv 0) (fun _ _ => rfl)) pe_int) pa_nil)))))
        (pss_one ps_never)
        pss_nil)
      (pss_one (ps_ret (pe_callK (ok_schedule_in_place TX) (hr.mono (by decide)) (by rfl) TX.g_schedule_in_place TX.f_schedule_in_place.kp TX.kc_schedule_in_place_b_a_place_counts pass0 (pa_cons (pv 0) pa_nil) (pk_cons (pv 1) (pk_cons (pv 2) (pk_cons (pv 3) (pk_cons (pv 4) pk_nil))))))))))), ?_⟩
    have hT0 : cwT t.size k c k c = some (cwL k c t.size) := by
      unfold cwT
      rw [if_pos (by omega)]
      congr 2; omega
    have hlt := plc_lt hw
    refine ⟨_, rfl, t.size, rfl, hz, _, rfl, _, rfl, _, _, _, rfl, by omega, by omega, by omega, by omega, fun H1 s1 => ?_⟩
    refine ⟨_, rfl, _, rfl, _, rfl, t.size, k, c, rfl, hz, hk, hc, fun H2 d s2 hT => ?_⟩
    refine ⟨_, rfl, .ref d, rfl, _, rfl, _, rfl, sz60 (by simp), fun t1 n1 => ?_⟩
    have z1 := same_upd (o := .tup [V.int (k : Int), V.int (c : Int)]) n1
    obtain ⟨kvs1, d1, g1, g2, g3⟩ := (hT.same z1).at hT0
    refine ⟨d, t1, kvs1, [(k : Int), (c : Int)], .ref d1, rfl, rfl, g1, .inl (.inl upd_same), g2, _, rfl, ?_⟩
    refine ⟨d1, _, _, _, rfl, rfl, .inl (.inl g3), at_vi (cwL_get (Nat.le_refl t.size)), _, _, rfl, rfl, ?_⟩
    refine ⟨_, _, rfl, true, by rw [decide_eq_true (by omega), decide_eq_true (by omega)]; rfl, iteF ?_⟩
    refine ⟨_, rfl, _, rfl, _, rfl, _, rfl, _, rfl, d, t, k, c, t.size, k, c, 4000, rfl, hT.same z1, hz, Nat.le_refl _, Nat.le_refl _, by omega, hw, by omega, fun H5 p s5 hp => q _ _ ((s1.trans s2).trans (z1.trans s5)) hp⟩
end
theorem ciSum : ∀ p : List Nat, (ci p).sum = (p.sum : Int)
  | [] => rfl
  | m :: r => by
    have := ciSum r
    show ((m : Int) :: ci r).sum = _
    rw [List.sum_cons, this, List.sum_cons]; omega
def allS : Nat → List T
  | 0 => [.nil]
  | n + 1 => (allS n).flatMap fun t => (List.range (t.runs + 1)).map t.push
theorem allS_size : ∀ (n : Nat) (t : T), t ∈ allS n → t.size = n
  | 0, t, h => by
    have : t = .nil := by simpa [allS] using h
    rw [this]; rfl
  | n + 1, t, h => by
    simp only [allS, List.mem_flatMap, List.mem_map, List.mem_range] at h
    obtain ⟨u, hu, m, hm, rfl⟩ := h
    rw [T.push_size u m (by omega), allS_size n u hu]
theorem allS_len {n : Nat} (h : n ≤ 8) : (allS n).length ≤ 1430 := by
  have h8 : ∀ n : Fin 9, (allS n.val).length ≤ 1430 := by decide +kernel
  exact h8 ⟨n, by omega⟩
def dSch (t : T) : PyData := .tuple ((ci t.sch).map PyData.int)
theorem tf_sch (t : T) : Tf (dSch t) := .tup (tf_ints _)
def dNext (t : T) : List PyData := (List.range (t.runs + 1)).map fun m => dSch (t.push m)
theorem tf_next (t : T) : ∀ d, d ∈ dNext t → Tf d := fun d h => by
  obtain ⟨m, _, rfl⟩ := List.mem_map.mp h
  exact tf_sch _
theorem tf_nexts (L : List T) : ∀ d, d ∈ L.flatMap dNext → Tf d := fun d h => by
  obtain ⟨t, _, h⟩ := List.mem_flatMap.mp h
  exact tf_next t d h
theorem dNext_all (n : Nat) : (allS n).flatMap dNext = (allS (n + 1)).map dSch := by
  rw [allS, List.map_flatMap]
  congr 1
  funext t
  rw [dNext, List.map_map]; rfl
theorem flat_take {L : List T} {j : Nat} {t : T} (h : L[j]? = some t) : (L.take (j + 1)).flatMap dNext = (L.take j).flatMap dNext ++ dNext t := by
  rw [List.take_add_one, h]
  simp [List.flatMap_append]
theorem flat_le (L : List T) (j : Nat) : ((L.take j).flatMap dNext).length ≤ (L.flatMap dNext).length := by
  conv => rhs; rw [← List.take_append_drop j L, List.flatMap_append, List.length_append]
  omega
def nxB (L : List T) (j : Nat) : List PyData := dNext (L.getD j .nil)
theorem blks_nx (L : List T) : ∀ j, j ≤ L.length → blks (nxB L) j = (L.take j).flatMap dNext
  | 0, _ => rfl
  | j + 1, h => by
    have hj : L[j]? = some (L.getD j .nil) := by rw [List.getD_eq_getElem?_getD, List.getElem?_eq_getElem (show j < L.length by omega)]; rfl
    rw [blks_succ, blks_nx L j (by omega), flat_take hj]; rfl
theorem allS_pos {n : Nat} (h : n ≤ 8) : 1 ≤ (allS n).length := by
  have h8 : ∀ n : Fin 9, 1 ≤ (allS n.val).length := by decide +kernel
  exact h8 ⟨n, by omega⟩
section
variable {P : Program} {w : World} {K : PySem.W.Frag} {mg : Str → Option Value} {base : Heap}
def sp_all_schedules (K : PySem.W.Frag) : Sp := fun vs H Q _ => ∃ n : Nat, vs = [.int (n : Int)] ∧ n ≤ 8 ∧ ∀ H' p, Same H H' → Dp K H' (.ref p) (.tuple ((allS n).map dSch)) → Q (.ref p) H'
theorem ok_all_schedules (TX : Tx K mg) : FnOk P w K mg base CX0 4 TX.a_all_schedules TX.fd_all_schedules ["n"] (sp_all_schedules K) := by
  refine TX.f_all_schedules.ok sc_all_schedules (fun vs H Q E h => ?_) (fun cdv A outer s H vs Q E hr h => ?_)
  · obtain ⟨n, rfl, _⟩ := h; rfl
  · obtain ⟨n, rfl, hn, q⟩ := h
    refine ⟨_, (pss_cons (ps_if (pt_not (pt_val (pe_call (ok_is_count_up_to TX) (hr.mono (by decide)) (by rfl) TX.g_is_count_up_to TX.f_is_count_up_to.kp TX.bd_is_count_up_to .nil pass0 (pa_cons (pv 0) (pa_cons (pe_glob (v := .int (8)) (by rfl) TX.c_MOST_LISTED_FLUSHES ⟨_, rfl⟩) pa_nil)))))
        (pss_one ps_never)
        pss_nil)
      (pss_cons (ps_set (i := 1) sc_all_schedules.nd rfl (.inl rfl) (pe_lst (pa_cons (pe_tup pa_nil) pa_nil)))
      (pss_cons (ps_while PassesOwn.never (pt_cmpR op_lt (pe_callB (id := "len") (k_len (K := K) rfl) (by rfl) TX.b_len (by decide +kernel) (pa_cons (pe_ix (k_ixL (K := K) rfl) (pv 1) pe_int (fun _ _ => rfl)) pa_nil)) (pv 0) (nomark _))
        (pss_one (ps_setLc2 (i := 1) (own := [("shorter", 2), ("merge", 3)]) (vs1 := [3]) (by rfl) sc_all_schedules.nd rfl rfl (sw_true rfl rfl rfl (by decide +kernel)) (k_piL (K := K) rfl (pv 1)) (blkOk_by (own := [("shorter", 2), ("merge", 3)]) (N := N_all_schedules) (sc := defScope s_all_schedules) (by decide +kernel)) (by decide) (fun _ _ _ _ _ => (pg_name (i := 2) sc_all_schedules.nd rfl (Or.inl rfl))) (fun _ _ _ _ _ => pts_nil) (fun _ _ _ _ _ => (pi_range1 (by rfl) TX.b_range (pa_cons (pe_op op_add (pe_call (ok_runs_at_end TX) (hr.mono (by decide)) (by rfl) TX.g_runs_at_end TX.f_runs_at_end.kp TX.bd_runs_at_end .nil pass0 (pa_cons (pv 2) pa_nil)) pe_int) pa_nil))) (fun _ _ _ _ _ => (pg_name (i := 3) sc_all_schedules.nd rfl (Or.inl rfl))) (fun _ _ _ _ _ => pts_nil) (fun _ _ _ _ _ => (pe_op (k_catT (K := K) rfl) (pv 2) (pe_tup (pa_cons (pv 3) pa_nil)))))))
      (pss_one (ps_ret (pe_callTy (T := "tuple") (k_tupOf (K := K) rfl) (by rfl) TX.b_tuple (by decide +kernel) (pa_cons (pv 1) pa_nil))))))), ?_⟩
    refine ⟨_, rfl, _, _, rfl, true, by rw [decide_eq_true (by omega), decide_eq_true (by omega)]; rfl, iteF ?_⟩
    refine ⟨sz60 (by simp), fun e0 n0 => ⟨sz60 (by simp), fun f0 nf0 => ?_⟩⟩
    have s0 := (same_upd (o := .tup []) n0).trans (same_upd (o := .lst [V.ref e0]) nf0)
    refine ⟨fun m σ H' => ∃ (i : Nat) (f : Addr) (xs : List V), σ = [some (.int (n : Int)), some (.ref f), none, none] ∧ i + m = n ∧ Same H H' ∧ H' f = some (.lst xs) ∧ DpAll K H' xs ((allS i).map dSch), ⟨n, 0, f0, [V.ref e0], rfl, by omega, s0, upd_same, .cons (.tup (Same.tup (same_upd nf0) (.inl (.inl upd_same))) .nil) .nil⟩, ?_⟩
    rintro m σ H1 ⟨i, f, xs, rfl, him, s1, hf, hA⟩
    have hxl := DpAll.len hA
    rw [List.length_map] at hxl
    have hp := allS_pos (n := i) (by omega)
    obtain ⟨t0, ht0⟩ : ∃ t0, (allS i)[0]? = some t0 := ⟨_, List.getElem?_eq_getElem hp⟩
    have hz0 := allS_size i t0 (List.mem_of_getElem? ht0)
    obtain ⟨v0, g1, g2⟩ := DpAll.get hA (show ((allS i).map dSch)[0]? = some (dSch t0) by rw [List.getElem?_map, ht0]; rfl)
    obtain ⟨b0, rfl, g3⟩ := Dp.intsInv g2
    have hl0 : ((ci t0.sch).map V.int).length = i := by simp [ci, T.sch_len, hz0]
    refine ⟨.ref f, rfl, f, xs, 0, .ref b0, rfl, rfl, .inl (.inl hf), atI_nat (j := 0) g1, b0, _, rfl, .inr g3, _, rfl, _, _, rfl, rfl, ?_⟩
    rw [hl0]
    by_cases hm : m = 0
    · have hin : i = n := by omega
      refine ⟨_, rfl, decF (by omega) ?_⟩
      subst hin
      refine ⟨.ref f, rfl, f, xs, rfl, .inl ⟨.inl (.inl hf), fun p np => ?_⟩⟩
      refine q _ p (s1.trans (same_upd np)) (.tup (.inl (.inl upd_same)) (DpAll.same (same_upd np) hA))
    · refine ⟨_, rfl, decT (by omega) ⟨_, fun σ' H' h => ⟨m - 1, by omega, h⟩, ?_⟩⟩
      refine ⟨.ref f, rfl, f, rfl, ⟨_, .inl (.inl hf)⟩, fun D nD => ?_⟩
      refine lc2_out (K := K) (walk_list (K := K) (a := f) (xs := xs)) (nxB (allS i)) nD (fun H' s' => .inl (.inl (s' _ _ hf))) ?_ ?_
      · rintro j x Hx Hx' hj ax hy Nx hN
        obtain ⟨rfl, hx⟩ := hy
        have hj' : j < (allS i).length := by omega
        have ht : (allS i)[j]? = some ((allS i).getD j .nil) := by rw [List.getD_eq_getElem?_getD, List.getElem?_eq_getElem hj']; rfl
        have hnx : nxB (allS i) j = dNext ((allS i).getD j .nil) := rfl
        rw [hnx] at hN
        generalize (allS i).getD j .nil = t at ht hnx hN
        have hz := allS_size i t (List.mem_of_getElem? ht)
        obtain ⟨v, k1, k2⟩ := DpAll.get hA (show ((allS i).map dSch)[j]? = some (dSch t) by rw [List.getElem?_map, ht]; rfl)
        rw [hx] at k1
        cases k1
        obtain ⟨b, rfl, k3⟩ := Dp.intsInv k2
        have k3' := Same.tup ax.1 k3
        have hrl := T.runs_le t
        refine ⟨rfl, yesT ?_⟩
        refine ⟨.ref b, rfl, b, t, rfl, by rw [vi_ci]; exact k3', by omega, _, _, rfl, rfl, _, rfl, by omega, by omega, ?_⟩
        rw [show ((t.runs : Int) + 1).toNat = t.runs + 1 by omega]
        refine lc2_in (K := K) walk_range (blks (nxB (allS i)) j) (dNext t) (by rw [dNext, List.length_map, List.length_range]) (fun d hd => ?_) (tf_next t) ?_ nD ax (fun _ _ => trivial) ?_ hN (fun x σ' H' Q Q' h => h _ _) (fun σ' H' Q Q' h => h _ _)
        · obtain ⟨j', _, hd⟩ := mem_blks hd
          exact tf_next _ d hd
        · rw [blks_nx _ _ (by omega)]
          have h1 := flat_le (allS i) j
          rw [dNext_all, List.length_map] at h1
          have h2 := allS_len (n := i + 1) (by omega)
          omega
        · rintro m y Hy Hy' hm sy hy d hd R hR
          obtain ⟨rfl, rfl⟩ := hy
          have ed : d = dSch (t.push m) := by
            rw [dNext, List.getElem?_map, List.getElem?_range hm] at hd
            exact (Option.some.inj hd).symm
          subst ed
          have em : (0 : Int) + (m : Nat) = (m : Int) := by omega
          dsimp only
          rw [em]
          refine ⟨rfl, rfl, .ref b, rfl, _, rfl, sz60 (by simp), fun o no => ?_⟩
          have so := same_upd (o := .tup [V.int (m : Int)]) no
          refine cat_read (Same.tup (sy.trans so) k3) (.inl (.inl upd_same)) (by simp [ci, T.sch_len]; omega) fun o2 H4 s4 h4 => hR _ _ (so.trans s4) (dp_tup (ns := ci (t.push m).sch) ?_)
          rw [T.push_sch t m (by omega)]
          have e2 : ((ci (t.sch ++ [m])).map V.int) = (ci t.sch).map V.int ++ [V.int (m : Int)] := by simp [ci]
          rw [e2]; exact h4
      · intro H5 acc s5 ha hA5
        rw [hxl, blks_nx _ _ (Nat.le_refl _), List.take_of_length_le (Nat.le_refl _), dNext_all] at hA5
        exact ⟨i + 1, D, acc, rfl, by omega, s1.trans s5, ha, hA5⟩
end
/-- a schedule, with the number of runs before each flush -/
def SchR (p : List Nat) (r : Nat → Nat) : Prop := r 0 = 0 ∧ ∀ i m, p[i]? = some m → m ≤ r i ∧ r (i + 1) = r i - m + 1
theorem schR_T (t : T) : SchR t.sch fun i => (pre t i).runs := by
  refine ⟨rfl, fun i m hm => ?_⟩
  obtain ⟨h1, h2⟩ := pre_succ hm
  exact ⟨h2, by dsimp only; rw [h1, T.push_runs _ _ h2]⟩
def prs : Nat → List Nat → List Nat
  | _, [] => []
  | t, w :: ws => (t + w) :: prs (t + w) ws
def crow (n : Nat) : Nat → List Nat
  | 0 => List.replicate (n + 1) 1
  | m + 1 => prs 0 (crow n m).tail
theorem prs_len : ∀ {t : Nat} {ws : List Nat}, (prs t ws).length = ws.length
  | _, [] => rfl
  | t, w :: ws => by simp only [prs, List.length_cons, prs_len]
theorem crow_len {n : Nat} : ∀ {m : Nat}, m ≤ n → (crow n m).length = n + 1 - m
  | 0, _ => by simp [crow]
  | m + 1, h => by
    show (prs 0 (crow n m).tail).length = _
    rw [prs_len, List.length_tail, crow_len (by omega)]; omega
def RowsL (p : Addr) (H : Hp) (n j : Nat) (rs : List V) : Prop := rs.length = j ∧ ∀ m, m < j → ∃ a, rs[m]? = some (.ref a) ∧ a ≠ p ∧ H a = some (.lst (vi (crow n m)))
theorem RowsL.but {p r : Addr} {H H' : Hp} {n j : Nat} {rs : List V} (h : RowsL p H n j rs) (b : But r H H') (nr : H r = none ∨ r = p) : RowsL p H' n j rs := ⟨h.1, fun m hm => by
  obtain ⟨a, h1, h2, h3⟩ := h.2 m hm
  refine ⟨a, h1, h2, b _ _ (fun z => ?_) h3⟩
  rcases nr with nr | nr
  · rw [z, nr] at h3; cases h3
  · exact h2 (z.trans nr)⟩
theorem prs_get : ∀ {t i : Nat} {ws : List Nat}, i < ws.length → (prs t ws)[i]? = some (t + (ws.take (i + 1)).sum)
  | _, _, [], h => by simp at h
  | t, 0, w :: ws, _ => by simp [prs]
  | t, i + 1, w :: ws, h => by
    have h' : i < ws.length := by simpa using h
    simp only [prs, List.getElem?_cons_succ, prs_get h', List.take_succ_cons, List.sum_cons]
    congr 1
    omega
theorem atI_end {xs : List V} {n : Nat} {v : V} (h : xs[n]? = some v) (hl : xs.length = n + 1) : atI xs (-1) = some v := by
  have hne : xs ≠ [] := fun z => by rw [z] at hl; cases hl
  have e : xs.getLast hne = v := by
    rw [List.getLast_eq_getElem]
    have h2 := List.getElem?_eq_some_iff.mp h
    obtain ⟨q, r⟩ := h2
    rw [← r]
    congr 1
    omega
  rw [← List.dropLast_concat_getLast hne, e]
  exact atI_last _ _
def contW (H : Hp) (p : Addr) (n : Nat) : Nat → L2.St → Hp → Prop := fun m σ G => ∃ (j : Nat) (rs : List V) (y2 y3 y4 : Option V), j + m = n + 1 ∧ 1 ≤ j ∧ σ = [some (.int (n : Int)), some (.ref p), y2, y3, y4] ∧ Same H G ∧ G p = some (.lst rs) ∧ RowsL p G n j rs
section
variable {P : Program} {w : World} {K : PySem.W.Frag} {mg : Str → Option Value} {base : Heap}
def sp_continuations (K : PySem.W.Frag) : Sp := fun vs H Q _ => ∃ n : Nat, vs = [.int (n : Int)] ∧ n ≤ 60 ∧ ∀ H' p rs, Same H H' → H' p = some (.lst rs) → RowsL p H' n (n + 1) rs → Q (.ref p) H'
theorem ok_continuations (TX : Tx K mg) : FnOk P w K mg base CX0 1 TX.a_continuations TX.fd_continuations ["n"] (sp_continuations K) := by
  refine TX.f_continuations.ok sc_continuations (fun vs H Q E h => ?_) (fun cdv A outer s H vs Q E hr h => ?_)
  · obtain ⟨n, rfl, _⟩ := h; rfl
  · obtain ⟨n, rfl, hn, q⟩ := h
    refine ⟨_, (pss_cons (ps_set (i := 1) sc_continuations.nd rfl (.inl rfl) (pe_lst (pa_cons (pe_op op_rep (pe_lst (pa_cons pe_int pa_nil)) (pe_op op_add (pv 0) pe_int)) pa_nil)))
      (pss_cons (ps_while PassesOwn.never (pt_cmpR op_le (pe_callB (id := "len") (k_len (K := K) rfl) (by rfl) TX.b_len (by decide +kernel) (pa_cons (pv 1) pa_nil)) (pv 0) (nomark _))
        (pss_cons (ps_set (i := 2) sc_continuations.nd rfl (.inl rfl) (pe_lst pa_nil))
        (pss_cons (ps_set (i := 3) sc_continuations.nd rfl (.inl rfl) pe_int)
        (pss_cons (ps_for PassesOwn.never rfl (k_piL (K := K) rfl (pe_slice sl_list (pe_ix (k_ixL (K := K) rfl) (pv 1) (pe_un un_neg pe_int) (fun _ _ => rfl)) (po_some pe_int) po_none)) (pg_name (i := 4) sc_continuations.nd rfl (.inl rfl))
          (pss_cons (ps_aug (i := 3) sc_continuations.nd rfl (.inl rfl) (pv 4) ip_add)
          (pss_one (ps_expr (pe_bm PySem.F.plainAttrs_list PySem.F.slot_list_append PySem.F.type_list_append mt_append (pv 2) (pa_cons (pv 3) pa_nil))))))
        (pss_one (ps_expr (pe_bm PySem.F.plainAttrs_list PySem.F.slot_list_append PySem.F.type_list_append mt_append (pv 1) (pa_cons (pv 2) pa_nil))))))))
      (pss_one (ps_ret (pv 1))))), ?_⟩
    refine ⟨sz60 (by simp), fun a0 n0 => ⟨_, rfl, _, _, rfl, rfl, a0, _, [V.int 1], rfl, rfl, upd_same, by omega, by omega, Nat.le_trans (show _ ≤ 61 by simp; omega) (by decide +kernel), fun a1 n1 => ⟨sz60 (by simp), fun p0 n2 => ?_⟩⟩⟩
    have z0 := same_upd (o := .lst [V.int 1]) n0
    have z1 := same_upd (o := .lst (List.replicate ((n : Int) + 1).toNat [V.int 1]).flatten) n1
    have f1 := upd_same (H := upd H a0 (.lst [V.int 1])) (a := a1) (o := .lst (List.replicate ((n : Int) + 1).toNat [V.int 1]).flatten)
    have z2 := same_upd (o := .lst [V.ref a1]) n2
    have hp0 : H p0 = none := (z0.trans z1).free n2
    have h10 : a1 ≠ p0 := fun z => by rw [← z, f1] at n2; cases n2
    have f1' := z2 _ _ f1
    have f2 := upd_same (H := upd (upd H a0 (.lst [V.int 1])) a1 (.lst (List.replicate ((n : Int) + 1).toNat [V.int 1]).flatten)) (a := p0) (o := .lst [V.ref a1])
    have e4 : (List.replicate ((n : Int) + 1).toNat [V.int 1]).flatten = vi (crow n 0) := by
      show _ = vi (List.replicate (n + 1) 1)
      rw [show ((n : Int) + 1).toNat = n + 1 by omega, vi_rep]
      generalize n + 1 = m
      induction m with
      | zero => rfl
      | succ m ih => rw [List.replicate_succ, List.flatten_cons, ih, List.replicate_succ]; rfl
    have s02 := z0.trans (z1.trans z2)
    replace f1' := f1'.trans (congrArg (fun z => some (HO.lst z)) e4)
    generalize upd (upd (upd H a0 _) a1 _) p0 _ = G0 at *
    refine ⟨contW H p0 n, ⟨n, 1, [V.ref a1], _, _, _, by omega, Nat.le_refl 1, rfl, s02, f2, rfl, fun m hm => ⟨a1, by rw [show m = 0 by omega]; rfl, h10, by rw [show m = 0 by omega]; exact f1'⟩⟩, ?_⟩
    rintro m σ G ⟨j, rs, y2, y3, y4, hjm, hj1, rfl, sG, hp, hR⟩
    refine ⟨.ref p0, rfl, p0, _, rfl, .inl (.inl (.inl hp)), _, rfl, _, _, rfl, rfl, ?_⟩
    have hrl := hR.1
    by_cases hj : j ≤ n
    rotate_left
    · refine ⟨false, blF (by rw [hrl]; omega), iteF ?_⟩
      have ej : j = n + 1 := by omega
      subst ej
      exact ⟨_, rfl, q G p0 rs sG hp hR⟩
    refine ⟨true, blT (by rw [hrl]; omega), iteT ⟨contW H p0 n (m - 1), fun σ' H' h => ⟨m - 1, by omega, h⟩, ?_⟩⟩
    refine ⟨sz60 (by simp), fun r nr => ?_⟩
    obtain ⟨c, hc1, hc2, hc3⟩ := hR.2 (j - 1) (by omega)
    have hlast := atI_end hc1 (by rw [hrl]; omega)
    have zr := same_upd (o := .lst []) nr
    have fr := upd_same (H := G) (a := r) (o := .lst [])
    have hrp : r ≠ p0 := fun z => by rw [z, hp] at nr; cases nr
    have br : But r G (upd G r (.lst [])) := .upd
    have sr := sG.trans zr
    have hpr := zr _ _ hp
    have hcr := zr _ _ hc3
    have hrH : H r = none := sG.free nr
    generalize upd G r _ = G1 at *
    refine ⟨.ref p0, rfl, _, rfl, p0, rs, -1, .ref c, rfl, rfl, .inl (.inl hpr), hlast, _, rfl, ?_⟩
    unfold tNoPart
    refine ⟨c, _, rfl, .inl (.inl hcr), fun sl ns => ?_⟩
    have e5 : cutV (vi (crow n (j - 1))) (some 1) none = vi ((crow n (j - 1)).drop 1) := by
      have hl := crow_len (n := n) (m := j - 1) (by omega)
      exact cutV_from (m := 1) (by omega)
    rw [e5]
    obtain ⟨ws, hws⟩ : ∃ ws, ws = (crow n (j - 1)).drop 1 := ⟨_, rfl⟩
    have ews : prs 0 ws = crow n j := by
      rw [hws, List.drop_one]
      show crow n ((j - 1) + 1) = _
      rw [show j - 1 + 1 = j by omega]
    have hwl : ws.length ≤ 60 := by
      rw [hws, List.length_drop, crow_len (by omega)]; omega
    rw [← hws]
    have zs := same_upd (o := .lst (vi ws)) ns
    have fs := upd_same (H := G1) (a := sl) (o := .lst (vi ws))
    have hsr : sl ≠ r := fun z => by rw [z, fr] at ns; cases ns
    have fr2 := zs _ _ fr
    have sr2 := sr.trans zs
    have bR : But r G _ := br.trans (But.of zs)
    have hp2 := zs _ _ hpr
    generalize upd G1 sl _ = G2 at *
    refine ⟨sl, rfl, ⟨_, .inl (.inl fs)⟩, for_list (K := K) (xs := vi ws) (fun i σ G' => ∃ y4, σ = [some (.int (n : Int)), some (.ref p0), some (.ref r), some (.int (((ws.take i).sum : Nat) : Int)), y4] ∧ But r G2 G' ∧ G' r = some (.lst (vi ((prs 0 ws).take i)))) ⟨_, rfl, .refl, fr2⟩ (fun i σ G' _ h => by obtain ⟨_, _, h, _⟩ := h; exact .inl (.inl (h _ _ hsr fs))) ?_ ?_⟩
    · rintro i x σ G' hx ⟨y4, rfl, b, hr'⟩
      have hi : i < ws.length := by have := (List.getElem?_eq_some_iff.mp hx).1; rwa [vi_len] at this
      have hg := List.getElem?_eq_getElem hi
      rw [vi_get hg] at hx
      cases hx
      refine ⟨_, rfl, _, rfl, _, _, rfl, rfl, ?_⟩
      have e6 : (ws.take (i + 1)).sum = (ws.take i).sum + ws[i] := by
        rw [List.take_add_one, hg, List.sum_append, Option.toList_some, List.sum_singleton]
      refine ⟨.ref r, rfl, .inl ⟨rfl, _, .inl (.inl hr')⟩, _, rfl, r, _, _, rfl, rfl, hr', sz61 (by rw [vi_len, List.length_take, prs_len]; omega), ?_⟩
      refine ⟨some (.int (ws[i] : Int)), by rw [e6]; rfl, b.trans .upd, ?_⟩
      rw [List.take_add_one, prs_get hi, Nat.zero_add, e6]
      simp only [Option.toList_some, vi_app]
      exact upd_same
    · rintro σ G' ⟨y4, rfl, b, hr'⟩
      rw [List.take_of_length_le (by rw [vi_len, prs_len]; omega), ews] at hr'
      have hp3 := b _ _ (Ne.symm hrp) hp2
      have bAll := bR.trans b
      refine ⟨.ref p0, rfl, .inl ⟨rfl, _, .inl (.inl hp3)⟩, _, rfl, p0, rs, _, rfl, rfl, hp3, sz61 (by omega), ?_⟩
      have hR2 := hR.but bAll (.inl nr)
      have hR3 : RowsL p0 (upd G' p0 (.lst (rs ++ [V.ref r]))) n j rs := hR2.but .upd (.inr rfl)
      have sF : Same H (upd G' p0 (.lst (rs ++ [V.ref r]))) := by
        have s3 : Same H G' := fun b' o' e' => b _ _ (fun z => by rw [z, hrH] at e'; cases e') (sr2 _ _ e')
        exact Same.mut s3 hp0
      refine ⟨j + 1, rs ++ [V.ref r], _, _, _, by omega, by omega, rfl, sF, upd_same, by simp [hrl], fun m' hm' => ?_⟩
      by_cases e : m' < j
      · obtain ⟨a, g1, g2, g3⟩ := hR3.2 m' e
        exact ⟨a, by rw [List.getElem?_append_left (by omega)]; exact g1, g2, g3⟩
      · refine ⟨r, ?_, hrp, ?_⟩
        · rw [List.getElem?_append_right (by omega), show m' - rs.length = 0 by omega]; rfl
        · rw [upd_ne hrp, show m' = j by omega]; exact hr'
def rowG (n m i : Nat) : Nat := (crow n m).getD i 0
theorem RowsL.at {p : Addr} {H : Hp} {n j m : Nat} {rs : List V} (h : RowsL p H n j rs) (hm : m < j) : ∃ a, atI rs ((m : Nat) : Int) = some (.ref a) ∧ H a = some (.lst (vi (crow n m))) := by
  obtain ⟨a, h1, _, h3⟩ := h.2 m hm
  exact ⟨a, atI_nat h1, h3⟩
def sp_count_schedules (K : PySem.W.Frag) : Sp := fun vs H Q _ => ∃ n : Nat, vs = [.int (n : Int)] ∧ n ≤ 60 ∧ ∀ H', Same H H' → Q (.int ((rowG n n 0 : Nat) : Int)) H'
theorem ok_count_schedules (TX : Tx K mg) : FnOk P w K mg base CX0 5 TX.a_count_schedules TX.fd_count_schedules ["n"] (sp_count_schedules K) := by
  refine TX.f_count_schedules.ok sc_count_schedules (fun vs H Q E h => ?_) (fun cdv A outer s H vs Q E hr h => ?_)
  · obtain ⟨n, rfl, _⟩ := h; rfl
  · obtain ⟨n, rfl, hn, q⟩ := h
    refine ⟨_, (pss_cons (ps_expr (pe_call (ok_check_flushes TX) (hr.mono (by decide)) (by rfl) TX.g_check_flushes TX.f_check_flushes.kp TX.bd_check_flushes .nil pass0 (pa_cons (pv 0) pa_nil)))
      (pss_one (ps_ret (pe_ix (k_ixL (K := K) rfl) (pe_ix (k_ixL (K := K) rfl) (pe_call (ok_continuations TX) (hr.mono (by decide)) (by rfl) TX.g_continuations TX.f_continuations.kp TX.bd_continuations .nil pass0 (pa_cons (pv 0) pa_nil)) (pv 0) (fun _ _ => rfl)) pe_int (fun _ _ => rfl))))), ?_⟩
    refine ⟨_, rfl, n, rfl, hn, ?_⟩
    refine ⟨_, rfl, n, rfl, hn, fun H' p rs s hp hR => ?_⟩
    obtain ⟨a, h1, h3⟩ := hR.at (m := n) (by omega)
    have hl := crow_len (n := n) (m := n) (Nat.le_refl _)
    have h0 : (crow n n)[0]? = some (rowG n n 0) := by
      rw [List.getElem?_eq_getElem (by omega)]
      unfold rowG
      rw [List.getD_eq_getElem?_getD, List.getElem?_eq_getElem (by omega)]; rfl
    exact ⟨_, rfl, p, rs, _, .ref a, rfl, rfl, .inl (.inl hp), h1, a, _, 0, _, rfl, rfl, .inl (.inl h3), at_vi (i := 0) h0, q H' s⟩
theorem cut_mid {xs : List V} {l h : Nat} (h1 : l ≤ xs.length) (h2 : h ≤ xs.length) : cutV xs (some (l : Int)) (some (h : Int)) = (xs.drop l).take (h - l) := by
  unfold cutV
  rw [HT.sIx_nat, HT.sIx_nat, Nat.min_eq_left h1, Nat.min_eq_left h2]
theorem sum_ci : ∀ xs : List Nat, (ci xs).sum = ((xs.sum : Nat) : Int)
  | [] => rfl
  | x :: xs => by
    have := sum_ci xs
    simp only [ci, List.map_cons, List.sum_cons] at this ⊢
    rw [this]; omega
/-- index_of, as the program counts -/
def ixF (n : Nat) : List Nat → Nat → Nat → Nat → Nat
  | [], _, _, b => b
  | m :: p, i, r, b => ixF n p (i + 1) (r + 1 - m) (b + (((crow n (n - 1 - i)).drop (r + 1 - m + 1)).take (m)).sum)
def sp_index_of (K : PySem.W.Frag) : Sp := fun vs H Q _ => ∃ (a : Addr) (t : T), vs = [.ref a] ∧ SqT K H a (vi t.sch) ∧ t.size ≤ 60 ∧ ∀ H', Same H H' → Q (.int ((ixF t.size t.sch 0 0 0 : Nat) : Int)) H'
theorem ok_index_of (TX : Tx K mg) : FnOk P w K mg base CX0 5 TX.a_index_of TX.fd_index_of ["schedule"] (sp_index_of K) := by
  refine TX.f_index_of.ok sc_index_of (fun vs H Q E h => ?_) (fun cdv A outer s H vs Q E hr h => ?_)
  · obtain ⟨a, t, rfl, _⟩ := h; rfl
  · obtain ⟨a, t, rfl, hS, hz, q⟩ := h
    have hsc := schR_T t
    rw [← T.sch_len] at q
    have hl : t.sch.length ≤ 60 := by rw [T.sch_len]; exact hz

    refine ⟨_, (pss_cons (ps_if (pt_not (pt_val (pe_call (ok_is_schedule TX) (hr.mono (by decide)) (by rfl) TX.g_is_schedule TX.f_is_schedule.kp TX.bd_is_schedule .nil pass0 (pa_cons (pv 0) pa_nil))))
        (pss_one ps_never)
        pss_nil)
      (pss_cons (ps_set (i := 1) sc_index_of.nd rfl (.inl rfl) (pe_call (ok_continuations TX) (hr.mono (by decide)) (by rfl) TX.g_continuations TX.f_continuations.kp TX.bd_continuations .nil pass0 (pa_cons (pe_callB (id := "len") (k_len (K := K) rfl) (by rfl) TX.b_len (by decide +kernel) (pa_cons (pv 0) pa_nil)) pa_nil)))
      (pss_cons (ps_set (i := 2) sc_index_of.nd rfl (.inl rfl) pe_int)
      (pss_cons (ps_set (i := 3) sc_index_of.nd rfl (.inl rfl) pe_int)
      (pss_cons (ps_for PassesOwn.never rfl (pi_enumT (by rfl) TX.b_enumerate (pa_cons (pv 0) pa_nil)) (pg_tup rfl (pgs_cons (pg_name (i := 4) sc_index_of.nd rfl (.inl rfl)) (pgs_cons (pg_name (i := 5) sc_index_of.nd rfl (.inl rfl)) pgs_nil)))
        (pss_cons (ps_set (i := 6) sc_index_of.nd rfl (.inl rfl) (pe_ix (k_ixL (K := K) rfl) (pv 1) (pe_op op_sub (pe_op op_sub (pe_callB (id := "len") (k_len (K := K) rfl) (by rfl) TX.b_len (by decide +kernel) (pa_cons (pv 0) pa_nil)) pe_int) (pv 4)) (fun _ _ => rfl)))
        (pss_cons (ps_set (i := 7) sc_index_of.nd rfl (.inl rfl) (pe_op op_sub (pe_op op_add (pv 3) pe_int) (pv 5)))
        (pss_cons (ps_aug (i := 2) sc_index_of.nd rfl (.inl rfl) (pe_callB (id := "sum") (cr_sum rfl) (by rfl) TX.b_sum (by decide +kernel) (pa_cons (pe_slice sl_list (pv 6) (po_some (pe_op op_add (pv 7) pe_int)) (po_some (pe_op op_add (pv 3) pe_int))) pa_nil)) ip_add)
        (pss_one (ps_set (i := 3) sc_index_of.nd rfl (.inl rfl) (pv 7)))))))
      (pss_one (ps_ret (pv 2)))))))), ?_⟩
    refine ⟨.ref a, rfl, a, t, rfl, hS, hz, true, rfl, iteF ?_⟩
    generalize t.sch = p at *
    generalize (fun i => (pre t i).runs) = r at *
    refine ⟨.ref a, rfl, a, _, rfl, .inr hS, p.length, by rw [vi_len]; rfl, hl, fun H1 pr rs s1 hp hR => ?_⟩
    have hri : ∀ i, i ≤ p.length → r i ≤ i := fun i => by
      induction i with
      | zero => intro _; rw [hsc.1]; exact Nat.le_refl 0
      | succ i ih =>
        intro hi
        obtain ⟨a1, a2⟩ := hsc.2 i _ (List.getElem?_eq_getElem (show i < p.length by omega))
        have := ih (by omega)
        omega
    refine ⟨.ref a, rfl, a, _, rfl, Same.tup s1 hS, for_it walk_enumT (fun i σ H' => ∃ (b : Nat) (y4 y5 y6 y7 : Option V), σ = [some (.ref a), some (.ref pr), some (.int (b : Int)), some (.int ((r i : Nat) : Int)), y4, y5, y6, y7] ∧ Same H1 H' ∧ ixF p.length (p.drop i) i (r i) b = ixF p.length p 0 0 0) ⟨0, none, none, none, none, by rw [hsc.1]; rfl, Same.refl _, by rw [hsc.1]; rfl⟩ (fun i σ H' _ ⟨_, _, _, _, _, _, h, _⟩ => Same.tup (s1.trans h) hS) ?_ ?_⟩
    · rintro i x σ H2 H3 hi ⟨b, y4, y5, y6, y7, rfl, sm, hix⟩ hy
      obtain ⟨Tp, x1, x2, rfl, nT, rfl, e1, e2⟩ := hy
      cases e1
      have hi' : i < p.length := by rw [vi_len] at hi; exact hi
      have hm := List.getElem?_eq_getElem hi'
      replace e2 : (vi p)[i]? = some x2 := e2
      rw [vi_get hm] at e2
      cases e2
      obtain ⟨m, hmm⟩ : ∃ m, m = p[i] := ⟨_, rfl⟩
      rw [← hmm] at hm ⊢
      obtain ⟨a1, a2⟩ := hsc.2 i m hm
      have hrl := hri i (by omega)
      have sT : Same H2 (upd H2 Tp (.tup [.int (i : Nat), .int (m : Int)])) := same_upd nT
      obtain ⟨c, hc1, hc3⟩ := hR.at (m := p.length - 1 - i) (by omega)
      have hcl := crow_len (n := p.length) (m := p.length - 1 - i) (by omega)
      refine ⟨Tp, _, rfl, .inl (.inl upd_same), rfl, _, _, rfl, _, _, rfl, rfl, ?_⟩
      have hp2 := sT _ _ (sm _ _ hp)
      have hc2 := sT _ _ (sm _ _ hc3)
      refine ⟨_, rfl, .ref a, rfl, a, _, rfl, .inr (Same.tup (s1.trans (sm.trans sT)) hS), _, _, rfl, rfl, _, rfl, _, _, rfl, rfl, pr, rs, _, .ref c, rfl, rfl, .inl (.inl hp2), ?_, ?_⟩
      · rw [← hc1]; congr 1; rw [vi_len]; omega
      refine ⟨_, rfl, _, _, rfl, rfl, _, rfl, _, _, rfl, rfl, ?_⟩
      refine ⟨_, rfl, _, rfl, _, rfl, _, _, rfl, rfl, _, rfl, _, rfl, _, _, rfl, rfl, _, rfl, c, _, rfl, .inl (.inl hc2), fun sl ns => ?_⟩
      have e7 : ((r i : Nat) : Int) + 1 - (m : Int) + 1 = ((r i + 1 - m + 1 : Nat) : Int) := by omega
      have e8 : ((r i : Nat) : Int) + 2 = ((r i + 2 : Nat) : Int) := by omega
      have e9 : cutV (vi (crow p.length (p.length - 1 - i))) (some (((r i : Nat) : Int) + 1 - (m : Int) + 1)) (some (((r i : Nat) : Int) + 2)) = (ci (((crow p.length (p.length - 1 - i)).drop (r i + 1 - m + 1)).take m)).map V.int := by
        rw [e7, e8, cut_mid (by rw [vi_len, hcl]; omega) (by rw [vi_len, hcl]; omega), show r i + 2 - (r i + 1 - m + 1) = m by omega, ← vi_ci]
        unfold vi
        rw [List.map_take, List.map_drop]
      have s4 := same_upd (o := .lst (cutV (vi (crow p.length (p.length - 1 - i))) (some (((r i : Nat) : Int) + 1 - (m : Int) + 1)) (some (((r i : Nat) : Int) + 2)))) ns
      refine ⟨sl, ci (((crow p.length (p.length - 1 - i)).drop (r i + 1 - m + 1)).take m), rfl, .inl (.inl (upd_same.trans (congrArg (fun z => some (HO.lst z)) e9))), _, _, rfl, rfl, ?_⟩
      refine ⟨_, rfl, b + (((crow p.length (p.length - 1 - i)).drop (r i + 1 - m + 1)).take m).sum, some (.int (i : Int)), some (.int (m : Int)), some (.ref c), some (.int (((r i : Nat) : Int) + 1 - (m : Int))), ?_, sm.trans (sT.trans s4), ?_⟩
      · rw [sum_ci, a2]
        show [_, _, _, _, _, _, _, _] = [_, _, _, _, _, _, _, _]
        have g1 : ((r i : Nat) : Int) + 1 - (m : Int) = ((r i - m + 1 : Nat) : Int) := by omega
        have g2 : ∀ z : Nat, (b : Int) + (z : Int) = ((b + z : Nat) : Int) := fun z => by omega
        rw [← g1, ← g2]
      · have ed : p.drop i = m :: p.drop (i + 1) := by
          rw [List.drop_eq_getElem_cons hi', hmm]
        rw [ed] at hix
        rw [← hix, a2, show r i - m + 1 = r i + 1 - m by omega]
        rfl
    · rintro σ H2 ⟨b, y4, y5, y6, y7, rfl, sm, hix⟩
      refine ⟨_, rfl, ?_⟩
      rw [vi_len, List.drop_length] at hix
      have e : b = ixF p.length p 0 0 0 := hix
      rw [e]
      exact q _ (s1.trans sm)
end
/-- the way down the choices, as the program goes -/
def dnF (ways : List Nat) : Nat → Nat → Option (Nat × Nat)
  | 0, b => match ways[0]? with
    | some w => if b < w then some (0, b) else none
    | none => none
  | l + 1, b => match ways[l + 1]? with
    | some w => if b < w then some (l + 1, b) else dnF ways l (b - w)
    | none => none
def atL (n : Nat) : Nat → Nat → Nat → Nat → Option (List Nat)
  | 0, _, _, _ => some []
  | k + 1, i, r, b => match dnF (crow n (n - 1 - i)) (r + 1) b with
    | some (l, b') => (atL n k (i + 1) l b').map fun p => (r + 1 - l) :: p
    | none => none
theorem dnF_le {ways : List Nat} : ∀ {l b l' b' : Nat}, dnF ways l b = some (l', b') → l' ≤ l
  | 0, b, l', b', h => by
    unfold dnF at h
    split at h
    · split at h
      · cases h; exact Nat.le_refl 0
      · cases h
    · cases h
  | l + 1, b, l', b', h => by
    unfold dnF at h
    split at h
    · split at h
      · cases h; exact Nat.le_refl _
      · exact Nat.le_succ_of_le (dnF_le h)
    · cases h
/-- one look of the way down -/
theorem dnF_step {ways : List Nat} {l b l' b' : Nat} (h : dnF ways l b = some (l', b')) : ∃ wv, ways[l]? = some wv ∧ ((b < wv ∧ l' = l ∧ b' = b) ∨ (wv ≤ b ∧ ∃ l0, l = l0 + 1 ∧ dnF ways l0 (b - wv) = some (l', b'))) := by
  cases l with
  | zero =>
    unfold dnF at h
    split at h
    · rename_i wv hw
      split at h
      · rename_i hb
        cases h
        exact ⟨wv, hw, .inl ⟨hb, rfl, rfl⟩⟩
      · cases h
    · cases h
  | succ l =>
    unfold dnF at h
    split at h
    · rename_i wv hw
      split at h
      · rename_i hb
        cases h
        exact ⟨wv, hw, .inl ⟨hb, rfl, rfl⟩⟩
      · rename_i hb
        exact ⟨wv, hw, .inr ⟨by omega, l, rfl, h⟩⟩
    · cases h
section
variable {P : Program} {w : World} {K : PySem.W.Frag} {mg : Str → Option Value} {base : Heap}
def sp_schedule_at (K : PySem.W.Frag) : Sp := fun vs H Q _ => ∃ (n ix : Nat) (pl : List Nat), vs = [.int (n : Int), .int (ix : Int)] ∧ n ≤ 60 ∧ ix < rowG n n 0 ∧ atL n n 0 0 ix = some pl ∧ ∀ H' q, Same H H' → SqT K H' q (vi pl) → Q (.ref q) H'
theorem ok_schedule_at (TX : Tx K mg) : FnOk P w K mg base CX0 5 TX.a_schedule_at TX.fd_schedule_at ["n", "index"] (sp_schedule_at K) := by
  refine TX.f_schedule_at.ok sc_schedule_at (fun vs H Q E h => ?_) (fun cdv A outer s H vs Q E hr h => ?_)
  · obtain ⟨n, ix, pl, rfl, _⟩ := h; rfl
  · obtain ⟨n, ix, pl, rfl, hn, hix, hpl, q⟩ := h
    refine ⟨_, (pss_cons (ps_expr (pe_call (ok_check_flushes TX) (hr.mono (by decide)) (by rfl) TX.g_check_flushes TX.f_check_flushes.kp TX.bd_check_flushes .nil pass0 (pa_cons (pv 0) pa_nil)))
      (pss_cons (ps_set (i := 2) sc_schedule_at.nd rfl (.inl rfl) (pe_call (ok_continuations TX) (hr.mono (by decide)) (by rfl) TX.g_continuations TX.f_continuations.kp TX.bd_continuations .nil pass0 (pa_cons (pv 0) pa_nil)))
      (pss_cons (ps_if (pt_not (pt_val (pe_call (ok_is_count_up_to TX) (hr.mono (by decide)) (by rfl) TX.g_is_count_up_to TX.f_is_count_up_to.kp TX.bd_is_count_up_to .nil pass0 (pa_cons (pv 1) (pa_cons (pe_op op_sub (pe_ix (k_ixL (K := K) rfl) (pe_ix (k_ixL (K := K) rfl) (pv 2) (pv 0) (fun _ _ => rfl)) pe_int (fun _ _ => rfl)) pe_int) pa_nil)))))
        (pss_one ps_never)
        pss_nil)
      (pss_cons (ps_set (i := 3) sc_schedule_at.nd rfl (.inl rfl) (pe_lst pa_nil))
      (pss_cons (ps_set (i := 4) sc_schedule_at.nd rfl (.inl rfl) pe_int)
      (pss_cons (ps_set (i := 5) sc_schedule_at.nd rfl (.inl rfl) (pv 1))
      (pss_cons (ps_for PassesOwn.never rfl (pi_range1 (by rfl) TX.b_range (pa_cons (pv 0) pa_nil)) (pg_name (i := 6) sc_schedule_at.nd rfl (.inl rfl))
        (pss_cons (ps_set (i := 7) sc_schedule_at.nd rfl (.inl rfl) (pe_ix (k_ixL (K := K) rfl) (pv 2) (pe_op op_sub (pe_op op_sub (pv 0) pe_int) (pv 6)) (fun _ _ => rfl)))
        (pss_cons (ps_set (i := 8) sc_schedule_at.nd rfl (.inl rfl) (pe_op op_add (pv 4) pe_int))
        (pss_cons (ps_while PassesOwn.never (pt_cmpR op_ge (pv 5) (pe_ix (k_ixL (K := K) rfl) (pv 7) (pv 8) (fun _ _ => rfl)) (nomark _))
          (pss_cons (ps_aug (i := 5) sc_schedule_at.nd rfl (.inl rfl) (pe_ix (k_ixL (K := K) rfl) (pv 7) (pv 8) (fun _ _ => rfl)) ip_sub)
          (pss_one (ps_aug (i := 8) sc_schedule_at.nd rfl (.inl rfl) pe_int ip_sub))))
        (pss_cons (ps_expr (pe_bm PySem.F.plainAttrs_list PySem.F.slot_list_append PySem.F.type_list_append mt_append (pv 3) (pa_cons (pe_op op_sub (pe_op op_add (pv 4) pe_int) (pv 8)) pa_nil)))
        (pss_one (ps_set (i := 4) sc_schedule_at.nd rfl (.inl rfl) (pv 8))))))))
      (pss_one (ps_ret (pe_callTy (T := "tuple") (k_tupOf (K := K) rfl) (by rfl) TX.b_tuple (by decide +kernel) (pa_cons (pv 3) pa_nil))))))))))), ?_⟩
    refine ⟨_, rfl, n, rfl, hn, ?_⟩
    refine ⟨_, rfl, n, rfl, hn, fun H1 pr rs s1 hp hR => ?_⟩
    obtain ⟨a, h1, h3⟩ := hR.at (m := n) (by omega)
    have hl := crow_len (n := n) (m := n) (Nat.le_refl _)
    have h0 : (crow n n)[0]? = some (rowG n n 0) := by
      rw [List.getElem?_eq_getElem (by omega)]
      unfold rowG
      rw [List.getD_eq_getElem?_getD, List.getElem?_eq_getElem (by omega)]; rfl
    refine ⟨_, rfl, _, rfl, _, rfl, pr, rs, _, .ref a, rfl, rfl, .inl (.inl hp), h1, a, _, 0, _, rfl, rfl, .inl (.inl h3), at_vi (i := 0) h0, _, _, rfl, rfl, (ix : Int), ((rowG n n 0 : Nat) : Int) - 1, rfl, true, by rw [decide_eq_true (by omega), decide_eq_true (by omega)]; rfl, iteF ?_⟩
    refine ⟨sz60 (by simp), fun ml nm => ?_⟩
    have zm := same_upd (o := .lst []) nm
    have fm := upd_same (H := H1) (a := ml) (o := .lst [])
    have hml : H ml = none := s1.free nm
    have hmp : pr ≠ ml := fun z => by rw [← z, hp] at nm; cases nm
    have bm : But ml H1 (upd H1 ml (.lst [])) := .upd
    generalize upd H1 ml _ = G0 at *
    refine ⟨_, rfl, _, rfl, _, rfl, by omega, by omega, ?_⟩
    rw [show ((n : Nat) : Int).toNat = n by omega]
    refine for_range (lo := 0) (n := n) (fun i σ G => ∃ (acc rest : List Nat) (r b : Nat) (y6 y7 y8 : Option V), σ = [some (.int (n : Int)), some (.int (ix : Int)), some (.ref pr), some (.ref ml), some (.int (r : Int)), some (.int (b : Int)), y6, y7, y8] ∧ But ml H1 G ∧ G ml = some (.lst (vi acc)) ∧ acc.length = i ∧ atL n (n - i) i r b = some rest ∧ pl = acc ++ rest) ⟨[], pl, 0, ix, none, none, none, rfl, bm, fm, rfl, hpl, rfl⟩ ?_ ?_
    rotate_left
    · rintro σ G ⟨acc, rest, r, b, y6, y7, y8, rfl, bG, hG, hal, hat, hpe⟩
      rw [Nat.sub_self] at hat
      cases hat
      rw [List.append_nil] at hpe
      subst hpe
      refine ⟨.ref ml, rfl, ml, _, rfl, .inl ⟨.inl (.inl hG), fun t nt => ?_⟩⟩
      have sG : Same H G := fun b' o' e' => bG _ _ (fun z => by rw [z, hml] at e'; cases e') (s1 _ _ e')
      exact q _ t (sG.trans (same_upd nt)) (.inl (.inl upd_same))
    rintro i σ G hi ⟨acc, rest, r, b, y6, y7, y8, rfl, bG, hG, hal, hat, hpe⟩
    have ei : (0 : Int) + (i : Nat) = (i : Int) := by omega
    rw [ei]
    obtain ⟨c, hc1, hc3⟩ := hR.at (m := n - 1 - i) (by omega)
    have hcm : c ≠ ml := fun z => by rw [z, nm] at hc3; cases hc3
    have hpG := bG _ _ hmp hp
    have hcG := bG _ _ hcm hc3
    rw [show n - i = (n - i - 1) + 1 by omega] at hat
    unfold atL at hat
    refine ⟨_, rfl, _, rfl, _, _, rfl, rfl, _, rfl, _, _, rfl, rfl, pr, rs, _, .ref c, rfl, rfl, .inl (.inl hpG), by rw [← hc1]; congr 1; omega, ?_⟩
    refine ⟨_, rfl, _, _, rfl, rfl, ?_⟩
    split at hat
    rotate_left
    · cases hat
    rename_i l' b' hdn
    obtain ⟨rest', hr1, hr2⟩ := Option.map_eq_some_iff.mp hat
    have er : ((r : Nat) : Int) + 1 = ((r + 1 : Nat) : Int) := by omega
    refine ⟨fun m σ G' => ∃ b1 : Nat, σ = [some (.int (n : Int)), some (.int (ix : Int)), some (.ref pr), some (.ref ml), some (.int (r : Int)), some (.int (b1 : Int)), some (.int (i : Int)), some (.ref c), some (.int (m : Int))] ∧ G' = G ∧ dnF (crow n (n - 1 - i)) m b1 = some (l', b'), ⟨r + 1, b, by rw [← er]; rfl, rfl, hdn⟩, ?_⟩
    rintro m σ G' ⟨b1, rfl, rfl, hd⟩
    obtain ⟨wv, hw, hcase⟩ := dnF_step hd
    refine ⟨_, rfl, _, rfl, _, rfl, c, _, _, _, rfl, rfl, .inl (.inl hcG), at_vi hw, _, _, rfl, rfl, ?_⟩
    rcases hcase with ⟨hlt, rfl, rfl⟩ | ⟨hge, l0, rfl, hd0⟩
    · refine ⟨false, blF (by omega), iteF ?_⟩
      have hle := dnF_le hdn
      refine ⟨.ref ml, rfl, .inl ⟨rfl, _, .inl (.inl hG)⟩, _, rfl, _, _, rfl, rfl, _, rfl, _, _, rfl, rfl, ml, _, _, rfl, rfl, hG, sz61 (by rw [vi_len]; omega), ?_⟩
      have e1 : ((r : Nat) : Int) + 1 - (l' : Int) = ((r + 1 - l' : Nat) : Int) := by omega
      refine ⟨_, rfl, acc ++ [r + 1 - l'], rest', l', b', some (.int (i : Int)), some (.ref c), some (.int (l' : Int)), rfl, bG.trans .upd, ?_, by simp [hal], ?_, ?_⟩
      · rw [vi_app]
        show upd _ ml _ ml = _
        rw [upd_same]
        show some (HO.lst (vi acc ++ [V.int (((r : Nat) : Int) + 1 - (l' : Int))])) = _
        rw [e1]; rfl
      · rw [← hr1]; congr 1
      · rw [hpe, ← hr2]; simp
    · refine ⟨true, blT (by omega), iteT ⟨_, fun σ' H' h => ⟨l0, Nat.lt_succ_self _, h⟩, ?_⟩⟩
      refine ⟨_, rfl, _, rfl, _, rfl, c, _, _, _, rfl, rfl, .inl (.inl hcG), at_vi hw, _, _, rfl, rfl, ?_⟩
      refine ⟨_, rfl, _, _, rfl, rfl, b1 - wv, ?_, rfl, hd0⟩
      show [_, _, _, _, _, _, _, _, _] = [_, _, _, _, _, _, _, _, _]
      have g1 : (b1 : Int) - (wv : Int) = ((b1 - wv : Nat) : Int) := by omega
      have g2 : ((l0 + 1 : Nat) : Int) - 1 = (l0 : Int) := by omega
      rw [← g1, ← g2]
end
/-! ### the numbers of schedules: index_of and schedule_at are each other's inverse -/
def TT (n m : Nat) : Nat → Nat
  | 0 => 0
  | l + 1 => TT n m l + rowG n m (l + 1)
theorem crow_at {n m r : Nat} (hm : m ≤ n) (hr : r + m ≤ n) : (crow n m)[r]? = some (rowG n m r) := by
  have hl := crow_len (n := n) hm
  rw [List.getElem?_eq_getElem (by omega)]
  unfold rowG
  rw [List.getD_eq_getElem?_getD, List.getElem?_eq_getElem (by omega)]; rfl
theorem TT_take {n m : Nat} (hm : m ≤ n) : ∀ l, l + m ≤ n → ((crow n m).tail.take l).sum = TT n m l
  | 0, _ => by simp [TT]
  | l + 1, h => by
    have h1 : (crow n m).tail[l]? = some (rowG n m (l + 1)) := by
      rw [List.getElem?_tail]
      exact crow_at hm (by omega)
    rw [List.take_add_one, h1, List.sum_append, TT_take hm l (by omega)]
    simp [TT]
theorem rowG_succ {n m r : Nat} (h : r + (m + 1) ≤ n) : rowG n (m + 1) r = TT n m (r + 1) := by
  have h1 := crow_at (n := n) (m := m + 1) (r := r) (by omega) h
  have h2 : (crow n (m + 1))[r]? = some (0 + ((crow n m).tail.take (r + 1)).sum) := prs_get (by
    rw [List.length_tail, crow_len (by omega)]; omega)
  rw [h1] at h2
  have := Option.some.inj h2
  rw [this, Nat.zero_add, TT_take (by omega) _ (by omega)]
theorem rowG_zero {n r : Nat} (h : r ≤ n) : rowG n 0 r = 1 := by
  have h1 := crow_at (n := n) (m := 0) (r := r) (by omega) (by omega)
  have h2 : (crow n 0)[r]? = some 1 := by
    show (List.replicate (n + 1) 1)[r]? = _
    rw [List.getElem?_replicate, if_pos (by omega)]
  rw [h1] at h2
  exact Option.some.inj h2
theorem TT_mid {n m : Nat} (hm : m ≤ n) (l : Nat) : ∀ k, l + k + m ≤ n → TT n m l + (((crow n m).drop (l + 1)).take k).sum = TT n m (l + k)
  | 0, _ => by simp
  | k + 1, h => by
    have h1 : ((crow n m).drop (l + 1))[k]? = some (rowG n m (l + k + 1)) := by
      rw [List.getElem?_drop, show l + 1 + k = l + k + 1 by omega]
      exact crow_at hm (by omega)
    rw [List.take_add_one, h1, List.sum_append, ← Nat.add_assoc, TT_mid hm l k (by omega)]
    show _ = TT n m (l + k) + rowG n m (l + k + 1)
    simp
theorem TT_mono {n m : Nat} {a b : Nat} (h : a ≤ b) : TT n m a ≤ TT n m b := by
  induction h with
  | refl => exact Nat.le_refl _
  | step h ih => exact Nat.le_trans ih (Nat.le_add_right _ _)
/-- the way down ends where the rest is within the row -/
theorem dnF_some {n m : Nat} (hm : m ≤ n) : ∀ {l b : Nat}, l + m ≤ n → b < TT n m l → ∃ l' b', dnF (crow n m) l b = some (l', b') ∧ 1 ≤ l' ∧ l' ≤ l ∧ b' < rowG n m l' ∧ b + TT n m l' = TT n m l + b'
  | 0, b, _, h => by simp [TT] at h
  | l + 1, b, hl, h => by
    have hw := crow_at (n := n) (m := m) (r := l + 1) hm (by omega)
    unfold dnF
    rw [hw]
    dsimp only
    by_cases hb : b < rowG n m (l + 1)
    · rw [if_pos hb]
      exact ⟨l + 1, b, rfl, by omega, Nat.le_refl _, hb, by omega⟩
    · rw [if_neg hb]
      have e : TT n m (l + 1) = TT n m l + rowG n m (l + 1) := rfl
      obtain ⟨l', b', h1, h2, h3, h4, h5⟩ := dnF_some hm (l := l) (b := b - rowG n m (l + 1)) (by omega) (by omega)
      exact ⟨l', b', h1, h2, by omega, h4, by omega⟩
/-- and it ends nowhere else -/
theorem dnF_of {n m : Nat} (hm : m ≤ n) {l' b' : Nat} (hb' : b' < rowG n m l') : ∀ {l b : Nat}, l + m ≤ n → l' ≤ l → b + TT n m l' = TT n m l + b' → dnF (crow n m) l b = some (l', b')
  | 0, b, hl, h1, h2 => by
    have : l' = 0 := by omega
    subst this
    have hw := crow_at (n := n) (m := m) (r := 0) hm (by omega)
    unfold dnF
    rw [hw]
    dsimp only
    rw [if_pos (by omega), show b = b' by omega]
  | l + 1, b, hl, h1, h2 => by
    have hw := crow_at (n := n) (m := m) (r := l + 1) hm (by omega)
    unfold dnF
    rw [hw]
    dsimp only
    have e : TT n m (l + 1) = TT n m l + rowG n m (l + 1) := rfl
    by_cases he : l' = l + 1
    · subst he
      rw [if_pos (by omega), show b = b' by omega]
    · have hmn := TT_mono (n := n) (m := m) (show l' ≤ l by omega)
      rw [if_neg (by omega)]
      exact dnF_of hm hb' (by omega) (by omega) (by omega)
/-- merges that may follow on r runs -/
def okR : Nat → List Nat → Prop
  | _, [] => True
  | r, m :: p => m ≤ r ∧ okR (r + 1 - m) p
theorem ixF_add {n : Nat} : ∀ {p : List Nat} {i r b c : Nat}, ixF n p i r (b + c) = b + ixF n p i r c
  | [], _, _, _, _ => rfl
  | m :: p, i, r, b, c => by
    unfold ixF
    rw [Nat.add_assoc, ixF_add]
theorem ixF_cons {n m i r : Nat} {p : List Nat} (hi : i + 1 ≤ n) (hr : r ≤ i) (hmr : m ≤ r) : ixF n (m :: p) i r 0 + TT n (n - 1 - i) (r + 1 - m) = TT n (n - 1 - i) (r + 1) + ixF n p (i + 1) (r + 1 - m) 0 := by
  have h := TT_mid (n := n) (m := n - 1 - i) (by omega) (r + 1 - m) m (by omega)
  rw [show r + 1 - m + m = r + 1 by omega] at h
  have e : ixF n (m :: p) i r 0 = (((crow n (n - 1 - i)).drop (r + 1 - m + 1)).take m).sum + ixF n p (i + 1) (r + 1 - m) 0 := by
    show ixF n p (i + 1) (r + 1 - m) (0 + _) = _
    rw [Nat.zero_add, ← ixF_add]; rfl
  omega
/-- index_of of what may follow is below the number of ways -/
theorem ixF_lt {n : Nat} : ∀ {p : List Nat} {i r : Nat}, p.length + i = n → r ≤ i → okR r p → ixF n p i r 0 < rowG n p.length r
  | [], i, r, h, hr, _ => by
    show 0 < rowG n 0 r
    rw [rowG_zero (by simp at h; omega)]; exact Nat.one_pos
  | m :: p, i, r, h, hr, ⟨h1, h2⟩ => by
    have hl : p.length + (i + 1) = n := by simp at h; omega
    have ih := ixF_lt (p := p) (i := i + 1) (r := r + 1 - m) hl (by omega) h2
    have hc := ixF_cons (n := n) (m := m) (i := i) (r := r) (p := p) (by omega) hr h1
    have ek : n - 1 - i = p.length := by omega
    rw [ek] at hc
    show _ < rowG n (p.length + 1) r
    rw [rowG_succ (by omega)]
    have e : TT n p.length (r + 1 - m) = TT n p.length (r - m) + rowG n p.length (r + 1 - m) := by
      rw [show r + 1 - m = (r - m) + 1 by omega]; rfl
    omega
/-- schedule_at of index_of -/
theorem atL_ixF {n : Nat} : ∀ {p : List Nat} {i r : Nat}, p.length + i = n → r ≤ i → okR r p → atL n p.length i r (ixF n p i r 0) = some p
  | [], _, _, _, _, _ => rfl
  | m :: p, i, r, h, hr, ⟨h1, h2⟩ => by
    have hl : p.length + (i + 1) = n := by simp at h; omega
    have ih := atL_ixF (p := p) (i := i + 1) (r := r + 1 - m) hl (by omega) h2
    have hlt := ixF_lt (p := p) (i := i + 1) (r := r + 1 - m) hl (by omega) h2
    have hc := ixF_cons (n := n) (m := m) (i := i) (r := r) (p := p) (by omega) hr h1
    have ek : n - 1 - i = p.length := by omega
    rw [ek] at hc
    show atL n (p.length + 1) i r _ = _
    unfold atL
    rw [ek, dnF_of (n := n) (m := p.length) (by omega) hlt (by omega) (by omega) hc]
    dsimp only
    rw [ih]
    show some ((r + 1 - (r + 1 - m)) :: p) = _
    rw [show r + 1 - (r + 1 - m) = m by omega]
/-- index_of of schedule_at -/
theorem atL_some {n : Nat} : ∀ {k i r b : Nat}, k + i = n → r ≤ i → b < rowG n k r → ∃ p, atL n k i r b = some p ∧ p.length = k ∧ okR r p ∧ ixF n p i r 0 = b
  | 0, i, r, b, h, hr, hb => by
    rw [rowG_zero (by omega)] at hb
    exact ⟨[], rfl, rfl, trivial, by show (0 : Nat) = b; omega⟩
  | k + 1, i, r, b, h, hr, hb => by
    rw [rowG_succ (by omega)] at hb
    have ek : n - 1 - i = k := by omega
    obtain ⟨l', b', h1, h2, h3, h4, h5⟩ := dnF_some (n := n) (m := k) (by omega) (l := r + 1) (by omega) hb
    obtain ⟨p, g1, g2, g3, g4⟩ := atL_some (k := k) (i := i + 1) (r := l') (b := b') (by omega) (by omega) h4
    refine ⟨(r + 1 - l') :: p, ?_, by simp [g2], ⟨by omega, by rw [show r + 1 - (r + 1 - l') = l' by omega]; exact g3⟩, ?_⟩
    · unfold atL
      rw [ek, h1]
      dsimp only
      rw [g1]; rfl
    · have hc := ixF_cons (n := n) (m := r + 1 - l') (i := i) (r := r) (p := p) (by omega) hr (by omega)
      rw [ek, show r + 1 - (r + 1 - l') = l' by omega, g4] at hc
      omega
theorem okR_of : ∀ {p : List Nat} {r : Nat → Nat}, (∀ i m, p[i]? = some m → m ≤ r i ∧ r (i + 1) = r i - m + 1) → okR (r 0) p
  | [], _, _ => trivial
  | m :: p, r, h => by
    obtain ⟨h1, h2⟩ := h 0 m rfl
    have h3 := okR_of (p := p) (r := fun i => r (i + 1)) fun i m hm => h (i + 1) m hm
    refine ⟨h1, ?_⟩
    rw [show r 0 + 1 - m = r (0 + 1) by omega]; exact h3
theorem okR_T (t : T) : okR 0 t.sch := okR_of (r := fun i => (pre t i).runs) (schR_T t).2
theorem shP (p : Nat × Nat) : Sh 1 (dPr p) := Sh.tup (k := 0) (Sh.ints [((p.1 : Nat) : Int), ((p.2 : Nat) : Int)])
theorem shStacks (t : T) : Sh 3 (.tuple (dStacks t)) := Sh.tup (k := 2) fun d hd => by
  obtain ⟨i, _, rfl⟩ := List.mem_map.mp hd
  exact Sh.tup (k := 1) fun d hd => by
    obtain ⟨p, _, rfl⟩ := List.mem_map.mp hd
    exact shP p
theorem shEdges (t : T) : Sh 2 (.tuple (dEdges t)) := Sh.tup (k := 1) fun d hd => by
  obtain ⟨i, _, rfl⟩ := List.mem_map.mp hd
  exact Sh.tup (k := 0) (Sh.ints [((t.wr.getD i 0 : Int) - 1), ((t.rc.getD i 0 : Int) - 1)])
theorem shAll (L : List T) : Sh 2 (.tuple (L.map dSch)) := Sh.tup (k := 1) fun d hd => by
  obtain ⟨t, _, rfl⟩ := List.mem_map.mp hd
  exact Sh.tup (k := 0) (Sh.ints _)
theorem shInts (ns : List Int) : Sh 1 (.tuple (ns.map PyData.int)) := Sh.tup (k := 0) (Sh.ints _)
theorem dpv {K : PySem.W.Frag} {H : Hp} {a : Addr} {xs : List Nat} (h : SqT K H a (vi xs)) : Dp K H (.ref a) (.tuple ((ci xs).map PyData.int)) := dp_tup (by rw [← vi_ci]; exact h)
theorem eqI (i : Int) : decide (V.int i = V.int i) = true := decide_eq_true rfl
theorem dpTs {K : PySem.W.Frag} {H : Hp} : ∀ n, DpAll K H (List.replicate n (V.bl true)) (List.replicate n (PyData.bool true))
  | 0 => .nil
  | n + 1 => .cons (.bl true) (dpTs n)
section
variable {P : Program} {w : World} {K : PySem.W.Frag} {mg : Str → Option Value} {base : Heap}
def sp_L_right (K : PySem.W.Frag) : Sp := fun vs H Q _ => ∃ (a : Addr) (t : T), vs = [.ref a] ∧ SqT K H a (vi t.sch) ∧ t.size ≤ 6 ∧ ∀ H', Same H H' → Q (.bl true) H'
theorem ok_L_right (TX : Tx K mg) : FnOk P w K mg base CX0 64 TX.a_L_right TX.fd_L_right ["_law_plan"] (sp_L_right K) := by
  refine TX.f_L_right.ok sc_L_right (fun vs H Q E h => ?_) (fun cdv A outer s H vs Q E hr h => ?_)
  · obtain ⟨a, t, rfl, _⟩ := h; rfl
  · obtain ⟨a, t, rfl, hS, hz, q⟩ := h
    refine ⟨_, (pss_cons (ps_par3 (i := 1) (j := 2) (l := 3) (by rfl) sc_L_right.nd rfl rfl rfl (by decide) (by decide) (by decide) rfl rfl rfl (pa_cons (pe_callB (id := "len") (k_len (K := K) rfl) (by rfl) TX.b_len (by decide +kernel) (pa_cons (pv 0) pa_nil)) (pa_cons (pe_call (ok_index_of TX) (hr.mono (by decide)) (by rfl) TX.g_index_of TX.f_index_of.kp TX.bd_index_of .nil pass0 (pa_cons (pv 0) pa_nil)) (pa_cons (pe_call (ok_tree_of TX) (hr.mono (by decide)) (by rfl) TX.g_tree_of TX.f_tree_of.kp TX.bd_tree_of .nil pass0 (pa_cons (pv 0) pa_nil)) pa_nil))) (by rfl))
      (pss_cons (ps_set (i := 4) sc_L_right.nd rfl (.inl rfl) (pe_lst (pa_cons (pe_cmpR op_isBl (pe_callK0 (ok_is_schedule TX) (hr.mono (by decide)) (by rfl) TX.g_is_schedule TX.f_is_schedule.kp TX.kb_is_schedule_value pass0 (pk_cons (pv 0) pk_nil)) pe_bl (nomark _)) (pa_cons (pe_cmpR (op_eqD hr.units) (pe_callK0 (ok_stacks TX) (hr.mono (by decide)) (by rfl) TX.g_stacks TX.f_stacks.kp TX.kb_stacks_schedule pass0 (pk_cons (pv 0) pk_nil)) (pe_call (ok_stacks TX) (hr.mono (by decide)) (by rfl) TX.g_stacks TX.f_stacks.kp TX.bd_stacks .nil pass0 (pa_cons (pv 0) pa_nil)) (nomark _)) pa_nil))))
      (pss_cons (ps_expr (pe_bm PySem.F.plainAttrs_list PySem.F.slot_list_append PySem.F.type_list_append mt_append (pv 4) (pa_cons (pe_cmpR (op_eqD hr.units) (pe_callK0 (ok_writes TX) (hr.mono (by decide)) (by rfl) TX.g_writes TX.f_writes.kp TX.kb_writes_schedule pass0 (pk_cons (pv 0) pk_nil)) (pe_call (ok_writes TX) (hr.mono (by decide)) (by rfl) TX.g_writes TX.f_writes.kp TX.bd_writes .nil pass0 (pa_cons (pv 0) pa_nil)) (nomark _)) pa_nil)))
      (pss_cons (ps_set (i := 4) sc_L_right.nd rfl (.inl rfl) (pe_op op_cat (pv 4) (pe_lst (pa_cons (pe_cmpR (op_eqD hr.units) (pe_callK0 (ok_run_counts TX) (hr.mono (by decide)) (by rfl) TX.g_run_counts TX.f_run_counts.kp TX.kb_run_counts_schedule pass0 (pk_cons (pv 0) pk_nil)) (pe_call (ok_run_counts TX) (hr.mono (by decide)) (by rfl) TX.g_run_counts TX.f_run_counts.kp TX.bd_run_counts .nil pass0 (pa_cons (pv 0) pa_nil)) (nomark _)) (pa_cons (pe_cmpR (op_eqD hr.units) (pe_callK0 (ok_all_schedules TX) (hr.mono (by decide)) (by rfl) TX.g_all_schedules TX.f_all_schedules.kp TX.kb_all_schedules_n pass0 (pk_cons (pv 1) pk_nil)) (pe_call (ok_all_schedules TX) (hr.mono (by decide)) (by rfl) TX.g_all_schedules TX.f_all_schedules.kp TX.bd_all_schedules .nil pass0 (pa_cons (pv 1) pa_nil)) (nomark _)) pa_nil)))))
      (pss_cons (ps_set (i := 4) sc_L_right.nd rfl (.inl rfl) (pe_op op_cat (pv 4) (pe_lst (pa_cons (pe_cmpR op_isBl (pe_callK0 (ok_is_tree TX) (hr.mono (by decide)) (by rfl) TX.g_is_tree TX.f_is_tree.kp TX.kb_is_tree_value pass0 (pk_cons (pv 3) pk_nil)) pe_bl (nomark _)) (pa_cons (pe_cmpR (op_eqD hr.units) (pe_callK0 (ok_tree_of TX) (hr.mono (by decide)) (by rfl) TX.g_tree_of TX.f_tree_of.kp TX.kb_tree_of_schedule pass0 (pk_cons (pv 0) pk_nil)) (pv 3) (nomark _)) (pa_cons (pe_cmpR (op_eqD hr.units) (pe_callK0 (ok_schedule_of TX) (hr.mono (by decide)) (by rfl) TX.g_schedule_of TX.f_schedule_of.kp TX.kb_schedule_of_tree pass0 (pk_cons (pv 3) pk_nil)) (pv 0) (nomark _)) pa_nil))))))
      (pss_cons (ps_set (i := 4) sc_L_right.nd rfl (.inl rfl) (pe_op op_cat (pv 4) (pe_lst (pa_cons (pe_cmpR (op_eqD hr.units) (pe_callK0 (ok_edges TX) (hr.mono (by decide)) (by rfl) TX.g_edges TX.f_edges.kp TX.kb_edges_tree pass0 (pk_cons (pv 3) pk_nil)) (pe_call (ok_edges TX) (hr.mono (by decide)) (by rfl) TX.g_edges TX.f_edges.kp TX.bd_edges .nil pass0 (pa_cons (pv 3) pa_nil)) (nomark _)) (pa_cons (pe_cmpR (op_eqD hr.units) (pe_callK0 (ok_mirror TX) (hr.mono (by decide)) (by rfl) TX.g_mirror TX.f_mirror.kp TX.kb_mirror_schedule pass0 (pk_cons (pv 0) pk_nil)) (pe_call (ok_mirror TX) (hr.mono (by decide)) (by rfl) TX.g_mirror TX.f_mirror.kp TX.bd_mirror .nil pass0 (pa_cons (pv 0) pa_nil)) (nomark _)) pa_nil)))))
      (pss_cons (ps_set (i := 4) sc_L_right.nd rfl (.inl rfl) (pe_op op_cat (pv 4) (pe_lst (pa_cons (pe_cmpR op_eq (pe_callK0 (ok_count_schedules TX) (hr.mono (by decide)) (by rfl) TX.g_count_schedules TX.f_count_schedules.kp TX.kb_count_schedules_n pass0 (pk_cons (pv 1) pk_nil)) (pe_call (ok_count_schedules TX) (hr.mono (by decide)) (by rfl) TX.g_count_schedules TX.f_count_schedules.kp TX.bd_count_schedules .nil pass0 (pa_cons (pv 1) pa_nil)) (nomark _)) (pa_cons (pe_cmpR op_eq (pe_callK0 (ok_index_of TX) (hr.mono (by decide)) (by rfl) TX.g_index_of TX.f_index_of.kp TX.kb_index_of_schedule pass0 (pk_cons (pv 0) pk_nil)) (pv 2) (nomark _)) pa_nil)))))
      (pss_cons (ps_set (i := 4) sc_L_right.nd rfl (.inl rfl) (pe_op op_cat (pv 4) (pe_lst (pa_cons (pe_cmpR (op_eqD hr.units) (pe_callK0 (ok_schedule_at TX) (hr.mono (by decide)) (by rfl) TX.g_schedule_at TX.f_schedule_at.kp TX.kb_schedule_at_index_n pass0 (pk_cons (pv 2) (pk_cons (pv 1) pk_nil))) (pv 0) (nomark _)) (pa_cons (pe_cmpR op_eq (pe_callK0 (ok_count_within TX) (hr.mono (by decide)) (by rfl) TX.g_count_within TX.f_count_within.kp TX.kb_count_within_c_n_k pass0 (pk_cons pe_int (pk_cons (pv 1) (pk_cons pe_int pk_nil)))) (pe_call (ok_count_within TX) (hr.mono (by decide)) (by rfl) TX.g_count_within TX.f_count_within.kp TX.bd_count_within .nil pass0 (pa_cons (pv 1) (pa_cons pe_int (pa_cons pe_int pa_nil)))) (nomark _)) pa_nil)))))
      (pss_cons (ps_expr (pe_bm PySem.F.plainAttrs_list PySem.F.slot_list_append PySem.F.type_list_append mt_append (pv 4) (pa_cons (pe_cmpR op_eq (pe_callK0 (ok_index_within TX) (hr.mono (by decide)) (by rfl) TX.g_index_within TX.f_index_within.kp TX.kb_index_within_c_schedule_k pass0 (pk_cons pe_int (pk_cons (pv 0) (pk_cons pe_int pk_nil)))) (pe_call (ok_index_within TX) (hr.mono (by decide)) (by rfl) TX.g_index_within TX.f_index_within.kp TX.bd_index_within .nil pass0 (pa_cons (pv 0) (pa_cons pe_int (pa_cons pe_int pa_nil)))) (nomark _)) pa_nil)))
      (pss_cons (ps_set (i := 5) sc_L_right.nd rfl (.inl rfl) (pe_call (ok_index_within TX) (hr.mono (by decide)) (by rfl) TX.g_index_within TX.f_index_within.kp TX.bd_index_within .nil pass0 (pa_cons (pv 0) (pa_cons pe_int (pa_cons pe_int pa_nil)))))
      (pss_one (ps_ret (pe_cmpR (op_eqD hr.units) (pe_op op_cat (pv 4) (pe_lst (pa_cons (pe_cmpR (op_eqD hr.units) (pe_callK0 (ok_schedule_within TX) (hr.mono (by decide)) (by rfl) TX.g_schedule_within TX.f_schedule_within.kp TX.kb_schedule_within_index_c_k_n pass0 (pk_cons (pv 5) (pk_cons pe_int (pk_cons pe_int (pk_cons (pv 1) pk_nil))))) (pv 0) (nomark _)) pa_nil))) (pe_op op_rep (pe_lst (pa_cons pe_bl pa_nil)) pe_int) (nomark _)))))))))))))), ?_⟩
    have hz60 : t.size ≤ 60 := by omega
    have hlen : (vi t.sch).length = t.size := by rw [vi_len, T.sch_len]
    refine ⟨.ref a, rfl, a, _, rfl, .inr hS, .ref a, rfl, a, t, rfl, hS, hz60, fun H1 s1 => ⟨.ref a, rfl, a, t, rfl, Same.tup s1 hS, hz60, fun H2 p o s2 hp ho => ?_⟩⟩
    have hpt : SqT K H2 p (t.parOf.map V.int) := .inl (.inr ⟨o, hp⟩)
    have c2 := s1.trans s2
    refine ⟨_, _, _, rfl, ?_⟩
    -- is_schedule, stacks
    refine ⟨.ref a, rfl, a, t, rfl, Same.tup c2 hS, hz60, true, true, rfl, rfl, ?_⟩
    refine ⟨.ref a, rfl, a, t, rfl, Same.tup c2 hS, hz60, fun H3 x3 s3 h3 => ⟨.ref a, rfl, a, t, rfl, Same.tup (c2.trans s3) hS, hz60, fun H4 x4 s4 h4 => eq_data (Dp.same s4 h3) h4 (shStacks t) (by decide) ?_⟩⟩
    have c4 := c2.trans (s3.trans s4)
    refine ⟨sz60 (by simp), fun L nL => ?_⟩
    have nLH := c4.free nL
    have s5 := same_upd (o := .lst [V.bl true, V.bl true]) nL
    have hL := upd_same (H := H4) (a := L) (o := .lst [V.bl true, V.bl true])
    have hp5 := s5 _ _ ((s3.trans s4) _ _ hp)
    have c5 := c4.trans s5
    have e5 : upd H4 L (.lst [V.bl (decide (true = true)), V.bl true]) = upd H4 L (.lst [V.bl true, V.bl true]) := rfl
    rw [e5]
    generalize upd H4 L (.lst [V.bl true, V.bl true]) = H5 at s5 hL hp5 c5 ⊢
    -- writes
    refine ⟨.ref L, rfl, .inl ⟨rfl, _, .inl (.inl hL)⟩, ?_⟩
    refine ⟨.ref a, rfl, a, t, rfl, Same.tup c5 hS, hz60, fun H6 x6 s6 h6 => ⟨.ref a, rfl, a, t, rfl, Same.tup (c5.trans s6) hS, hz60, fun H7 x7 s7 h7 => ?_⟩⟩
    refine eq_data (dpv (Same.tup s7 h6)) (dpv h7) (shInts _) (by decide) ?_
    have hL7 := (s6.trans s7) _ _ hL
    have hp7 := (s6.trans s7) _ _ hp5
    have hpL : p ≠ L := fun e => by rw [e, hL7] at hp7; cases hp7
    refine ⟨L, _, _, rfl, rfl, hL7, sz61 (by simp), ?_⟩
    have c8 : Same H (upd H7 L (.lst ([V.bl true, V.bl true] ++ [V.bl true]))) := Same.mut (c5.trans (s6.trans s7)) nLH
    have hp8 : upd H7 L (.lst ([V.bl true, V.bl true] ++ [V.bl true])) p = some (.frz o (.tup (t.parOf.map V.int))) := by rw [upd_ne hpL]; exact hp7
    have hL8 : upd H7 L (.lst ([V.bl true, V.bl true] ++ [V.bl true])) L = some (.lst [V.bl true, V.bl true, V.bl true]) := upd_same
    generalize upd H7 L (.lst ([V.bl true, V.bl true] ++ [V.bl true])) = H8 at c8 hp8 hL8 ⊢
    -- run_counts, all_schedules
    refine ⟨.ref L, rfl, .ref a, rfl, a, t, rfl, Same.tup c8 hS, hz60, fun H9 x9 s9 h9 => ⟨.ref a, rfl, a, t, rfl, Same.tup (c8.trans s9) hS, hz60, fun H10 x10 s10 h10 => eq_data (dpv (Same.tup s10 h9)) (dpv h10) (shInts _) (by decide) ?_⟩⟩
    have c10 := c8.trans (s9.trans s10)
    refine ⟨_, rfl, t.size, by rw [hlen]; rfl, by omega, fun H11 x11 s11 h11 => ⟨_, rfl, t.size, by rw [hlen]; rfl, by omega, fun H12 x12 s12 h12 => eq_data (Dp.same s12 h11) h12 (shAll _) (by decide) ?_⟩⟩
    have s812 := (s9.trans s10).trans (s11.trans s12)
    refine ⟨sz60 (by simp), fun Ma n2 => ⟨L, Ma, _, _, rfl, rfl, same_upd n2 _ _ (s812 _ _ hL8), upd_same, sz60 (by simp), fun L3 n3 => ?_⟩⟩
    have s813 := s812.trans ((same_upd n2).trans (same_upd n3 (o := .lst ([V.bl true, V.bl true, V.bl true] ++ [V.bl true, V.bl true]))))
    have hL13 : upd (upd H12 Ma (.lst [V.bl true, V.bl true])) L3 (.lst ([V.bl true, V.bl true, V.bl true] ++ [V.bl true, V.bl true])) L3 = some (.lst (List.replicate 5 (V.bl true))) := upd_same
    have c13 := c8.trans s813
    have hp13 := s813 _ _ hp8
    generalize upd (upd H12 Ma _) L3 _ = H13 at s813 hL13 c13 hp13 ⊢
    have hpt13 : SqT K H13 p (t.parOf.map V.int) := .inl (.inr ⟨o, hp13⟩)
    -- is_tree, tree_of, schedule_of
    refine ⟨.ref L3, rfl, .ref p, rfl, p, t, rfl, hpt13, hz60, fun H14 s14 => ⟨true, true, rfl, rfl, ?_⟩⟩
    have c14 := c13.trans s14
    refine ⟨.ref a, rfl, a, t, rfl, Same.tup c14 hS, hz60, fun H15 x15 o15 s15 hx15 ho15 => ⟨.ref p, rfl, eq_data (d := .tuple (t.parOf.map PyData.int)) (k := 1) (dp_tup (.inl (.inr ⟨o15, hx15⟩))) (dp_tup (Same.tup (s14.trans s15) hpt13)) (shInts _) (by decide) ?_⟩⟩
    refine ⟨.ref p, rfl, p, t, rfl, Same.tup (s14.trans s15) hpt13, hz60, fun H16 x16 s16 h16 => ⟨.ref a, rfl, eq_data (dpv h16) (dpv (Same.tup ((c14.trans s15).trans s16) hS)) (shInts _) (by decide) ?_⟩⟩
    have s1316 := s14.trans (s15.trans s16)
    refine ⟨sz60 (by simp), fun Mc n5 => ⟨L3, Mc, _, _, rfl, rfl, same_upd n5 _ _ (s1316 _ _ hL13), upd_same, sz60 (by simp), fun L4 n6 => ?_⟩⟩
    rw [show decide (true = true) = true from rfl] at n6 ⊢
    have s1317 := s1316.trans ((same_upd n5).trans (same_upd n6 (o := .lst (List.replicate 5 (V.bl true) ++ [V.bl true, V.bl true, V.bl true]))))
    have hL17 : upd (upd H16 Mc (.lst [V.bl true, V.bl true, V.bl true])) L4 (.lst (List.replicate 5 (V.bl true) ++ [V.bl true, V.bl true, V.bl true])) L4 = some (.lst (List.replicate 8 (V.bl true))) := upd_same
    have c17 := c13.trans s1317
    have hpt17 := Same.tup s1317 hpt13
    generalize upd (upd H16 Mc _) L4 _ = H17 at s1317 hL17 c17 hpt17 ⊢
    -- edges, mirror
    refine ⟨.ref L4, rfl, .ref p, rfl, p, t, rfl, hpt17, hz60, fun H18 x18 s18 h18 => ⟨.ref p, rfl, p, t, rfl, Same.tup s18 hpt17, hz60, fun H19 x19 s19 h19 => eq_data (Dp.same s19 h18) h19 (shEdges t) (by decide) ?_⟩⟩
    have c19 := c17.trans (s18.trans s19)
    refine ⟨.ref a, rfl, a, t, rfl, Same.tup c19 hS, hz60, fun H20 x20 s20 h20 => ⟨.ref a, rfl, a, t, rfl, Same.tup (c19.trans s20) hS, hz60, fun H21 x21 s21 h21 => eq_data (dpv (Same.tup s21 h20)) (dpv h21) (shInts _) (by decide) ?_⟩⟩
    have s1721 := (s18.trans s19).trans (s20.trans s21)
    refine ⟨sz60 (by simp), fun Md n7 => ⟨L4, Md, _, _, rfl, rfl, same_upd n7 _ _ (s1721 _ _ hL17), upd_same, sz60 (by simp), fun L5 n8 => ?_⟩⟩
    have s1722 := s1721.trans ((same_upd n7).trans (same_upd n8 (o := .lst (List.replicate 8 (V.bl true) ++ [V.bl true, V.bl true]))))
    have hL22 : upd (upd H21 Md (.lst [V.bl true, V.bl true])) L5 (.lst (List.replicate 8 (V.bl true) ++ [V.bl true, V.bl true])) L5 = some (.lst (List.replicate 10 (V.bl true))) := upd_same
    have c22 := c17.trans s1722
    generalize upd (upd H21 Md _) L5 _ = H22 at s1722 hL22 c22 ⊢
    -- count_schedules, index_of
    refine ⟨.ref L5, rfl, _, rfl, t.size, by rw [hlen]; rfl, hz60, fun H23 s23 => ⟨_, rfl, t.size, by rw [hlen]; rfl, hz60, fun H24 s24 => ⟨rfl, ?_⟩⟩⟩
    have c24 := c22.trans (s23.trans s24)
    refine ⟨.ref a, rfl, a, t, rfl, Same.tup c24 hS, hz60, fun H25 s25 => ⟨_, rfl, rfl, ?_⟩⟩
    have c25 := c24.trans s25
    have s2225 := (s23.trans s24).trans s25
    rw [eqI, eqI]
    refine ⟨sz60 (by simp), fun Me n9 => ⟨L5, Me, _, _, rfl, rfl, same_upd n9 _ _ (s2225 _ _ hL22), upd_same, sz60 (by simp), fun L6 n10 => ?_⟩⟩
    have s2226 := s2225.trans ((same_upd n9).trans (same_upd n10 (o := .lst (List.replicate 10 (V.bl true) ++ [V.bl true, V.bl true]))))
    have hL26 : upd (upd H25 Me (.lst [V.bl true, V.bl true])) L6 (.lst (List.replicate 10 (V.bl true) ++ [V.bl true, V.bl true])) L6 = some (.lst (List.replicate 12 (V.bl true))) := upd_same
    have c26 := c22.trans s2226
    generalize upd (upd H25 Me _) L6 _ = H26 at s2226 hL26 c26 ⊢
    -- schedule_at, count_within
    have hlt : ixF t.size t.sch 0 0 0 < rowG t.size t.size 0 := by
      have := ixF_lt (n := t.size) (p := t.sch) (i := 0) (r := 0) (by rw [T.sch_len]; omega) (Nat.le_refl 0) (okR_T t)
      rwa [T.sch_len] at this
    have hat : atL t.size t.size 0 0 (ixF t.size t.sch 0 0 0) = some t.sch := by
      have := atL_ixF (n := t.size) (p := t.sch) (i := 0) (r := 0) (by rw [T.sch_len]; omega) (Nat.le_refl 0) (okR_T t)
      rwa [T.sch_len] at this
    refine ⟨.ref L6, rfl, _, rfl, _, rfl, t.size, ixF t.size t.sch 0 0 0, t.sch, by rw [hlen]; rfl, hz60, hlt, hat, fun H27 x27 s27 h27 => ⟨.ref a, rfl, eq_data (dpv h27) (dpv (Same.tup (c26.trans s27) hS)) (shInts _) (by decide) ?_⟩⟩
    refine ⟨_, rfl, t.size, 6, 5, by rw [hlen]; rfl, hz60, by omega, by omega, fun H28 s28 => ⟨_, rfl, t.size, 6, 5, by rw [hlen]; rfl, hz60, by omega, by omega, fun H29 s29 => ⟨rfl, ?_⟩⟩⟩
    have s2629 := s27.trans (s28.trans s29)
    rw [eqI]
    refine ⟨sz60 (by simp), fun Mf n11 => ⟨L6, Mf, _, _, rfl, rfl, same_upd n11 _ _ (s2629 _ _ hL26), upd_same, sz60 (by simp), fun L7 n12 => ?_⟩⟩
    have c29 := c26.trans (s2629.trans (same_upd n11 (o := .lst [V.bl true, V.bl true])))
    have nL7H := c29.free n12
    have s2630 := s2629.trans ((same_upd n11).trans (same_upd n12 (o := .lst (List.replicate 12 (V.bl true) ++ [V.bl true, V.bl true]))))
    have hL30 : upd (upd H29 Mf (.lst [V.bl true, V.bl true])) L7 (.lst (List.replicate 12 (V.bl true) ++ [V.bl true, V.bl true])) L7 = some (.lst (List.replicate 14 (V.bl true))) := upd_same
    have c30 := c26.trans s2630
    generalize upd (upd H29 Mf _) L7 _ = H30 at s2630 hL30 c30 ⊢
    -- index_within
    have hw := wi_size (t := t) (b := 7) (a := 6) (by omega) (by omega)
    refine ⟨.ref L7, rfl, .inl ⟨rfl, _, .inl (.inl hL30)⟩, ?_⟩
    refine ⟨_, rfl, a, t, 7, 6, rfl, Same.tup c30 hS, hz60, by omega, by omega, hw, fun H31 s31 => ⟨_, rfl, a, t, 7, 6, rfl, Same.tup (c30.trans s31) hS, hz60, by omega, by omega, hw, fun H32 s32 => ⟨rfl, ?_⟩⟩⟩
    rw [eqI]
    have s3032 := s31.trans s32
    refine ⟨L7, _, _, rfl, rfl, s3032 _ _ hL30, sz61 (by simp), ?_⟩
    have c33 : Same H (upd H32 L7 (.lst (List.replicate 14 (V.bl true) ++ [V.bl true]))) := Same.mut (c30.trans s3032) nL7H
    have hL33 : upd H32 L7 (.lst (List.replicate 14 (V.bl true) ++ [V.bl true])) L7 = some (.lst (List.replicate 15 (V.bl true))) := upd_same
    generalize upd H32 L7 (.lst (List.replicate 14 (V.bl true) ++ [V.bl true])) = H33 at c33 hL33 ⊢
    refine ⟨_, rfl, a, t, 7, 6, rfl, Same.tup c33 hS, hz60, by omega, by omega, hw, fun H34 s34 => ?_⟩
    have c34 := c33.trans s34
    refine ⟨.ref L7, rfl, _, rfl, _, rfl, t, 7, 6, by rw [hlen]; rfl, hz60, by omega, by omega, hw, fun H35 x35 s35 h35 => ⟨.ref a, rfl, eq_data (dpv h35) (dpv (Same.tup (c34.trans s35) hS)) (shInts _) (by decide) ?_⟩⟩
    have s3335 := s34.trans s35
    have c35 := c33.trans s3335
    refine ⟨sz60 (by simp), fun Mg n13 => ⟨L7, Mg, _, _, rfl, rfl, same_upd n13 _ _ (s3335 _ _ hL33), upd_same, sz60 (by simp), fun L8 n14 => ?_⟩⟩
    have c37 := c35.trans ((same_upd n13).trans (same_upd n14 (o := .lst (List.replicate 15 (V.bl true) ++ [V.bl true]))))
    have hL37 : upd (upd H35 Mg (.lst [V.bl true])) L8 (.lst (List.replicate 15 (V.bl true) ++ [V.bl true])) L8 = some (.lst (List.replicate 16 (V.bl true))) := upd_same
    generalize upd (upd H35 Mg _) L8 _ = H37 at c37 hL37 ⊢
    refine ⟨sz60 (by simp), fun Mh nh => ⟨Mh, _, _, rfl, rfl, upd_same, by omega, by omega, sz60 (by simp), fun L9 n9' => ?_⟩⟩
    have s3739 := (same_upd (o := .lst [V.bl true]) nh).trans (same_upd n9' (o := .lst (List.replicate (16 : Int).toNat [V.bl true]).flatten))
    have hL39 : upd (upd H37 Mh (.lst [V.bl true])) L9 (.lst (List.replicate (16 : Int).toNat [V.bl true]).flatten) L9 = some (.lst (List.replicate 16 (V.bl true))) := upd_same
    have hL38 := s3739 _ _ hL37
    have c39 := c37.trans s3739
    generalize upd (upd H37 Mh _) L9 _ = H39 at hL38 hL39 c39 ⊢
    exact eq_data (d := .list (List.replicate 16 (PyData.bool true))) (k := 1) (.lst (.inl (.inl hL38)) (dpTs 16)) (.lst (.inl (.inl hL39)) (dpTs 16)) (Sh.lst (k := 0) fun d hd => by
      rw [(List.mem_replicate.mp hd).2]; exact ⟨by simp [PyData.canLay0], by simp [PyData.depth]⟩) (by decide) (q _ c39)
end
def sp_law (K : PySem.W.Frag) : Sp := fun vs H Q _ => ∃ (a : Addr) (ns : List Int), vs = [.ref a] ∧ SqL K H a (ns.map V.int) ∧ ns.length ≤ 63 ∧ ∀ H', Q (.bl true) H'
section
variable {P : Program} {w : World} {K : PySem.W.Frag} {mg : Str → Option Value} {base : Heap}
theorem ok_law (TX : Tx K mg) : FnOk P w K mg base CX0 65 TX.a_law TX.fd_law ["_law_script"] (sp_law K) := by
  refine TX.f_law.ok sc_law (fun vs H Q E h => ?_) (fun cdv A outer s H vs Q E hr h => ?_)
  · obtain ⟨a, ns, rfl, _⟩ := h; rfl
  · obtain ⟨a, ns, rfl, hS, hlen, q⟩ := h
    refine ⟨_, (pss_cons (ps_for PassesOwn.never rfl (pi_range1 (by rfl) TX.b_range (pa_cons (pe_callB (id := "max") (call_max2 rfl) (by rfl) TX.b_max (by decide +kernel) (pa_cons pe_int (pa_cons (pe_callB (id := "min") (call_min2 rfl) (by rfl) TX.b_min (by decide +kernel) (pa_cons pe_int (pa_cons (pe_callB (id := "len") (k_len (K := K) rfl) (by rfl) TX.b_len (by decide +kernel) (pa_cons (pv 0) pa_nil)) pa_nil))) pa_nil))) pa_nil)) (pg_name (i := 1) sc_law.nd rfl (.inl rfl))
        (pss_cons (ps_set (i := 2) sc_law.nd rfl (.inl rfl) (pe_call (ok_L_pot TX) (hr.mono (by decide)) (by rfl) TX.g_L_pot TX.f_L_pot.kp TX.bd_L_pot .nil pass0 (pa_cons (pv 0) (pa_cons (pv 1) pa_nil))))
        (pss_one (ps_for PassesOwn.never rfl (pi_range1 (by rfl) TX.b_range (pa_cons pe_int pa_nil)) (pg_name (i := 3) sc_law.nd rfl (.inl rfl))
          (pss_one (ps_if (pt_not (pt_val (pe_call (ok_L_right TX) (hr.mono (by decide)) (by rfl) TX.g_L_right TX.f_L_right.kp TX.bd_L_right .nil pass0 (pa_cons (pe_call (ok_L_drawn TX) (hr.mono (by decide)) (by rfl) TX.g_L_drawn TX.f_L_drawn.kp TX.bd_L_drawn .nil pass0 (pa_cons (pv 2) (pa_cons (pe_op op_add pe_int (pe_call (ok_L_take TX) (hr.mono (by decide)) (by rfl) TX.g_L_take TX.f_L_take.kp TX.bd_L_take .nil pass0 (pa_cons (pv 2) (pa_cons pe_int pa_nil)))) pa_nil))) pa_nil))))
            (pss_one (ps_ret pe_bl))
            pss_nil))))))
      (pss_one (ps_ret pe_bl))), ?_⟩
    have hl : ((ns.map V.int).length : Int) = (ns.length : Int) := by rw [List.length_map]
    refine ⟨.ref a, rfl, a, _, rfl, .inl hS, _, _, rfl, _, _, rfl, _, rfl, ?_, ?_, ?_⟩
    · split <;> split <;> omega
    · split <;> split <;> omega
    refine for_range (lo := 0) (fun i σ H' => ∃ y1 y2 y3, σ = [some (.ref a), y1, y2, y3] ∧ Same H H') ⟨none, none, none, rfl, Same.refl H⟩ ?_ (fun σ H' _ => q H')
    rintro i σ H1 hi ⟨y1, y2, y3, rfl, s1⟩
    have hi2 : i ≤ 62 := by
      have : (if (if ((ns.map V.int).length : Int) < 2 then ((ns.map V.int).length : Int) else 2) > 1 then (if ((ns.map V.int).length : Int) < 2 then ((ns.map V.int).length : Int) else 2) else 1) ≤ 2 := by split <;> split <;> omega
      omega
    have ei : (0 : Int) + (i : Nat) = (i : Int) := by omega
    rw [ei]
    refine ⟨.ref a, rfl, _, rfl, a, ns, i, rfl, s1.seq hS, hi2, fun H2 p s2 np pp => ?_⟩
    have s12 := s1.trans s2
    have npH : H p = none := s1.free np
    refine ⟨_, rfl, by decide, by decide, for_range (lo := 0) (n := (5 : Int).toNat) (fun j σ H' => ∃ y3, σ = [some (.ref a), some (.int (i : Int)), some (.ref p), y3] ∧ Same H H' ∧ Pot H' p (1000 * (j : Int))) ⟨_, rfl, s12, by simpa using pp⟩ ?_ ?_⟩
    · rintro j σ H3 hj ⟨y3, rfl, s3, p3⟩
      have hj' : j < 5 := hj
      refine ⟨.ref p, rfl, .ref p, rfl, p, _, _, rfl, p3, by omega, by decide, by decide, fun H4 r1 b4 p4 r10 r11 => ⟨_, _, rfl, rfl, ?_⟩⟩
      obtain ⟨z, hz, hz6⟩ : ∃ z : Nat, (1 : Int) + r1 = (z : Int) ∧ z ≤ 6 := ⟨(1 + r1).toNat, by omega, by omega⟩
      dsimp only
      rw [hz]
      have s4 : Same H H4 := But.same s3 b4 npH
      refine ⟨p, z, _, rfl, p4, by omega, by omega, fun H8 f t b8 p8 ht hf => ?_⟩
      have s8 : Same H H8 := But.same s4 b8 npH
      refine ⟨f, t, rfl, hf, by omega, fun H9 s9 => ⟨true, rfl, iteF ?_⟩⟩
      exact ⟨_, rfl, s8.trans s9, (p8.same s9).mono (by omega)⟩
    · rintro σ H3 ⟨y3, rfl, s3, p3⟩
      exact ⟨_, _, _, rfl, s3⟩
end
theorem all_mk {l : PySem.W.OpenLaw} {w : World} {K : PySem.W.Frag} {h : Heap} {mg : Str → Option Value} {fa : Addr} (X : K.In h) (G : h.Ns mainGlobals mg) (hfa : mg "law" = some (.ref fa))
    {f_is_int : Addr} {od_is_int an_is_int : Option Addr} {sl_is_int : Array (Option Value)} {oc_is_int kV_is_int dc_is_int pm_is_int cd_is_int ct_is_int : Value}
    (a_is_int : PySem.W.nsIn K mainGlobals "is_int" = some (some (.ref f_is_int))) (l_is_int : K.lookup f_is_int = some ⟨oc_is_int, od_is_int, .func (PySem.W.fnOf "is_int" "is_int" (defArgs s_is_int) (defBody s_is_int) (defScope s_is_int) .none kV_is_int dc_is_int pm_is_int an_is_int cd_is_int ct_is_int), sl_is_int⟩) (c_is_int : PySem.W.codeIn K cd_is_int "is_int" = true) (k_is_int : PySem.W.keepIn K (.ref f_is_int) = true)
    {f_is_count : Addr} {od_is_count an_is_count : Option Addr} {sl_is_count : Array (Option Value)} {oc_is_count kV_is_count dc_is_count pm_is_count cd_is_count ct_is_count : Value}
    (a_is_count : PySem.W.nsIn K mainGlobals "is_count" = some (some (.ref f_is_count))) (l_is_count : K.lookup f_is_count = some ⟨oc_is_count, od_is_count, .func (PySem.W.fnOf "is_count" "is_count" (defArgs s_is_count) (defBody s_is_count) (defScope s_is_count) .none kV_is_count dc_is_count pm_is_count an_is_count cd_is_count ct_is_count), sl_is_count⟩) (c_is_count : PySem.W.codeIn K cd_is_count "is_count" = true) (k_is_count : PySem.W.keepIn K (.ref f_is_count) = true)
    {f_is_count_up_to : Addr} {od_is_count_up_to an_is_count_up_to : Option Addr} {sl_is_count_up_to : Array (Option Value)} {oc_is_count_up_to kV_is_count_up_to dc_is_count_up_to pm_is_count_up_to cd_is_count_up_to ct_is_count_up_to : Value}
    (a_is_count_up_to : PySem.W.nsIn K mainGlobals "is_count_up_to" = some (some (.ref f_is_count_up_to))) (l_is_count_up_to : K.lookup f_is_count_up_to = some ⟨oc_is_count_up_to, od_is_count_up_to, .func (PySem.W.fnOf "is_count_up_to" "is_count_up_to" (defArgs s_is_count_up_to) (defBody s_is_count_up_to) (defScope s_is_count_up_to) .none kV_is_count_up_to dc_is_count_up_to pm_is_count_up_to an_is_count_up_to cd_is_count_up_to ct_is_count_up_to), sl_is_count_up_to⟩) (c_is_count_up_to : PySem.W.codeIn K cd_is_count_up_to "is_count_up_to" = true) (k_is_count_up_to : PySem.W.keepIn K (.ref f_is_count_up_to) = true)
    {f_check_budgets : Addr} {od_check_budgets an_check_budgets : Option Addr} {sl_check_budgets : Array (Option Value)} {oc_check_budgets kV_check_budgets dc_check_budgets pm_check_budgets cd_check_budgets ct_check_budgets : Value}
    (a_check_budgets : PySem.W.nsIn K mainGlobals "check_budgets" = some (some (.ref f_check_budgets))) (l_check_budgets : K.lookup f_check_budgets = some ⟨oc_check_budgets, od_check_budgets, .func (PySem.W.fnOf "check_budgets" "check_budgets" (defArgs s_check_budgets) (defBody s_check_budgets) (defScope s_check_budgets) .none kV_check_budgets dc_check_budgets pm_check_budgets an_check_budgets cd_check_budgets ct_check_budgets), sl_check_budgets⟩) (c_check_budgets : PySem.W.codeIn K cd_check_budgets "check_budgets" = true) (k_check_budgets : PySem.W.keepIn K (.ref f_check_budgets) = true)
    {f_is_schedule : Addr} {od_is_schedule an_is_schedule : Option Addr} {sl_is_schedule : Array (Option Value)} {oc_is_schedule kV_is_schedule dc_is_schedule pm_is_schedule cd_is_schedule ct_is_schedule : Value}
    (a_is_schedule : PySem.W.nsIn K mainGlobals "is_schedule" = some (some (.ref f_is_schedule))) (l_is_schedule : K.lookup f_is_schedule = some ⟨oc_is_schedule, od_is_schedule, .func (PySem.W.fnOf "is_schedule" "is_schedule" (defArgs s_is_schedule) (defBody s_is_schedule) (defScope s_is_schedule) .none kV_is_schedule dc_is_schedule pm_is_schedule an_is_schedule cd_is_schedule ct_is_schedule), sl_is_schedule⟩) (c_is_schedule : PySem.W.codeIn K cd_is_schedule "is_schedule" = true) (k_is_schedule : PySem.W.keepIn K (.ref f_is_schedule) = true)
    {f_stacks : Addr} {od_stacks an_stacks : Option Addr} {sl_stacks : Array (Option Value)} {oc_stacks kV_stacks dc_stacks pm_stacks cd_stacks ct_stacks : Value}
    (a_stacks : PySem.W.nsIn K mainGlobals "stacks" = some (some (.ref f_stacks))) (l_stacks : K.lookup f_stacks = some ⟨oc_stacks, od_stacks, .func (PySem.W.fnOf "stacks" "stacks" (defArgs s_stacks) (defBody s_stacks) (defScope s_stacks) .none kV_stacks dc_stacks pm_stacks an_stacks cd_stacks ct_stacks), sl_stacks⟩) (c_stacks : PySem.W.codeIn K cd_stacks "stacks" = true) (k_stacks : PySem.W.keepIn K (.ref f_stacks) = true)
    {f_stack_after : Addr} {od_stack_after an_stack_after : Option Addr} {sl_stack_after : Array (Option Value)} {oc_stack_after kV_stack_after dc_stack_after pm_stack_after cd_stack_after ct_stack_after : Value}
    (a_stack_after : PySem.W.nsIn K mainGlobals "stack_after" = some (some (.ref f_stack_after))) (l_stack_after : K.lookup f_stack_after = some ⟨oc_stack_after, od_stack_after, .func (PySem.W.fnOf "stack_after" "stack_after" (defArgs s_stack_after) (defBody s_stack_after) (defScope s_stack_after) .none kV_stack_after dc_stack_after pm_stack_after an_stack_after cd_stack_after ct_stack_after), sl_stack_after⟩) (c_stack_after : PySem.W.codeIn K cd_stack_after "stack_after" = true) (k_stack_after : PySem.W.keepIn K (.ref f_stack_after) = true)
    {f_writes : Addr} {od_writes an_writes : Option Addr} {sl_writes : Array (Option Value)} {oc_writes kV_writes dc_writes pm_writes cd_writes ct_writes : Value}
    (a_writes : PySem.W.nsIn K mainGlobals "writes" = some (some (.ref f_writes))) (l_writes : K.lookup f_writes = some ⟨oc_writes, od_writes, .func (PySem.W.fnOf "writes" "writes" (defArgs s_writes) (defBody s_writes) (defScope s_writes) .none kV_writes dc_writes pm_writes an_writes cd_writes ct_writes), sl_writes⟩) (c_writes : PySem.W.codeIn K cd_writes "writes" = true) (k_writes : PySem.W.keepIn K (.ref f_writes) = true)
    {f_run_counts : Addr} {od_run_counts an_run_counts : Option Addr} {sl_run_counts : Array (Option Value)} {oc_run_counts kV_run_counts dc_run_counts pm_run_counts cd_run_counts ct_run_counts : Value}
    (a_run_counts : PySem.W.nsIn K mainGlobals "run_counts" = some (some (.ref f_run_counts))) (l_run_counts : K.lookup f_run_counts = some ⟨oc_run_counts, od_run_counts, .func (PySem.W.fnOf "run_counts" "run_counts" (defArgs s_run_counts) (defBody s_run_counts) (defScope s_run_counts) .none kV_run_counts dc_run_counts pm_run_counts an_run_counts cd_run_counts ct_run_counts), sl_run_counts⟩) (c_run_counts : PySem.W.codeIn K cd_run_counts "run_counts" = true) (k_run_counts : PySem.W.keepIn K (.ref f_run_counts) = true)
    {f_all_schedules : Addr} {od_all_schedules an_all_schedules : Option Addr} {sl_all_schedules : Array (Option Value)} {oc_all_schedules kV_all_schedules dc_all_schedules pm_all_schedules cd_all_schedules ct_all_schedules : Value}
    (a_all_schedules : PySem.W.nsIn K mainGlobals "all_schedules" = some (some (.ref f_all_schedules))) (l_all_schedules : K.lookup f_all_schedules = some ⟨oc_all_schedules, od_all_schedules, .func (PySem.W.fnOf "all_schedules" "all_schedules" (defArgs s_all_schedules) (defBody s_all_schedules) (defScope s_all_schedules) .none kV_all_schedules dc_all_schedules pm_all_schedules an_all_schedules cd_all_schedules ct_all_schedules), sl_all_schedules⟩) (c_all_schedules : PySem.W.codeIn K cd_all_schedules "all_schedules" = true) (k_all_schedules : PySem.W.keepIn K (.ref f_all_schedules) = true)
    {f_runs_at_end : Addr} {od_runs_at_end an_runs_at_end : Option Addr} {sl_runs_at_end : Array (Option Value)} {oc_runs_at_end kV_runs_at_end dc_runs_at_end pm_runs_at_end cd_runs_at_end ct_runs_at_end : Value}
    (a_runs_at_end : PySem.W.nsIn K mainGlobals "runs_at_end" = some (some (.ref f_runs_at_end))) (l_runs_at_end : K.lookup f_runs_at_end = some ⟨oc_runs_at_end, od_runs_at_end, .func (PySem.W.fnOf "runs_at_end" "runs_at_end" (defArgs s_runs_at_end) (defBody s_runs_at_end) (defScope s_runs_at_end) .none kV_runs_at_end dc_runs_at_end pm_runs_at_end an_runs_at_end cd_runs_at_end ct_runs_at_end), sl_runs_at_end⟩) (c_runs_at_end : PySem.W.codeIn K cd_runs_at_end "runs_at_end" = true) (k_runs_at_end : PySem.W.keepIn K (.ref f_runs_at_end) = true)
    {f_is_tree : Addr} {od_is_tree an_is_tree : Option Addr} {sl_is_tree : Array (Option Value)} {oc_is_tree kV_is_tree dc_is_tree pm_is_tree cd_is_tree ct_is_tree : Value}
    (a_is_tree : PySem.W.nsIn K mainGlobals "is_tree" = some (some (.ref f_is_tree))) (l_is_tree : K.lookup f_is_tree = some ⟨oc_is_tree, od_is_tree, .func (PySem.W.fnOf "is_tree" "is_tree" (defArgs s_is_tree) (defBody s_is_tree) (defScope s_is_tree) .none kV_is_tree dc_is_tree pm_is_tree an_is_tree cd_is_tree ct_is_tree), sl_is_tree⟩) (c_is_tree : PySem.W.codeIn K cd_is_tree "is_tree" = true) (k_is_tree : PySem.W.keepIn K (.ref f_is_tree) = true)
    {f_is_numbered_in_order : Addr} {od_is_numbered_in_order an_is_numbered_in_order : Option Addr} {sl_is_numbered_in_order : Array (Option Value)} {oc_is_numbered_in_order kV_is_numbered_in_order dc_is_numbered_in_order pm_is_numbered_in_order cd_is_numbered_in_order ct_is_numbered_in_order : Value}
    (a_is_numbered_in_order : PySem.W.nsIn K mainGlobals "is_numbered_in_order" = some (some (.ref f_is_numbered_in_order))) (l_is_numbered_in_order : K.lookup f_is_numbered_in_order = some ⟨oc_is_numbered_in_order, od_is_numbered_in_order, .func (PySem.W.fnOf "is_numbered_in_order" "is_numbered_in_order" (defArgs s_is_numbered_in_order) (defBody s_is_numbered_in_order) (defScope s_is_numbered_in_order) .none kV_is_numbered_in_order dc_is_numbered_in_order pm_is_numbered_in_order an_is_numbered_in_order cd_is_numbered_in_order ct_is_numbered_in_order), sl_is_numbered_in_order⟩) (c_is_numbered_in_order : PySem.W.codeIn K cd_is_numbered_in_order "is_numbered_in_order" = true) (k_is_numbered_in_order : PySem.W.keepIn K (.ref f_is_numbered_in_order) = true)
    {f_tree_of : Addr} {od_tree_of an_tree_of : Option Addr} {sl_tree_of : Array (Option Value)} {oc_tree_of kV_tree_of dc_tree_of pm_tree_of cd_tree_of ct_tree_of : Value}
    (a_tree_of : PySem.W.nsIn K mainGlobals "tree_of" = some (some (.ref f_tree_of))) (l_tree_of : K.lookup f_tree_of = some ⟨oc_tree_of, od_tree_of, .func (PySem.W.fnOf "tree_of" "tree_of" (defArgs s_tree_of) (defBody s_tree_of) (defScope s_tree_of) .none kV_tree_of dc_tree_of pm_tree_of an_tree_of cd_tree_of ct_tree_of), sl_tree_of⟩) (c_tree_of : PySem.W.codeIn K cd_tree_of "tree_of" = true) (k_tree_of : PySem.W.keepIn K (.ref f_tree_of) = true)
    {f_schedule_of : Addr} {od_schedule_of an_schedule_of : Option Addr} {sl_schedule_of : Array (Option Value)} {oc_schedule_of kV_schedule_of dc_schedule_of pm_schedule_of cd_schedule_of ct_schedule_of : Value}
    (a_schedule_of : PySem.W.nsIn K mainGlobals "schedule_of" = some (some (.ref f_schedule_of))) (l_schedule_of : K.lookup f_schedule_of = some ⟨oc_schedule_of, od_schedule_of, .func (PySem.W.fnOf "schedule_of" "schedule_of" (defArgs s_schedule_of) (defBody s_schedule_of) (defScope s_schedule_of) .none kV_schedule_of dc_schedule_of pm_schedule_of an_schedule_of cd_schedule_of ct_schedule_of), sl_schedule_of⟩) (c_schedule_of : PySem.W.codeIn K cd_schedule_of "schedule_of" = true) (k_schedule_of : PySem.W.keepIn K (.ref f_schedule_of) = true)
    {f_edges : Addr} {od_edges an_edges : Option Addr} {sl_edges : Array (Option Value)} {oc_edges kV_edges dc_edges pm_edges cd_edges ct_edges : Value}
    (a_edges : PySem.W.nsIn K mainGlobals "edges" = some (some (.ref f_edges))) (l_edges : K.lookup f_edges = some ⟨oc_edges, od_edges, .func (PySem.W.fnOf "edges" "edges" (defArgs s_edges) (defBody s_edges) (defScope s_edges) .none kV_edges dc_edges pm_edges an_edges cd_edges ct_edges), sl_edges⟩) (c_edges : PySem.W.codeIn K cd_edges "edges" = true) (k_edges : PySem.W.keepIn K (.ref f_edges) = true)
    {f_edges_above : Addr} {od_edges_above an_edges_above : Option Addr} {sl_edges_above : Array (Option Value)} {oc_edges_above kV_edges_above dc_edges_above pm_edges_above cd_edges_above ct_edges_above : Value}
    (a_edges_above : PySem.W.nsIn K mainGlobals "edges_above" = some (some (.ref f_edges_above))) (l_edges_above : K.lookup f_edges_above = some ⟨oc_edges_above, od_edges_above, .func (PySem.W.fnOf "edges_above" "edges_above" (defArgs s_edges_above) (defBody s_edges_above) (defScope s_edges_above) .none kV_edges_above dc_edges_above pm_edges_above an_edges_above cd_edges_above ct_edges_above), sl_edges_above⟩) (c_edges_above : PySem.W.codeIn K cd_edges_above "edges_above" = true) (k_edges_above : PySem.W.keepIn K (.ref f_edges_above) = true)
    {f_mirror : Addr} {od_mirror an_mirror : Option Addr} {sl_mirror : Array (Option Value)} {oc_mirror kV_mirror dc_mirror pm_mirror cd_mirror ct_mirror : Value}
    (a_mirror : PySem.W.nsIn K mainGlobals "mirror" = some (some (.ref f_mirror))) (l_mirror : K.lookup f_mirror = some ⟨oc_mirror, od_mirror, .func (PySem.W.fnOf "mirror" "mirror" (defArgs s_mirror) (defBody s_mirror) (defScope s_mirror) .none kV_mirror dc_mirror pm_mirror an_mirror cd_mirror ct_mirror), sl_mirror⟩) (c_mirror : PySem.W.codeIn K cd_mirror "mirror" = true) (k_mirror : PySem.W.keepIn K (.ref f_mirror) = true)
    {f_mirrored_node : Addr} {od_mirrored_node an_mirrored_node : Option Addr} {sl_mirrored_node : Array (Option Value)} {oc_mirrored_node kV_mirrored_node dc_mirrored_node pm_mirrored_node cd_mirrored_node ct_mirrored_node : Value}
    (a_mirrored_node : PySem.W.nsIn K mainGlobals "mirrored_node" = some (some (.ref f_mirrored_node))) (l_mirrored_node : K.lookup f_mirrored_node = some ⟨oc_mirrored_node, od_mirrored_node, .func (PySem.W.fnOf "mirrored_node" "mirrored_node" (defArgs s_mirrored_node) (defBody s_mirrored_node) (defScope s_mirrored_node) .none kV_mirrored_node dc_mirrored_node pm_mirrored_node an_mirrored_node cd_mirrored_node ct_mirrored_node), sl_mirrored_node⟩) (c_mirrored_node : PySem.W.codeIn K cd_mirrored_node "mirrored_node" = true) (k_mirrored_node : PySem.W.keepIn K (.ref f_mirrored_node) = true)
    {f_count_schedules : Addr} {od_count_schedules an_count_schedules : Option Addr} {sl_count_schedules : Array (Option Value)} {oc_count_schedules kV_count_schedules dc_count_schedules pm_count_schedules cd_count_schedules ct_count_schedules : Value}
    (a_count_schedules : PySem.W.nsIn K mainGlobals "count_schedules" = some (some (.ref f_count_schedules))) (l_count_schedules : K.lookup f_count_schedules = some ⟨oc_count_schedules, od_count_schedules, .func (PySem.W.fnOf "count_schedules" "count_schedules" (defArgs s_count_schedules) (defBody s_count_schedules) (defScope s_count_schedules) .none kV_count_schedules dc_count_schedules pm_count_schedules an_count_schedules cd_count_schedules ct_count_schedules), sl_count_schedules⟩) (c_count_schedules : PySem.W.codeIn K cd_count_schedules "count_schedules" = true) (k_count_schedules : PySem.W.keepIn K (.ref f_count_schedules) = true)
    {f_check_flushes : Addr} {od_check_flushes an_check_flushes : Option Addr} {sl_check_flushes : Array (Option Value)} {oc_check_flushes kV_check_flushes dc_check_flushes pm_check_flushes cd_check_flushes ct_check_flushes : Value}
    (a_check_flushes : PySem.W.nsIn K mainGlobals "check_flushes" = some (some (.ref f_check_flushes))) (l_check_flushes : K.lookup f_check_flushes = some ⟨oc_check_flushes, od_check_flushes, .func (PySem.W.fnOf "check_flushes" "check_flushes" (defArgs s_check_flushes) (defBody s_check_flushes) (defScope s_check_flushes) .none kV_check_flushes dc_check_flushes pm_check_flushes an_check_flushes cd_check_flushes ct_check_flushes), sl_check_flushes⟩) (c_check_flushes : PySem.W.codeIn K cd_check_flushes "check_flushes" = true) (k_check_flushes : PySem.W.keepIn K (.ref f_check_flushes) = true)
    {f_continuations : Addr} {od_continuations an_continuations : Option Addr} {sl_continuations : Array (Option Value)} {oc_continuations kV_continuations dc_continuations pm_continuations cd_continuations ct_continuations : Value}
    (a_continuations : PySem.W.nsIn K mainGlobals "continuations" = some (some (.ref f_continuations))) (l_continuations : K.lookup f_continuations = some ⟨oc_continuations, od_continuations, .func (PySem.W.fnOf "continuations" "continuations" (defArgs s_continuations) (defBody s_continuations) (defScope s_continuations) .none kV_continuations dc_continuations pm_continuations an_continuations cd_continuations ct_continuations), sl_continuations⟩) (c_continuations : PySem.W.codeIn K cd_continuations "continuations" = true) (k_continuations : PySem.W.keepIn K (.ref f_continuations) = true)
    {f_index_of : Addr} {od_index_of an_index_of : Option Addr} {sl_index_of : Array (Option Value)} {oc_index_of kV_index_of dc_index_of pm_index_of cd_index_of ct_index_of : Value}
    (a_index_of : PySem.W.nsIn K mainGlobals "index_of" = some (some (.ref f_index_of))) (l_index_of : K.lookup f_index_of = some ⟨oc_index_of, od_index_of, .func (PySem.W.fnOf "index_of" "index_of" (defArgs s_index_of) (defBody s_index_of) (defScope s_index_of) .none kV_index_of dc_index_of pm_index_of an_index_of cd_index_of ct_index_of), sl_index_of⟩) (c_index_of : PySem.W.codeIn K cd_index_of "index_of" = true) (k_index_of : PySem.W.keepIn K (.ref f_index_of) = true)
    {f_schedule_at : Addr} {od_schedule_at an_schedule_at : Option Addr} {sl_schedule_at : Array (Option Value)} {oc_schedule_at kV_schedule_at dc_schedule_at pm_schedule_at cd_schedule_at ct_schedule_at : Value}
    (a_schedule_at : PySem.W.nsIn K mainGlobals "schedule_at" = some (some (.ref f_schedule_at))) (l_schedule_at : K.lookup f_schedule_at = some ⟨oc_schedule_at, od_schedule_at, .func (PySem.W.fnOf "schedule_at" "schedule_at" (defArgs s_schedule_at) (defBody s_schedule_at) (defScope s_schedule_at) .none kV_schedule_at dc_schedule_at pm_schedule_at an_schedule_at cd_schedule_at ct_schedule_at), sl_schedule_at⟩) (c_schedule_at : PySem.W.codeIn K cd_schedule_at "schedule_at" = true) (k_schedule_at : PySem.W.keepIn K (.ref f_schedule_at) = true)
    {f_count_within : Addr} {od_count_within an_count_within : Option Addr} {sl_count_within : Array (Option Value)} {oc_count_within kV_count_within dc_count_within pm_count_within cd_count_within ct_count_within : Value}
    (a_count_within : PySem.W.nsIn K mainGlobals "count_within" = some (some (.ref f_count_within))) (l_count_within : K.lookup f_count_within = some ⟨oc_count_within, od_count_within, .func (PySem.W.fnOf "count_within" "count_within" (defArgs s_count_within) (defBody s_count_within) (defScope s_count_within) .none kV_count_within dc_count_within pm_count_within an_count_within cd_count_within ct_count_within), sl_count_within⟩) (c_count_within : PySem.W.codeIn K cd_count_within "count_within" = true) (k_count_within : PySem.W.keepIn K (.ref f_count_within) = true)
    {f_counts_within : Addr} {od_counts_within an_counts_within : Option Addr} {sl_counts_within : Array (Option Value)} {oc_counts_within kV_counts_within dc_counts_within pm_counts_within cd_counts_within ct_counts_within : Value}
    (a_counts_within : PySem.W.nsIn K mainGlobals "counts_within" = some (some (.ref f_counts_within))) (l_counts_within : K.lookup f_counts_within = some ⟨oc_counts_within, od_counts_within, .func (PySem.W.fnOf "counts_within" "counts_within" (defArgs s_counts_within) (defBody s_counts_within) (defScope s_counts_within) .none kV_counts_within dc_counts_within pm_counts_within an_counts_within cd_counts_within ct_counts_within), sl_counts_within⟩) (c_counts_within : PySem.W.codeIn K cd_counts_within "counts_within" = true) (k_counts_within : PySem.W.keepIn K (.ref f_counts_within) = true)
    {f_counts_by_size : Addr} {od_counts_by_size an_counts_by_size : Option Addr} {sl_counts_by_size : Array (Option Value)} {oc_counts_by_size kV_counts_by_size dc_counts_by_size pm_counts_by_size cd_counts_by_size ct_counts_by_size : Value}
    (a_counts_by_size : PySem.W.nsIn K mainGlobals "counts_by_size" = some (some (.ref f_counts_by_size))) (l_counts_by_size : K.lookup f_counts_by_size = some ⟨oc_counts_by_size, od_counts_by_size, .func (PySem.W.fnOf "counts_by_size" "counts_by_size" (defArgs s_counts_by_size) (defBody s_counts_by_size) (defScope s_counts_by_size) .none kV_counts_by_size dc_counts_by_size pm_counts_by_size an_counts_by_size cd_counts_by_size ct_counts_by_size), sl_counts_by_size⟩) (c_counts_by_size : PySem.W.codeIn K cd_counts_by_size "counts_by_size" = true) (k_counts_by_size : PySem.W.keepIn K (.ref f_counts_by_size) = true)
    {f_index_within : Addr} {od_index_within an_index_within : Option Addr} {sl_index_within : Array (Option Value)} {oc_index_within kV_index_within dc_index_within pm_index_within cd_index_within ct_index_within : Value}
    (a_index_within : PySem.W.nsIn K mainGlobals "index_within" = some (some (.ref f_index_within))) (l_index_within : K.lookup f_index_within = some ⟨oc_index_within, od_index_within, .func (PySem.W.fnOf "index_within" "index_within" (defArgs s_index_within) (defBody s_index_within) (defScope s_index_within) .none kV_index_within dc_index_within pm_index_within an_index_within cd_index_within ct_index_within), sl_index_within⟩) (c_index_within : PySem.W.codeIn K cd_index_within "index_within" = true) (k_index_within : PySem.W.keepIn K (.ref f_index_within) = true)
    {f_place_of : Addr} {od_place_of an_place_of : Option Addr} {sl_place_of : Array (Option Value)} {oc_place_of kV_place_of dc_place_of pm_place_of cd_place_of ct_place_of : Value}
    (a_place_of : PySem.W.nsIn K mainGlobals "place_of" = some (some (.ref f_place_of))) (l_place_of : K.lookup f_place_of = some ⟨oc_place_of, od_place_of, .func (PySem.W.fnOf "place_of" "place_of" (defArgs s_place_of) (defBody s_place_of) (defScope s_place_of) .none kV_place_of dc_place_of pm_place_of an_place_of cd_place_of ct_place_of), sl_place_of⟩) (c_place_of : PySem.W.codeIn K cd_place_of "place_of" = true) (k_place_of : PySem.W.keepIn K (.ref f_place_of) = true)
    {f_root_of : Addr} {od_root_of an_root_of : Option Addr} {sl_root_of : Array (Option Value)} {oc_root_of kV_root_of dc_root_of pm_root_of cd_root_of ct_root_of : Value}
    (a_root_of : PySem.W.nsIn K mainGlobals "root_of" = some (some (.ref f_root_of))) (l_root_of : K.lookup f_root_of = some ⟨oc_root_of, od_root_of, .func (PySem.W.fnOf "root_of" "root_of" (defArgs s_root_of) (defBody s_root_of) (defScope s_root_of) .none kV_root_of dc_root_of pm_root_of an_root_of cd_root_of ct_root_of), sl_root_of⟩) (c_root_of : PySem.W.codeIn K cd_root_of "root_of" = true) (k_root_of : PySem.W.keepIn K (.ref f_root_of) = true)
    {f_schedule_within : Addr} {od_schedule_within an_schedule_within : Option Addr} {sl_schedule_within : Array (Option Value)} {oc_schedule_within kV_schedule_within dc_schedule_within pm_schedule_within cd_schedule_within ct_schedule_within : Value}
    (a_schedule_within : PySem.W.nsIn K mainGlobals "schedule_within" = some (some (.ref f_schedule_within))) (l_schedule_within : K.lookup f_schedule_within = some ⟨oc_schedule_within, od_schedule_within, .func (PySem.W.fnOf "schedule_within" "schedule_within" (defArgs s_schedule_within) (defBody s_schedule_within) (defScope s_schedule_within) .none kV_schedule_within dc_schedule_within pm_schedule_within an_schedule_within cd_schedule_within ct_schedule_within), sl_schedule_within⟩) (c_schedule_within : PySem.W.codeIn K cd_schedule_within "schedule_within" = true) (k_schedule_within : PySem.W.keepIn K (.ref f_schedule_within) = true)
    {f_schedule_in_place : Addr} {od_schedule_in_place an_schedule_in_place : Option Addr} {sl_schedule_in_place : Array (Option Value)} {oc_schedule_in_place kV_schedule_in_place dc_schedule_in_place pm_schedule_in_place cd_schedule_in_place ct_schedule_in_place : Value}
    (a_schedule_in_place : PySem.W.nsIn K mainGlobals "schedule_in_place" = some (some (.ref f_schedule_in_place))) (l_schedule_in_place : K.lookup f_schedule_in_place = some ⟨oc_schedule_in_place, od_schedule_in_place, .func (PySem.W.fnOf "schedule_in_place" "schedule_in_place" (defArgs s_schedule_in_place) (defBody s_schedule_in_place) (defScope s_schedule_in_place) .none kV_schedule_in_place dc_schedule_in_place pm_schedule_in_place an_schedule_in_place cd_schedule_in_place ct_schedule_in_place), sl_schedule_in_place⟩) (c_schedule_in_place : PySem.W.codeIn K cd_schedule_in_place "schedule_in_place" = true) (k_schedule_in_place : PySem.W.keepIn K (.ref f_schedule_in_place) = true)
    {f_L_pot : Addr} {od_L_pot an_L_pot : Option Addr} {sl_L_pot : Array (Option Value)} {oc_L_pot kV_L_pot dc_L_pot pm_L_pot cd_L_pot ct_L_pot : Value}
    (a_L_pot : PySem.W.nsIn K mainGlobals "_law_sched_pot" = some (some (.ref f_L_pot))) (l_L_pot : K.lookup f_L_pot = some ⟨oc_L_pot, od_L_pot, .func (PySem.W.fnOf "_law_sched_pot" "_law_sched_pot" (defArgs s_L_pot) (defBody s_L_pot) (defScope s_L_pot) .none kV_L_pot dc_L_pot pm_L_pot an_L_pot cd_L_pot ct_L_pot), sl_L_pot⟩) (c_L_pot : PySem.W.codeIn K cd_L_pot "_law_sched_pot" = true) (k_L_pot : PySem.W.keepIn K (.ref f_L_pot) = true)
    {f_L_take : Addr} {od_L_take an_L_take : Option Addr} {sl_L_take : Array (Option Value)} {oc_L_take kV_L_take dc_L_take pm_L_take cd_L_take ct_L_take : Value}
    (a_L_take : PySem.W.nsIn K mainGlobals "_law_sched_take" = some (some (.ref f_L_take))) (l_L_take : K.lookup f_L_take = some ⟨oc_L_take, od_L_take, .func (PySem.W.fnOf "_law_sched_take" "_law_sched_take" (defArgs s_L_take) (defBody s_L_take) (defScope s_L_take) .none kV_L_take dc_L_take pm_L_take an_L_take cd_L_take ct_L_take), sl_L_take⟩) (c_L_take : PySem.W.codeIn K cd_L_take "_law_sched_take" = true) (k_L_take : PySem.W.keepIn K (.ref f_L_take) = true)
    {f_L_of : Addr} {od_L_of an_L_of : Option Addr} {sl_L_of : Array (Option Value)} {oc_L_of kV_L_of dc_L_of pm_L_of cd_L_of ct_L_of : Value}
    (a_L_of : PySem.W.nsIn K mainGlobals "_law_sched_of" = some (some (.ref f_L_of))) (l_L_of : K.lookup f_L_of = some ⟨oc_L_of, od_L_of, .func (PySem.W.fnOf "_law_sched_of" "_law_sched_of" (defArgs s_L_of) (defBody s_L_of) (defScope s_L_of) .none kV_L_of dc_L_of pm_L_of an_L_of cd_L_of ct_L_of), sl_L_of⟩) (c_L_of : PySem.W.codeIn K cd_L_of "_law_sched_of" = true) (k_L_of : PySem.W.keepIn K (.ref f_L_of) = true)
    {f_L_drawn : Addr} {od_L_drawn an_L_drawn : Option Addr} {sl_L_drawn : Array (Option Value)} {oc_L_drawn kV_L_drawn dc_L_drawn pm_L_drawn cd_L_drawn ct_L_drawn : Value}
    (a_L_drawn : PySem.W.nsIn K mainGlobals "_law_sched_drawn" = some (some (.ref f_L_drawn))) (l_L_drawn : K.lookup f_L_drawn = some ⟨oc_L_drawn, od_L_drawn, .func (PySem.W.fnOf "_law_sched_drawn" "_law_sched_drawn" (defArgs s_L_drawn) (defBody s_L_drawn) (defScope s_L_drawn) .none kV_L_drawn dc_L_drawn pm_L_drawn an_L_drawn cd_L_drawn ct_L_drawn), sl_L_drawn⟩) (c_L_drawn : PySem.W.codeIn K cd_L_drawn "_law_sched_drawn" = true) (k_L_drawn : PySem.W.keepIn K (.ref f_L_drawn) = true)
    {f_L_right : Addr} {od_L_right an_L_right : Option Addr} {sl_L_right : Array (Option Value)} {oc_L_right kV_L_right dc_L_right pm_L_right cd_L_right ct_L_right : Value}
    (a_L_right : PySem.W.nsIn K mainGlobals "_law_sched_right" = some (some (.ref f_L_right))) (l_L_right : K.lookup f_L_right = some ⟨oc_L_right, od_L_right, .func (PySem.W.fnOf "_law_sched_right" "_law_sched_right" (defArgs s_L_right) (defBody s_L_right) (defScope s_L_right) .none kV_L_right dc_L_right pm_L_right an_L_right cd_L_right ct_L_right), sl_L_right⟩) (c_L_right : PySem.W.codeIn K cd_L_right "_law_sched_right" = true) (k_L_right : PySem.W.keepIn K (.ref f_L_right) = true)
    {f_law : Addr} {od_law an_law : Option Addr} {sl_law : Array (Option Value)} {oc_law kV_law dc_law pm_law cd_law ct_law : Value}
    (a_law : PySem.W.nsIn K mainGlobals "law" = some (some (.ref f_law))) (l_law : K.lookup f_law = some ⟨oc_law, od_law, .func (PySem.W.fnOf "law" "law" (defArgs s_law) (defBody s_law) (defScope s_law) .none kV_law dc_law pm_law an_law cd_law ct_law), sl_law⟩) (c_law : PySem.W.codeIn K cd_law "law" = true) (k_law : PySem.W.keepIn K (.ref f_law) = true)
    (z_isinstance : PySem.W.nsIn K mainGlobals "isinstance" = some none)
    (z_int : PySem.W.nsIn K mainGlobals "int" = some none)
    (z_bool : PySem.W.nsIn K mainGlobals "bool" = some none)
    (z_tuple : PySem.W.nsIn K mainGlobals "tuple" = some none)
    (z_len : PySem.W.nsIn K mainGlobals "len" = some none)
    (z_enumerate : PySem.W.nsIn K mainGlobals "enumerate" = some none)
    (z_range : PySem.W.nsIn K mainGlobals "range" = some none)
    (z_sum : PySem.W.nsIn K mainGlobals "sum" = some none)
    (z_all : PySem.W.nsIn K mainGlobals "all" = some none)
    (z_max : PySem.W.nsIn K mainGlobals "max" = some none)
    (z_reversed : PySem.W.nsIn K mainGlobals "reversed" = some none)
    (z_zip : PySem.W.nsIn K mainGlobals "zip" = some none)
    (z_divmod : PySem.W.nsIn K mainGlobals "divmod" = some none)
    (z_abs : PySem.W.nsIn K mainGlobals "abs" = some none)
    (z_min : PySem.W.nsIn K mainGlobals "min" = some none)
    {t_MOST_BUDGET : Tok} (y_MOST_BUDGET : PySem.W.nsIn K mainGlobals "MOST_BUDGET" = some (some (.int (60) t_MOST_BUDGET)))
    {t_MOST_FLUSHES : Tok} (y_MOST_FLUSHES : PySem.W.nsIn K mainGlobals "MOST_FLUSHES" = some (some (.int (60) t_MOST_FLUSHES)))
    {t_MOST_LISTED_FLUSHES : Tok} (y_MOST_LISTED_FLUSHES : PySem.W.nsIn K mainGlobals "MOST_LISTED_FLUSHES" = some (some (.int (8) t_MOST_LISTED_FLUSHES)))
    {t_NO_PARENT : Tok} (y_NO_PARENT : PySem.W.nsIn K mainGlobals "NO_PARENT" = some (some (.int (-1) t_NO_PARENT)))
    : ∃ fd : FuncData, (∀ (s : Shared) (v : Value), BindsTo s fd ⟨[v], []⟩ [("_law_script", v)]) ∧ ∀ base : Heap, K.In base → base.Ns mainGlobals mg → FnOk l.prog w K mg base CX0 65 fa fd ["_law_script"] (sp_law K) := by
  have e := hfa.symm.trans (PySem.W.mg_of X G a_law)
  cases e
  have F_is_int := fun_mk (st := s_is_int) l_is_int c_is_int k_is_int
  have B_is_int := F_is_int.binds (ps := ["value"]) fun _ _ _ _ _ _ us hl => match us, hl with | [_], _ => rfl
  have F_is_count := fun_mk (st := s_is_count) l_is_count c_is_count k_is_count
  have B_is_count := F_is_count.binds (ps := ["value"]) fun _ _ _ _ _ _ us hl => match us, hl with | [_], _ => rfl
  have F_is_count_up_to := fun_mk (st := s_is_count_up_to) l_is_count_up_to c_is_count_up_to k_is_count_up_to
  have B_is_count_up_to := F_is_count_up_to.binds (ps := ["value", "most"]) fun _ _ _ _ _ _ us hl => match us, hl with | [_, _], _ => rfl
  have F_check_budgets := fun_mk (st := s_check_budgets) l_check_budgets c_check_budgets k_check_budgets
  have B_check_budgets := F_check_budgets.binds (ps := ["k", "c", "most"]) fun _ _ _ _ _ _ us hl => match us, hl with | [_, _, _], _ => rfl
  have F_is_schedule := fun_mk (st := s_is_schedule) l_is_schedule c_is_schedule k_is_schedule
  have B_is_schedule := F_is_schedule.binds (ps := ["value"]) fun _ _ _ _ _ _ us hl => match us, hl with | [_], _ => rfl
  have KB_is_schedule_value := kbP (ps := ["value"]) (ks := ["value"]) (idx := [0]) F_is_schedule rfl rfl (by decide) (by decide) fun _ _ _ _ _ _ ws hl => match ws, hl with | [_], _ => rfl
  have F_stacks := fun_mk (st := s_stacks) l_stacks c_stacks k_stacks
  have B_stacks := F_stacks.binds (ps := ["schedule"]) fun _ _ _ _ _ _ us hl => match us, hl with | [_], _ => rfl
  have KB_stacks_schedule := kbP (ps := ["schedule"]) (ks := ["schedule"]) (idx := [0]) F_stacks rfl rfl (by decide) (by decide) fun _ _ _ _ _ _ ws hl => match ws, hl with | [_], _ => rfl
  have F_stack_after := fun_mk (st := s_stack_after) l_stack_after c_stack_after k_stack_after
  have B_stack_after := F_stack_after.binds (ps := ["stack", "flush", "merge"]) fun _ _ _ _ _ _ us hl => match us, hl with | [_, _, _], _ => rfl
  have F_writes := fun_mk (st := s_writes) l_writes c_writes k_writes
  have B_writes := F_writes.binds (ps := ["schedule"]) fun _ _ _ _ _ _ us hl => match us, hl with | [_], _ => rfl
  have KB_writes_schedule := kbP (ps := ["schedule"]) (ks := ["schedule"]) (idx := [0]) F_writes rfl rfl (by decide) (by decide) fun _ _ _ _ _ _ ws hl => match ws, hl with | [_], _ => rfl
  have F_run_counts := fun_mk (st := s_run_counts) l_run_counts c_run_counts k_run_counts
  have B_run_counts := F_run_counts.binds (ps := ["schedule"]) fun _ _ _ _ _ _ us hl => match us, hl with | [_], _ => rfl
  have KB_run_counts_schedule := kbP (ps := ["schedule"]) (ks := ["schedule"]) (idx := [0]) F_run_counts rfl rfl (by decide) (by decide) fun _ _ _ _ _ _ ws hl => match ws, hl with | [_], _ => rfl
  have F_all_schedules := fun_mk (st := s_all_schedules) l_all_schedules c_all_schedules k_all_schedules
  have B_all_schedules := F_all_schedules.binds (ps := ["n"]) fun _ _ _ _ _ _ us hl => match us, hl with | [_], _ => rfl
  have KB_all_schedules_n := kbP (ps := ["n"]) (ks := ["n"]) (idx := [0]) F_all_schedules rfl rfl (by decide) (by decide) fun _ _ _ _ _ _ ws hl => match ws, hl with | [_], _ => rfl
  have F_runs_at_end := fun_mk (st := s_runs_at_end) l_runs_at_end c_runs_at_end k_runs_at_end
  have B_runs_at_end := F_runs_at_end.binds (ps := ["schedule"]) fun _ _ _ _ _ _ us hl => match us, hl with | [_], _ => rfl
  have F_is_tree := fun_mk (st := s_is_tree) l_is_tree c_is_tree k_is_tree
  have B_is_tree := F_is_tree.binds (ps := ["value"]) fun _ _ _ _ _ _ us hl => match us, hl with | [_], _ => rfl
  have KB_is_tree_value := kbP (ps := ["value"]) (ks := ["value"]) (idx := [0]) F_is_tree rfl rfl (by decide) (by decide) fun _ _ _ _ _ _ ws hl => match ws, hl with | [_], _ => rfl
  have F_is_numbered_in_order := fun_mk (st := s_is_numbered_in_order) l_is_numbered_in_order c_is_numbered_in_order k_is_numbered_in_order
  have B_is_numbered_in_order := F_is_numbered_in_order.binds (ps := ["parents"]) fun _ _ _ _ _ _ us hl => match us, hl with | [_], _ => rfl
  have F_tree_of := fun_mk (st := s_tree_of) l_tree_of c_tree_of k_tree_of
  have B_tree_of := F_tree_of.binds (ps := ["schedule"]) fun _ _ _ _ _ _ us hl => match us, hl with | [_], _ => rfl
  have KB_tree_of_schedule := kbP (ps := ["schedule"]) (ks := ["schedule"]) (idx := [0]) F_tree_of rfl rfl (by decide) (by decide) fun _ _ _ _ _ _ ws hl => match ws, hl with | [_], _ => rfl
  have F_schedule_of := fun_mk (st := s_schedule_of) l_schedule_of c_schedule_of k_schedule_of
  have B_schedule_of := F_schedule_of.binds (ps := ["tree"]) fun _ _ _ _ _ _ us hl => match us, hl with | [_], _ => rfl
  have KB_schedule_of_tree := kbP (ps := ["tree"]) (ks := ["tree"]) (idx := [0]) F_schedule_of rfl rfl (by decide) (by decide) fun _ _ _ _ _ _ ws hl => match ws, hl with | [_], _ => rfl
  have F_edges := fun_mk (st := s_edges) l_edges c_edges k_edges
  have B_edges := F_edges.binds (ps := ["tree"]) fun _ _ _ _ _ _ us hl => match us, hl with | [_], _ => rfl
  have KB_edges_tree := kbP (ps := ["tree"]) (ks := ["tree"]) (idx := [0]) F_edges rfl rfl (by decide) (by decide) fun _ _ _ _ _ _ ws hl => match ws, hl with | [_], _ => rfl
  have F_edges_above := fun_mk (st := s_edges_above) l_edges_above c_edges_above k_edges_above
  have B_edges_above := F_edges_above.binds (ps := ["tree", "node"]) fun _ _ _ _ _ _ us hl => match us, hl with | [_, _], _ => rfl
  have F_mirror := fun_mk (st := s_mirror) l_mirror c_mirror k_mirror
  have B_mirror := F_mirror.binds (ps := ["schedule"]) fun _ _ _ _ _ _ us hl => match us, hl with | [_], _ => rfl
  have KB_mirror_schedule := kbP (ps := ["schedule"]) (ks := ["schedule"]) (idx := [0]) F_mirror rfl rfl (by decide) (by decide) fun _ _ _ _ _ _ ws hl => match ws, hl with | [_], _ => rfl
  have F_mirrored_node := fun_mk (st := s_mirrored_node) l_mirrored_node c_mirrored_node k_mirrored_node
  have B_mirrored_node := F_mirrored_node.binds (ps := ["node", "last"]) fun _ _ _ _ _ _ us hl => match us, hl with | [_, _], _ => rfl
  have F_count_schedules := fun_mk (st := s_count_schedules) l_count_schedules c_count_schedules k_count_schedules
  have B_count_schedules := F_count_schedules.binds (ps := ["n"]) fun _ _ _ _ _ _ us hl => match us, hl with | [_], _ => rfl
  have KB_count_schedules_n := kbP (ps := ["n"]) (ks := ["n"]) (idx := [0]) F_count_schedules rfl rfl (by decide) (by decide) fun _ _ _ _ _ _ ws hl => match ws, hl with | [_], _ => rfl
  have F_check_flushes := fun_mk (st := s_check_flushes) l_check_flushes c_check_flushes k_check_flushes
  have B_check_flushes := F_check_flushes.binds (ps := ["n"]) fun _ _ _ _ _ _ us hl => match us, hl with | [_], _ => rfl
  have F_continuations := fun_mk (st := s_continuations) l_continuations c_continuations k_continuations
  have B_continuations := F_continuations.binds (ps := ["n"]) fun _ _ _ _ _ _ us hl => match us, hl with | [_], _ => rfl
  have F_index_of := fun_mk (st := s_index_of) l_index_of c_index_of k_index_of
  have B_index_of := F_index_of.binds (ps := ["schedule"]) fun _ _ _ _ _ _ us hl => match us, hl with | [_], _ => rfl
  have KB_index_of_schedule := kbP (ps := ["schedule"]) (ks := ["schedule"]) (idx := [0]) F_index_of rfl rfl (by decide) (by decide) fun _ _ _ _ _ _ ws hl => match ws, hl with | [_], _ => rfl
  have F_schedule_at := fun_mk (st := s_schedule_at) l_schedule_at c_schedule_at k_schedule_at
  have B_schedule_at := F_schedule_at.binds (ps := ["n", "index"]) fun _ _ _ _ _ _ us hl => match us, hl with | [_, _], _ => rfl
  have KB_schedule_at_index_n := kbP (ps := ["n", "index"]) (ks := ["index", "n"]) (idx := [1, 0]) F_schedule_at rfl rfl (by decide) (by decide) fun _ _ _ _ _ _ ws hl => match ws, hl with | [_, _], _ => rfl
  have F_count_within := fun_mk (st := s_count_within) l_count_within c_count_within k_count_within
  have B_count_within := F_count_within.binds (ps := ["n", "k", "c"]) fun _ _ _ _ _ _ us hl => match us, hl with | [_, _, _], _ => rfl
  have KB_count_within_c_n_k := kbP (ps := ["n", "k", "c"]) (ks := ["c", "n", "k"]) (idx := [1, 2, 0]) F_count_within rfl rfl (by decide) (by decide) fun _ _ _ _ _ _ ws hl => match ws, hl with | [_, _, _], _ => rfl
  have F_counts_within := fun_mk (st := s_counts_within) l_counts_within c_counts_within k_counts_within
  have B_counts_within := F_counts_within.binds (ps := ["n", "k", "c"]) fun _ _ _ _ _ _ us hl => match us, hl with | [_, _, _], _ => rfl
  have F_counts_by_size := fun_mk (st := s_counts_by_size) l_counts_by_size c_counts_by_size k_counts_by_size
  have B_counts_by_size := F_counts_by_size.binds (ps := ["lefts", "rights"]) fun _ _ _ _ _ _ us hl => match us, hl with | [_, _], _ => rfl
  have F_index_within := fun_mk (st := s_index_within) l_index_within c_index_within k_index_within
  have B_index_within := F_index_within.binds (ps := ["schedule", "k", "c"]) fun _ _ _ _ _ _ us hl => match us, hl with | [_, _, _], _ => rfl
  have KB_index_within_c_schedule_k := kbP (ps := ["schedule", "k", "c"]) (ks := ["c", "schedule", "k"]) (idx := [1, 2, 0]) F_index_within rfl rfl (by decide) (by decide) fun _ _ _ _ _ _ ws hl => match ws, hl with | [_, _, _], _ => rfl
  have F_place_of := fun_mk (st := s_place_of) l_place_of c_place_of k_place_of
  have B_place_of := F_place_of.binds (ps := ["schedule", "b", "a", "counts"]) fun _ _ _ _ _ _ us hl => match us, hl with | [_, _, _, _], _ => rfl
  have F_root_of := fun_mk (st := s_root_of) l_root_of c_root_of k_root_of
  have B_root_of := F_root_of.binds (ps := ["schedule"]) fun _ _ _ _ _ _ us hl => match us, hl with | [_], _ => rfl
  have F_schedule_within := fun_mk (st := s_schedule_within) l_schedule_within c_schedule_within k_schedule_within
  have B_schedule_within := F_schedule_within.binds (ps := ["n", "k", "c", "index"]) fun _ _ _ _ _ _ us hl => match us, hl with | [_, _, _, _], _ => rfl
  have KB_schedule_within_index_c_k_n := kbP (ps := ["n", "k", "c", "index"]) (ks := ["index", "c", "k", "n"]) (idx := [3, 2, 1, 0]) F_schedule_within rfl rfl (by decide) (by decide) fun _ _ _ _ _ _ ws hl => match ws, hl with | [_, _, _, _], _ => rfl
  have F_schedule_in_place := fun_mk (st := s_schedule_in_place) l_schedule_in_place c_schedule_in_place k_schedule_in_place
  have B_schedule_in_place := F_schedule_in_place.binds (ps := ["n", "b", "a", "place", "counts"]) fun _ _ _ _ _ _ us hl => match us, hl with | [_, _, _, _, _], _ => rfl
  have KC_schedule_in_place_b_a_place_counts := kbQ (p0 := "n") (ks := ["b", "a", "place", "counts"]) F_schedule_in_place fun _ _ _ _ _ _ _ ws hl => match ws, hl with | [_, _, _, _], _ => rfl
  have F_L_pot := fun_mk (st := s_L_pot) l_L_pot c_L_pot k_L_pot
  have B_L_pot := F_L_pot.binds (ps := ["_law_script", "_law_place"]) fun _ _ _ _ _ _ us hl => match us, hl with | [_, _], _ => rfl
  have F_L_take := fun_mk (st := s_L_take) l_L_take c_L_take k_L_take
  have B_L_take := F_L_take.binds (ps := ["_law_pot", "_law_size"]) fun _ _ _ _ _ _ us hl => match us, hl with | [_, _], _ => rfl
  have F_L_of := fun_mk (st := s_L_of) l_L_of c_L_of k_L_of
  have B_L_of := F_L_of.binds (ps := ["_law_pot", "_law_options"]) fun _ _ _ _ _ _ us hl => match us, hl with | [_, _], _ => rfl
  have F_L_drawn := fun_mk (st := s_L_drawn) l_L_drawn c_L_drawn k_L_drawn
  have B_L_drawn := F_L_drawn.binds (ps := ["_law_pot", "_law_size"]) fun _ _ _ _ _ _ us hl => match us, hl with | [_, _], _ => rfl
  have F_L_right := fun_mk (st := s_L_right) l_L_right c_L_right k_L_right
  have B_L_right := F_L_right.binds (ps := ["_law_plan"]) fun _ _ _ _ _ _ us hl => match us, hl with | [_], _ => rfl
  have F_law := fun_mk (st := s_law) l_law c_law k_law
  have B_law := F_law.binds (ps := ["_law_script"]) fun _ _ _ _ _ _ us hl => match us, hl with | [_], _ => rfl
  let TX : Tx K mg := ⟨_, _, F_is_int, PySem.W.mg_of X G a_is_int, B_is_int, _, _, F_is_count, PySem.W.mg_of X G a_is_count, B_is_count, _, _, F_is_count_up_to, PySem.W.mg_of X G a_is_count_up_to, B_is_count_up_to, _, _, F_check_budgets, PySem.W.mg_of X G a_check_budgets, B_check_budgets, _, _, F_is_schedule, PySem.W.mg_of X G a_is_schedule, B_is_schedule, KB_is_schedule_value, _, _, F_stacks, PySem.W.mg_of X G a_stacks, B_stacks, KB_stacks_schedule, _, _, F_stack_after, PySem.W.mg_of X G a_stack_after, B_stack_after, _, _, F_writes, PySem.W.mg_of X G a_writes, B_writes, KB_writes_schedule, _, _, F_run_counts, PySem.W.mg_of X G a_run_counts, B_run_counts, KB_run_counts_schedule, _, _, F_all_schedules, PySem.W.mg_of X G a_all_schedules, B_all_schedules, KB_all_schedules_n, _, _, F_runs_at_end, PySem.W.mg_of X G a_runs_at_end, B_runs_at_end, _, _, F_is_tree, PySem.W.mg_of X G a_is_tree, B_is_tree, KB_is_tree_value, _, _, F_is_numbered_in_order, PySem.W.mg_of X G a_is_numbered_in_order, B_is_numbered_in_order, _, _, F_tree_of, PySem.W.mg_of X G a_tree_of, B_tree_of, KB_tree_of_schedule, _, _, F_schedule_of, PySem.W.mg_of X G a_schedule_of, B_schedule_of, KB_schedule_of_tree, _, _, F_edges, PySem.W.mg_of X G a_edges, B_edges, KB_edges_tree, _, _, F_edges_above, PySem.W.mg_of X G a_edges_above, B_edges_above, _, _, F_mirror, PySem.W.mg_of X G a_mirror, B_mirror, KB_mirror_schedule, _, _, F_mirrored_node, PySem.W.mg_of X G a_mirrored_node, B_mirrored_node, _, _, F_count_schedules, PySem.W.mg_of X G a_count_schedules, B_count_schedules, KB_count_schedules_n, _, _, F_check_flushes, PySem.W.mg_of X G a_check_flushes, B_check_flushes, _, _, F_continuations, PySem.W.mg_of X G a_continuations, B_continuations, _, _, F_index_of, PySem.W.mg_of X G a_index_of, B_index_of, KB_index_of_schedule, _, _, F_schedule_at, PySem.W.mg_of X G a_schedule_at, B_schedule_at, KB_schedule_at_index_n, _, _, F_count_within, PySem.W.mg_of X G a_count_within, B_count_within, KB_count_within_c_n_k, _, _, F_counts_within, PySem.W.mg_of X G a_counts_within, B_counts_within, _, _, F_counts_by_size, PySem.W.mg_of X G a_counts_by_size, B_counts_by_size, _, _, F_index_within, PySem.W.mg_of X G a_index_within, B_index_within, KB_index_within_c_schedule_k, _, _, F_place_of, PySem.W.mg_of X G a_place_of, B_place_of, _, _, F_root_of, PySem.W.mg_of X G a_root_of, B_root_of, _, _, F_schedule_within, PySem.W.mg_of X G a_schedule_within, B_schedule_within, KB_schedule_within_index_c_k_n, _, _, F_schedule_in_place, PySem.W.mg_of X G a_schedule_in_place, B_schedule_in_place, KC_schedule_in_place_b_a_place_counts, _, _, F_L_pot, PySem.W.mg_of X G a_L_pot, B_L_pot, _, _, F_L_take, PySem.W.mg_of X G a_L_take, B_L_take, _, _, F_L_of, PySem.W.mg_of X G a_L_of, B_L_of, _, _, F_L_drawn, PySem.W.mg_of X G a_L_drawn, B_L_drawn, _, _, F_L_right, PySem.W.mg_of X G a_L_right, B_L_right, _, _, F_law, PySem.W.mg_of X G a_law, B_law, PySem.W.mg_none_of X G z_isinstance, PySem.W.mg_none_of X G z_int, PySem.W.mg_none_of X G z_bool, PySem.W.mg_none_of X G z_tuple, PySem.W.mg_none_of X G z_len, PySem.W.mg_none_of X G z_enumerate, PySem.W.mg_none_of X G z_range, PySem.W.mg_none_of X G z_sum, PySem.W.mg_none_of X G z_all, PySem.W.mg_none_of X G z_max, PySem.W.mg_none_of X G z_reversed, PySem.W.mg_none_of X G z_zip, PySem.W.mg_none_of X G z_divmod, PySem.W.mg_none_of X G z_abs, PySem.W.mg_none_of X G z_min, _, PySem.W.mg_of X G y_MOST_BUDGET, _, PySem.W.mg_of X G y_MOST_FLUSHES, _, PySem.W.mg_of X G y_MOST_LISTED_FLUSHES, _, PySem.W.mg_of X G y_NO_PARENT⟩
  exact ⟨TX.fd_law, fun s v => .of_eq rfl, fun base _ _ => ok_law TX⟩
end MB
open PySem PySem.W PyProof.Rows
set_option maxHeartbeats 0 in
theorem PySem.Challenge.cw_mergebudget_k15_stages_one_to_three_by_n_holds : PySem.Challenge.rw_mergebudget_k15_stages_one_to_three_by_n.Holds := by
  w_on; o_law; k_head; (case hw => w_witness2)
  k_fill
  refine L2.walk_of (l := PySem.Challenge.rw_mergebudget_k15_stages_one_to_three_by_n) (n := 63) (k := 65) (x := "_law_script") (CX := fun _ => L2.CX0) (sp := fun w => MB.sp_law _) rfl (by decide) rfl ⟨rfl, by decide, by decide⟩ (fun w h Y => PySem.W.kIn_of Y) ?F (fun _ _ a ns hl _ hS => ⟨a, ns, rfl, hS, hl, fun _ => rfl⟩) (fun _ _ _ _ _ h => h)
  case F =>
    intro w mg fa h KX G hmg
    refine' MB.all_mk KX G hmg ?a_is_int ?l_is_int ?c_is_int ?k_is_int ?a_is_count ?l_is_count ?c_is_count ?k_is_count ?a_is_count_up_to ?l_is_count_up_to ?c_is_count_up_to ?k_is_count_up_to ?a_check_budgets ?l_check_budgets ?c_check_budgets ?k_check_budgets ?a_is_schedule ?l_is_schedule ?c_is_schedule ?k_is_schedule ?a_stacks ?l_stacks ?c_stacks ?k_stacks ?a_stack_after ?l_stack_after ?c_stack_after ?k_stack_after ?a_writes ?l_writes ?c_writes ?k_writes ?a_run_counts ?l_run_counts ?c_run_counts ?k_run_counts ?a_all_schedules ?l_all_schedules ?c_all_schedules ?k_all_schedules ?a_runs_at_end ?l_runs_at_end ?c_runs_at_end ?k_runs_at_end ?a_is_tree ?l_is_tree ?c_is_tree ?k_is_tree ?a_is_numbered_in_order ?l_is_numbered_in_order ?c_is_numbered_in_order ?k_is_numbered_in_order ?a_tree_of ?l_tree_of ?c_tree_of ?k_tree_of ?a_schedule_of ?l_schedule_of ?c_schedule_of ?k_schedule_of ?a_edges ?l_edges ?c_edges ?k_edges ?a_edges_above ?l_edges_above ?c_edges_above ?k_edges_above ?a_mirror ?l_mirror ?c_mirror ?k_mirror ?a_mirrored_node ?l_mirrored_node ?c_mirrored_node ?k_mirrored_node ?a_count_schedules ?l_count_schedules ?c_count_schedules ?k_count_schedules ?a_check_flushes ?l_check_flushes ?c_check_flushes ?k_check_flushes ?a_continuations ?l_continuations ?c_continuations ?k_continuations ?a_index_of ?l_index_of ?c_index_of ?k_index_of ?a_schedule_at ?l_schedule_at ?c_schedule_at ?k_schedule_at ?a_count_within ?l_count_within ?c_count_within ?k_count_within ?a_counts_within ?l_counts_within ?c_counts_within ?k_counts_within ?a_counts_by_size ?l_counts_by_size ?c_counts_by_size ?k_counts_by_size ?a_index_within ?l_index_within ?c_index_within ?k_index_within ?a_place_of ?l_place_of ?c_place_of ?k_place_of ?a_root_of ?l_root_of ?c_root_of ?k_root_of ?a_schedule_within ?l_schedule_within ?c_schedule_within ?k_schedule_within ?a_schedule_in_place ?l_schedule_in_place ?c_schedule_in_place ?k_schedule_in_place ?a_L_pot ?l_L_pot ?c_L_pot ?k_L_pot ?a_L_take ?l_L_take ?c_L_take ?k_L_take ?a_L_of ?l_L_of ?c_L_of ?k_L_of ?a_L_drawn ?l_L_drawn ?c_L_drawn ?k_L_drawn ?a_L_right ?l_L_right ?c_L_right ?k_L_right ?a_law ?l_law ?c_law ?k_law ?z_isinstance ?z_int ?z_bool ?z_tuple ?z_len ?z_enumerate ?z_range ?z_sum ?z_all ?z_max ?z_reversed ?z_zip ?z_divmod ?z_abs ?z_min ?y_MOST_BUDGET ?y_MOST_FLUSHES ?y_MOST_LISTED_FLUSHES ?y_NO_PARENT
    (case a_is_int => k_is); (case l_is_int => k_is); (case c_is_int => k_is); (case k_is_int => k_is); (case a_is_count => k_is); (case l_is_count => k_is); (case c_is_count => k_is); (case k_is_count => k_is); (case a_is_count_up_to => k_is); (case l_is_count_up_to => k_is); (case c_is_count_up_to => k_is); (case k_is_count_up_to => k_is); (case a_check_budgets => k_is); (case l_check_budgets => k_is); (case c_check_budgets => k_is); (case k_check_budgets => k_is); (case a_is_schedule => k_is); (case l_is_schedule => k_is); (case c_is_schedule => k_is); (case k_is_schedule => k_is); (case a_stacks => k_is); (case l_stacks => k_is); (case c_stacks => k_is); (case k_stacks => k_is); (case a_stack_after => k_is); (case l_stack_after => k_is); (case c_stack_after => k_is); (case k_stack_after => k_is); (case a_writes => k_is); (case l_writes => k_is); (case c_writes => k_is); (case k_writes => k_is); (case a_run_counts => k_is); (case l_run_counts => k_is); (case c_run_counts => k_is); (case k_run_counts => k_is); (case a_all_schedules => k_is); (case l_all_schedules => k_is); (case c_all_schedules => k_is); (case k_all_schedules => k_is); (case a_runs_at_end => k_is); (case l_runs_at_end => k_is); (case c_runs_at_end => k_is); (case k_runs_at_end => k_is); (case a_is_tree => k_is); (case l_is_tree => k_is); (case c_is_tree => k_is); (case k_is_tree => k_is); (case a_is_numbered_in_order => k_is); (case l_is_numbered_in_order => k_is); (case c_is_numbered_in_order => k_is); (case k_is_numbered_in_order => k_is); (case a_tree_of => k_is); (case l_tree_of => k_is); (case c_tree_of => k_is); (case k_tree_of => k_is); (case a_schedule_of => k_is); (case l_schedule_of => k_is); (case c_schedule_of => k_is); (case k_schedule_of => k_is); (case a_edges => k_is); (case l_edges => k_is); (case c_edges => k_is); (case k_edges => k_is); (case a_edges_above => k_is); (case l_edges_above => k_is); (case c_edges_above => k_is); (case k_edges_above => k_is); (case a_mirror => k_is); (case l_mirror => k_is); (case c_mirror => k_is); (case k_mirror => k_is); (case a_mirrored_node => k_is); (case l_mirrored_node => k_is); (case c_mirrored_node => k_is); (case k_mirrored_node => k_is); (case a_count_schedules => k_is); (case l_count_schedules => k_is); (case c_count_schedules => k_is); (case k_count_schedules => k_is); (case a_check_flushes => k_is); (case l_check_flushes => k_is); (case c_check_flushes => k_is); (case k_check_flushes => k_is); (case a_continuations => k_is); (case l_continuations => k_is); (case c_continuations => k_is); (case k_continuations => k_is); (case a_index_of => k_is); (case l_index_of => k_is); (case c_index_of => k_is); (case k_index_of => k_is); (case a_schedule_at => k_is); (case l_schedule_at => k_is); (case c_schedule_at => k_is); (case k_schedule_at => k_is); (case a_count_within => k_is); (case l_count_within => k_is); (case c_count_within => k_is); (case k_count_within => k_is); (case a_counts_within => k_is); (case l_counts_within => k_is); (case c_counts_within => k_is); (case k_counts_within => k_is); (case a_counts_by_size => k_is); (case l_counts_by_size => k_is); (case c_counts_by_size => k_is); (case k_counts_by_size => k_is); (case a_index_within => k_is); (case l_index_within => k_is); (case c_index_within => k_is); (case k_index_within => k_is); (case a_place_of => k_is); (case l_place_of => k_is); (case c_place_of => k_is); (case k_place_of => k_is); (case a_root_of => k_is); (case l_root_of => k_is); (case c_root_of => k_is); (case k_root_of => k_is); (case a_schedule_within => k_is); (case l_schedule_within => k_is); (case c_schedule_within => k_is); (case k_schedule_within => k_is); (case a_schedule_in_place => k_is); (case l_schedule_in_place => k_is); (case c_schedule_in_place => k_is); (case k_schedule_in_place => k_is); (case a_L_pot => k_is); (case l_L_pot => k_is); (case c_L_pot => k_is); (case k_L_pot => k_is); (case a_L_take => k_is); (case l_L_take => k_is); (case c_L_take => k_is); (case k_L_take => k_is); (case a_L_of => k_is); (case l_L_of => k_is); (case c_L_of => k_is); (case k_L_of => k_is); (case a_L_drawn => k_is); (case l_L_drawn => k_is); (case c_L_drawn => k_is); (case k_L_drawn => k_is); (case a_L_right => k_is); (case l_L_right => k_is); (case c_L_right => k_is); (case k_L_right => k_is); (case a_law => k_is); (case l_law => k_is); (case c_law => k_is); (case k_law => k_is); (case z_isinstance => k_is); (case z_int => k_is); (case z_bool => k_is); (case z_tuple => k_is); (case z_len => k_is); (case z_enumerate => k_is); (case z_range => k_is); (case z_sum => k_is); (case z_all => k_is); (case z_max => k_is); (case z_reversed => k_is); (case z_zip => k_is); (case z_divmod => k_is); (case z_abs => k_is); (case z_min => k_is); (case y_MOST_BUDGET => k_is); (case y_MOST_FLUSHES => k_is); (case y_MOST_LISTED_FLUSHES => k_is); (case y_NO_PARENT => k_is)
