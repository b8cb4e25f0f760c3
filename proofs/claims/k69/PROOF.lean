import PyProof.Rows.All
import Wide.All
import OpenK.AllK
import Wide.FinOn
import HandS.ForMost
import HandS.IsInst
import HandS.Wide
import HandS.TupAny
import HandS.TupMul
import HandS.Rev
import HandS.Style
import HandS.Strs
import HandS.Walk
import KE.GoesEnum
import PyProof.ReprRoads
import PyProof.ReprBulk
import HandS.WideMore
import HandS.Dict
import HandS.ExcInit
import HandS.ExcField
import HandS.ExcIs
import HandS.ExcValue
import KE.KExcIs
import PySem.Challenge.RW_mergebudget_k69_exceptions_alone
set_option Elab.async false
set_option linter.all false
set_option maxRecDepth 100000
namespace MB
inductive T where
  | nil
  | node (l r : T)
  deriving DecidableEq

namespace T
def size : T → Nat
  | nil => 0
  | node l r => l.size + 1 + r.size
def runs : T → Nat
  | nil => 0
  | node _ r => 1 + r.runs
def sch : T → List Nat
  | nil => []
  | node l r => l.sch ++ l.runs :: r.sch
def rc : T → List Nat
  | nil => []
  | node l r => l.rc ++ 1 :: r.rc.map (· + 1)
def wr : T → List Nat
  | nil => []
  | node l r => l.wr.map (· + 1) ++ 1 :: r.wr
/-- parents: off, the number of the first node; p, the parent of the root -/
def par (off p : Int) : T → List Int
  | nil => []
  | node l r => par off (off + l.size) l ++ p :: par (off + l.size + 1) (off + l.size) r
def mir : T → T
  | nil => nil
  | node l r => node r.mir l.mir
def push (t : T) (m : Nat) : T :=
  if m = t.runs then node t nil else match t with
    | nil => nil
    | node l r => node l (push r m)
/-- the first flush of the run that a flush that merges m writes -/
def start (t : T) (m : Nat) : Nat :=
  if m = t.runs then 0 else match t with
    | nil => 0
    | node l r => l.size + 1 + start r m
/-- the stack: intervals of the right spine -/
def stk (off : Nat) : T → List (Nat × Nat)
  | nil => []
  | node l r => (off, off + l.size + 1) :: stk (off + l.size + 1) r
def graft : T → T → T
  | nil, t => t
  | node l r, t => node l (graft r t)

theorem sch_len : ∀ t : T, t.sch.length = t.size
  | nil => rfl
  | node l r => by simp [sch, size, sch_len l, sch_len r]; omega
theorem rc_len : ∀ t : T, t.rc.length = t.size
  | nil => rfl
  | node l r => by simp [rc, size, rc_len l, rc_len r]; omega
theorem wr_len : ∀ t : T, t.wr.length = t.size
  | nil => rfl
  | node l r => by simp [wr, size, wr_len l, wr_len r]; omega
theorem par_len : ∀ (t : T) (off p : Int), (t.par off p).length = t.size
  | nil, _, _ => rfl
  | node l r, off, p => by simp [par, size, par_len l, par_len r]; omega
theorem runs_le : ∀ t : T, t.runs ≤ t.size
  | nil => Nat.le_refl _
  | node l r => by have := runs_le r; simp [runs, size]; omega
theorem sum_sch : ∀ t : T, t.sch.sum + t.runs = t.size
  | nil => rfl
  | node l r => by
    have h1 := sum_sch l; have h2 := sum_sch r
    simp [sch, runs, size, List.sum_append]; omega
theorem stk_len : ∀ (t : T) (off : Nat), (t.stk off).length = t.runs
  | nil, _ => rfl
  | node l r, off => by simp [stk, runs, stk_len r]; omega

/-! ### push -/
theorem push_eq {t : T} : t.push t.runs = node t nil := by
  unfold push; rw [if_pos rfl]
theorem push_node {l r : T} {m : Nat} (h : m ≤ r.runs) : (node l r).push m = node l (r.push m) := by
  conv => lhs; unfold push
  rw [if_neg (by simp [runs]; omega)]
theorem start_eq {t : T} : t.start t.runs = 0 := by
  unfold start; rw [if_pos rfl]
theorem start_node {l r : T} {m : Nat} (h : m ≤ r.runs) : (node l r).start m = l.size + 1 + r.start m := by
  conv => lhs; unfold start
  rw [if_neg (by simp [runs]; omega)]
/-- the two ways of a push -/
theorem push_ind {C : T → Nat → Prop} (h1 : ∀ t, C t t.runs) (h2 : ∀ l r m, m ≤ r.runs → C r m → C (node l r) m) : ∀ (t : T) (m : Nat), m ≤ t.runs → C t m
  | nil, m, h => by
    have : m = nil.runs := by simp [runs] at h ⊢; omega
    rw [this]; exact h1 nil
  | node l r, m, h => by
    by_cases e : m = (node l r).runs
    · rw [e]; exact h1 _
    · have hm : m ≤ r.runs := by simp [runs] at h e; omega
      exact h2 l r m hm (push_ind h1 h2 r m hm)
theorem push_sch : ∀ (t : T) (m : Nat), m ≤ t.runs → (t.push m).sch = t.sch ++ [m] :=
  push_ind (fun t => by rw [push_eq]; simp [sch]) fun l r m h ih => by rw [push_node h]; simp [sch, ih]
theorem push_size : ∀ (t : T) (m : Nat), m ≤ t.runs → (t.push m).size = t.size + 1 :=
  push_ind (fun t => by rw [push_eq]; simp [size]) fun l r m h ih => by rw [push_node h]; simp [size, ih]; omega
theorem push_runs : ∀ (t : T) (m : Nat), m ≤ t.runs → (t.push m).runs = t.runs - m + 1 :=
  push_ind (fun t => by rw [push_eq]; simp [runs]) fun l r m h ih => by rw [push_node h]; simp [runs, ih]; omega
theorem push_rc : ∀ (t : T) (m : Nat), m ≤ t.runs → (t.push m).rc = t.rc ++ [t.runs - m + 1] :=
  push_ind (fun t => by rw [push_eq]; simp [rc]) fun l r m h ih => by
    rw [push_node h]; simp [rc, ih, runs]; omega
theorem start_le : ∀ (t : T) (m : Nat), m ≤ t.runs → t.start m ≤ t.size :=
  push_ind (fun t => by rw [start_eq]; omega) fun l r m h ih => by rw [start_node h]; simp [size]; omega
theorem push_wr : ∀ (t : T) (m : Nat), m ≤ t.runs → (t.push m).wr = t.wr.take (t.start m) ++ ((t.wr.drop (t.start m)).map (· + 1) ++ [1]) :=
  push_ind (fun t => by rw [push_eq, start_eq]; simp [wr]) fun l r m h ih => by
    rw [push_node h, start_node h]
    have e : (wr (node l r)) = (l.wr.map (· + 1) ++ [1]) ++ r.wr := by simp [wr]
    have el : (l.wr.map (· + 1) ++ [1]).length = l.size + 1 := by simp [wr_len]
    rw [e, List.take_append, List.drop_append, el]
    rw [List.take_of_length_le (by rw [el]; omega), List.drop_eq_nil_of_le (by rw [el]; omega)]
    rw [show l.size + 1 + r.start m - (l.size + 1) = r.start m by omega]
    simp [wr, ih]
theorem stk_push : ∀ (t : T) (m : Nat), m ≤ t.runs → ∀ off, (t.push m).stk off = (t.stk off).take (t.runs - m) ++ [(off + t.start m, off + t.size + 1)] :=
  push_ind (fun t off => by rw [push_eq, start_eq]; simp [stk]) fun l r m h ih off => by
    rw [push_node h, start_node h]
    have hh : (node l r).runs - m = (r.runs - m) + 1 := by simp [runs]; omega
    rw [hh]
    simp [stk, ih, size]
    omega
theorem stk_at : ∀ (t : T) (m : Nat), m ≤ t.runs → ∀ off, 0 < m → ∃ e, (t.stk off)[t.runs - m]? = some (off + t.start m, e) :=
  push_ind (fun t off h => by
      rw [start_eq, Nat.sub_self]
      cases t with
      | nil => simp [runs] at h
      | node l r => exact ⟨_, rfl⟩) fun l r m h ih off h0 => by
    rw [start_node h]
    have hh : (node l r).runs - m = (r.runs - m) + 1 := by simp [runs]; omega
    rw [hh]
    obtain ⟨e, he⟩ := ih (off + l.size + 1) h0
    refine ⟨e, ?_⟩
    simp only [stk, List.getElem?_cons_succ, he]
    congr 2; omega
theorem start_zero : ∀ (t : T) (m : Nat), m ≤ t.runs → m = 0 → t.start m = t.size :=
  push_ind (fun t h => by
      rw [start_eq]
      cases t with
      | nil => rfl
      | node l r => simp [runs] at h) fun l r m h ih h0 => by
    rw [start_node h, ih h0]; simp [size]

/-! ### schedules and trees -/
theorem graft_nil : ∀ t : T, t.graft nil = t
  | nil => rfl
  | node l r => by simp [graft, graft_nil r]
theorem graft_assoc : ∀ a b c : T, (a.graft b).graft c = a.graft (b.graft c)
  | nil, _, _ => rfl
  | node l r, b, c => by simp [graft, graft_assoc r b c]
theorem graft_runs : ∀ a b : T, (a.graft b).runs = a.runs + b.runs
  | nil, b => by simp [graft, runs]
  | node l r, b => by simp [graft, runs, graft_runs r b]; omega
theorem graft_push : ∀ (u l : T), (u.graft l).push l.runs = u.graft (node l nil)
  | nil, l => by simp [graft, push_eq]
  | node a b, l => by
    simp only [graft]
    rw [push_node (by rw [graft_runs]; omega), graft_push b l]
theorem foldl_sch : ∀ (t u : T), t.sch.foldl push u = u.graft t
  | nil, u => by simp [sch, graft_nil]
  | node l r, u => by
    simp only [sch, List.foldl_append, List.foldl_cons]
    rw [foldl_sch l u, graft_push, foldl_sch r, graft_assoc]
    rfl
theorem sch_inj {a b : T} (h : a.sch = b.sch) : a = b := by
  have e1 := foldl_sch a nil
  have e2 := foldl_sch b nil
  rw [h, e2] at e1
  exact e1.symm
end T

/-- a schedule that begins with `runs` runs -/
def Ok : Nat → List Nat → Prop
  | _, [] => True
  | k, m :: r => m ≤ k ∧ Ok (k - m + 1) r
theorem ok_tree : ∀ (p : List Nat) (u : T), Ok u.runs p → ∃ t : T, t.sch = u.sch ++ p ∧ p.foldl T.push u = t
  | [], u, _ => ⟨u, by simp, rfl⟩
  | m :: r, u, h => by
    obtain ⟨h1, h2⟩ := h
    rw [← T.push_runs u m h1] at h2
    obtain ⟨t, e1, e2⟩ := ok_tree r (u.push m) h2
    exact ⟨t, by rw [e1, T.push_sch u m h1]; simp, e2⟩
theorem tree_ex {p : List Nat} (h : Ok 0 p) : ∃ t : T, t.sch = p := by
  obtain ⟨t, e, _⟩ := ok_tree p .nil h
  exact ⟨t, by rw [e]; rfl⟩
theorem ok_app : ∀ (p q : List Nat) (k k' : Nat), Ok k p → k' + p.sum = k + p.length → Ok k' q → Ok k (p ++ q)
  | [], q, k, k', _, e, h => by
    have : k' = k := by simpa using e
    subst this; exact h
  | m :: r, q, k, k', h, e, hq => ⟨h.1, ok_app r q (k - m + 1) k' h.2 (by have := h.1; simp at e; omega) hq⟩
theorem ok_sch_from : ∀ (t : T) (k : Nat), Ok k t.sch
  | .nil, _ => trivial
  | .node l r, k => by
    refine ok_app l.sch _ k (k + l.runs) (ok_sch_from l k) (by have := T.sum_sch l; rw [T.sch_len]; omega) ?_
    exact ⟨by omega, ok_sch_from r _⟩
theorem ok_take : ∀ (p : List Nat) (k i : Nat), Ok k p → Ok k (p.take i)
  | [], _, i, _ => by cases i <;> trivial
  | m :: r, k, 0, _ => trivial
  | m :: r, k, i + 1, h => ⟨h.1, ok_take r _ i h.2⟩
/-- the tree of the first i flushes -/
def pre (t : T) (i : Nat) : T := (t.sch.take i).foldl T.push .nil
theorem pre_sch (t : T) (i : Nat) : (pre t i).sch = t.sch.take i := by
  obtain ⟨u, e1, e2⟩ := ok_tree (t.sch.take i) .nil (ok_take _ _ i (ok_sch_from t _))
  unfold pre; rw [e2, e1]; rfl
theorem pre_size {t : T} {i : Nat} (h : i ≤ t.size) : (pre t i).size = i := by
  rw [← T.sch_len, pre_sch, List.length_take, T.sch_len]; omega
theorem pre_zero (t : T) : pre t 0 = .nil := rfl
theorem pre_all (t : T) : pre t t.size = t := T.sch_inj (by rw [pre_sch, List.take_of_length_le (by rw [T.sch_len]; exact Nat.le_refl _)])
theorem ok_last : ∀ (p : List Nat) (k m : Nat) (q : List Nat), Ok k (p ++ m :: q) → m + p.sum ≤ k + p.length
  | [], k, m, q, h => by simpa using h.1
  | a :: r, k, m, q, h => by
    have := ok_last r (k - a + 1) m q h.2
    have h1 := h.1
    simp; omega
theorem pre_succ {t : T} {i : Nat} {m : Nat} (h : t.sch[i]? = some m) : pre t (i + 1) = (pre t i).push m ∧ m ≤ (pre t i).runs := by
  have hi : i < t.sch.length := (List.getElem?_eq_some_iff.mp h).1
  constructor
  · unfold pre
    rw [List.take_add_one, h]
    simp
  · have e : t.sch = t.sch.take i ++ m :: t.sch.drop (i + 1) := by
      have h2 := List.getElem?_eq_some_iff.mp h
      obtain ⟨h3, h4⟩ := h2
      rw [← h4]
      simp
    have h1 := ok_sch_from t 0
    rw [e] at h1
    have h2 := ok_last _ _ _ _ h1
    have h3 := T.sum_sch (pre t i)
    rw [pre_sch] at h3
    have h4 : (pre t i).size = (t.sch.take i).length := by rw [← T.sch_len, pre_sch]
    omega
theorem rc_take : ∀ (t : T) (i : Nat), (pre t i).rc = t.rc.take i := by
  intro t i
  by_cases hi : i ≤ t.size
  · suffices h : ∀ k, i + k = t.size → (pre t i).rc = t.rc.take i from h (t.size - i) (by omega)
    intro k
    induction k generalizing i with
    | zero =>
      intro e
      rw [show i = t.size by omega, pre_all, List.take_of_length_le (by rw [T.rc_len]; omega)]
    | succ k ih =>
      intro e
      have hl : i < t.sch.length := by rw [T.sch_len]; omega
      obtain ⟨e1, h1⟩ := pre_succ (List.getElem?_eq_getElem hl)
      have h2 := ih (i + 1) (by omega) (by omega)
      rw [e1, T.push_rc _ _ h1] at h2
      have h3 := congrArg (List.take i) h2
      rw [List.take_append_of_le_length (by rw [T.rc_len, pre_size (by omega)]; omega), List.take_take, List.take_of_length_le (by rw [T.rc_len, pre_size (by omega)]; omega)] at h3
      rw [h3]; congr 1; omega
  · have e : t.sch.take i = t.sch := List.take_of_length_le (by rw [T.sch_len]; omega)
    have : pre t i = t := T.sch_inj (by rw [pre_sch, e])
    rw [this, List.take_of_length_le (by rw [T.rc_len]; omega)]
theorem rc_at {t : T} {i m : Nat} (h : t.sch[i]? = some m) : t.rc[i]? = some ((pre t i).runs - m + 1) := by
  obtain ⟨e1, h1⟩ := pre_succ h
  have hi : i < t.size := by rw [← T.sch_len]; exact (List.getElem?_eq_some_iff.mp h).1
  have h2 := rc_take t (i + 1)
  rw [e1, T.push_rc _ _ h1] at h2
  have h3 := congrArg (fun l : List Nat => l[i]?) h2
  simp only [List.getElem?_take] at h3
  rw [List.getElem?_append_right (by rw [T.rc_len, pre_size (by omega)]; omega), T.rc_len, pre_size (by omega)] at h3
  simp at h3
  exact h3.symm
theorem pre_runs {t : T} {i : Nat} (h : i < t.size) : t.rc[i]? = some (pre t (i + 1)).runs := by
  have hl : i < t.sch.length := by rw [T.sch_len]; exact h
  obtain ⟨e1, h1⟩ := pre_succ (List.getElem?_eq_getElem hl)
  rw [rc_at (List.getElem?_eq_getElem hl), e1, T.push_runs _ _ h1]
/-! ### write counts by place -/
theorem wr_step {t : T} {m : Nat} (h : m ≤ t.runs) (k : Nat) : ((t.push m).wr.getD k 0) = if t.start m ≤ k ∧ k < t.size + 1 then t.wr.getD k 0 + 1 else t.wr.getD k 0 := by
  have hs := T.start_le t m h
  have hl := T.wr_len t
  rw [T.push_wr t m h]
  simp only [List.getD_eq_getElem?_getD]
  by_cases h1 : k < t.start m
  · rw [List.getElem?_append_left (by rw [List.length_take]; omega), List.getElem?_take, if_pos h1, if_neg (by omega)]
  · have e : (t.wr.take (t.start m)).length = t.start m := by rw [List.length_take]; omega
    rw [List.getElem?_append_right (by omega), e]
    by_cases h2 : k < t.size
    · rw [List.getElem?_append_left (by rw [List.length_map, List.length_drop]; omega), List.getElem?_map, List.getElem?_drop, if_pos (by omega), show t.start m + (k - t.start m) = k by omega]
      rw [List.getElem?_eq_getElem (by omega)]
      rfl
    · by_cases h3 : k = t.size
      · have e2 : ((t.wr.drop (t.start m)).map (· + 1)).length = k - t.start m := by rw [List.length_map, List.length_drop]; omega
        rw [List.getElem?_append_right (by omega), e2, Nat.sub_self, if_pos (by omega), List.getElem?_eq_none (by omega : t.wr.length ≤ k)]
        rfl
      · rw [List.getElem?_eq_none (by simp; omega), if_neg (by omega), List.getElem?_eq_none (by omega : t.wr.length ≤ k)]
theorem list_by {c d : List Nat} (hl : c.length = d.length) (h : ∀ k, k < c.length → c[k]? = some (d.getD k 0)) : c = d := by
  refine List.ext_getElem? fun k => ?_
  by_cases hk : k < c.length
  · rw [h k hk, List.getD_eq_getElem?_getD, List.getElem?_eq_getElem (by omega)]
    rfl
  · rw [List.getElem?_eq_none (by omega), List.getElem?_eq_none (by omega)]
theorem stk_last {t : T} {i m : Nat} (h : t.sch[i]? = some m) : (pre t (i + 1)).stk 0 = ((pre t i).stk 0).take ((pre t i).runs - m) ++ [((pre t i).start m, i + 1)] := by
  obtain ⟨e, h1⟩ := pre_succ h
  have hi : i < t.size := by rw [← T.sch_len]; exact (List.getElem?_eq_some_iff.mp h).1
  rw [e, T.stk_push _ _ h1, Nat.zero_add, Nat.zero_add, pre_size (by omega)]

/-! ### subtrees -/
inductive Sub (t : T) : Nat → T → Nat → Int → Prop
  | root : Sub t 0 t 1 (-1)
  | left {off k : Nat} {p : Int} {l r : T} : Sub t off (.node l r) k p → Sub t off l k ((off + l.size : Nat) : Int)
  | right {off k : Nat} {p : Int} {l r : T} : Sub t off (.node l r) k p → Sub t (off + l.size + 1) r (k + 1) ((off + l.size : Nat) : Int)
def T.parOf (t : T) : List Int := t.par 0 (-1)
theorem slice_left {α : Type} {L a b : List α} {x : α} {off : Nat} (h : (L.drop off).take (a.length + 1 + b.length) = a ++ x :: b) : (L.drop off).take a.length = a := by
  have := congrArg (List.take a.length) h
  rw [List.take_take, List.take_left' rfl, show min a.length (a.length + 1 + b.length) = a.length by omega] at this
  exact this
theorem slice_mid {α : Type} {L a b : List α} {x : α} {off : Nat} (h : (L.drop off).take (a.length + 1 + b.length) = a ++ x :: b) : L[off + a.length]? = some x := by
  have := congrArg (fun l : List α => l[a.length]?) h
  simp only [List.getElem?_take, List.getElem?_drop] at this
  rw [if_pos (by omega), List.getElem?_append_right (Nat.le_refl _), Nat.sub_self] at this
  simpa using this
theorem slice_right {α : Type} {L a b : List α} {x : α} {off : Nat} (h : (L.drop off).take (a.length + 1 + b.length) = a ++ x :: b) : (L.drop (off + a.length + 1)).take b.length = b := by
  have := congrArg (List.drop (a.length + 1)) h
  rw [List.drop_take, List.drop_drop] at this
  have e2 : List.drop (a.length + 1) (a ++ x :: b) = b := by
    rw [List.drop_append]; simp
  rw [e2] at this
  have h2 := congrArg (List.take b.length) this
  rw [List.take_take, List.take_length] at h2
  rw [← Nat.add_assoc] at h2
  rw [show b.length = min b.length (a.length + 1 + b.length - (a.length + 1)) by omega]
  exact h2
theorem sub_le {t : T} {off k : Nat} {s : T} {p : Int} (h : Sub t off s k p) : off + s.size ≤ t.size ∧ 1 ≤ k ∧ k ≤ off + 1 := by
  induction h with
  | root => exact ⟨by omega, by omega, by omega⟩
  | left _ ih => simp only [T.size] at ih; omega
  | right _ ih => simp only [T.size] at ih; omega
theorem sub_out {t : T} {off k : Nat} {s : T} {p : Int} (h : Sub t off s k p) : (p = -1 ∨ ((0 ≤ p ∧ p < t.size) ∧ (p + 1 = off ∨ p = ((off + s.size : Nat) : Int)))) := by
  cases h with
  | root => exact .inl rfl
  | left h => have := sub_le h; simp only [T.size] at this; exact .inr ⟨by omega, .inr rfl⟩
  | right h => have := sub_le h; simp only [T.size] at this; exact .inr ⟨by omega, .inl (by omega)⟩
theorem sub_rc {t : T} {off k : Nat} {s : T} {p : Int} (h : Sub t off s k p) : (t.rc.drop off).take s.size = s.rc.map (· + (k - 1)) := by
  induction h with
  | root => simp [← T.rc_len]
  | @left off k p l r h ih =>
    have e : (T.node l r).rc.map (· + (k - 1)) = l.rc.map (· + (k - 1)) ++ (1 + (k - 1)) :: (r.rc.map (· + 1)).map (· + (k - 1)) := by simp [T.rc]
    rw [e] at ih
    have hl : (l.rc.map (· + (k - 1))).length = l.size := by rw [List.length_map, T.rc_len]
    have hr : ((r.rc.map (· + 1)).map (· + (k - 1))).length = r.size := by rw [List.length_map, List.length_map, T.rc_len]
    have := slice_left (a := l.rc.map (· + (k - 1))) (b := (r.rc.map (· + 1)).map (· + (k - 1))) (L := t.rc) (off := off) (x := 1 + (k - 1)) (by rw [hl, hr]; exact ih)
    rw [hl] at this
    exact this
  | @right off k p l r h ih =>
    have e : (T.node l r).rc.map (· + (k - 1)) = l.rc.map (· + (k - 1)) ++ (1 + (k - 1)) :: (r.rc.map (· + 1)).map (· + (k - 1)) := by simp [T.rc]
    rw [e] at ih
    have hl : (l.rc.map (· + (k - 1))).length = l.size := by rw [List.length_map, T.rc_len]
    have hr : ((r.rc.map (· + 1)).map (· + (k - 1))).length = r.size := by rw [List.length_map, List.length_map, T.rc_len]
    have := slice_right (a := l.rc.map (· + (k - 1))) (b := (r.rc.map (· + 1)).map (· + (k - 1))) (L := t.rc) (off := off) (x := 1 + (k - 1)) (by rw [hl, hr]; exact ih)
    rw [hl, hr] at this
    rw [this, List.map_map]
    refine List.map_congr_left fun a _ => ?_
    have := (sub_le h).2.1
    simp only [Function.comp]
    omega
theorem sub_par {t : T} {off k : Nat} {s : T} {p : Int} (h : Sub t off s k p) : (t.parOf.drop off).take s.size = s.par (off : Int) p := by
  induction h with
  | root => simp only [T.parOf]; rw [List.drop_zero, List.take_of_length_le (by rw [T.par_len]; omega)]; rfl
  | @left off k p l r h ih =>
    simp only [T.par] at ih
    have hl := T.par_len l (off : Int) ((off : Int) + l.size)
    have hr := T.par_len r ((off : Int) + l.size + 1) ((off : Int) + l.size)
    have := slice_left (a := l.par (off : Int) ((off : Int) + l.size)) (b := r.par ((off : Int) + l.size + 1) ((off : Int) + l.size)) (L := t.parOf) (off := off) (x := p) (by rw [hl, hr]; exact ih)
    rw [hl] at this
    rw [this, Int.natCast_add]
  | @right off k p l r h ih =>
    simp only [T.par] at ih
    have hl := T.par_len l (off : Int) ((off : Int) + l.size)
    have hr := T.par_len r ((off : Int) + l.size + 1) ((off : Int) + l.size)
    have := slice_right (a := l.par (off : Int) ((off : Int) + l.size)) (b := r.par ((off : Int) + l.size + 1) ((off : Int) + l.size)) (L := t.parOf) (off := off) (x := p) (by rw [hl, hr]; exact ih)
    rw [hl, hr] at this
    rw [this]
    simp only [Int.natCast_add]
    rfl
theorem sub_root {t : T} {off k : Nat} {l r : T} {p : Int} (h : Sub t off (.node l r) k p) : t.parOf[off + l.size]? = some p := by
  have ih := sub_par h
  simp only [T.par] at ih
  have hl := T.par_len l (off : Int) ((off : Int) + l.size)
  have hr := T.par_len r ((off : Int) + l.size + 1) ((off : Int) + l.size)
  have := slice_mid (a := l.par (off : Int) ((off : Int) + l.size)) (b := r.par ((off : Int) + l.size + 1) ((off : Int) + l.size)) (L := t.parOf) (off := off) (x := p) (by rw [hl, hr]; exact ih)
  rw [hl] at this
  exact this
/-- the parents of a subtree: the root's alone lies outside -/
theorem par_in : ∀ (s : T) (off p : Int) (i : Nat) (q : Int), (s.par off p)[i]? = some q → (∃ l r, s = .node l r ∧ i = l.size ∧ q = p) ∨ (off ≤ q ∧ q < off + s.size ∧ ∀ l r, s = .node l r → i ≠ l.size)
  | .nil, _, _, _, _, h => by simp [T.par] at h
  | .node l r, off, p, i, q, h => by
    simp only [T.par] at h
    have hl := T.par_len l off (off + l.size)
    by_cases h1 : i < l.size
    · rw [List.getElem?_append_left (by omega)] at h
      refine .inr ?_
      rcases par_in l off (off + l.size) i q h with ⟨a, b, e, e2, e3⟩ | ⟨h2, h3, _⟩
      · refine ⟨by omega, by simp only [T.size]; omega, fun l' r' e' => by cases e'; omega⟩
      · refine ⟨by omega, by simp only [T.size]; omega, fun l' r' e' => by cases e'; omega⟩
    · rw [List.getElem?_append_right (by omega), hl] at h
      by_cases h2 : i = l.size
      · subst h2
        rw [Nat.sub_self] at h
        have : p = q := by simpa using h
        exact .inl ⟨l, r, rfl, rfl, this.symm⟩
      · obtain ⟨j, e⟩ : ∃ j, i - l.size = j + 1 := ⟨i - l.size - 1, by omega⟩
        rw [e, List.getElem?_cons_succ] at h
        refine .inr ?_
        rcases par_in r (off + l.size + 1) (off + l.size) j q h with ⟨a, b, e4, e2, e3⟩ | ⟨h4, h3, _⟩
        · refine ⟨by omega, by simp only [T.size]; omega, fun l' r' e' => by cases e'; omega⟩
        · refine ⟨by omega, by simp only [T.size]; omega, fun l' r' e' => by cases e'; omega⟩
theorem rc_pos : ∀ (s : T) (i v : Nat), s.rc[i]? = some v → 1 ≤ v
  | .nil, _, _, h => by simp [T.rc] at h
  | .node l r, i, v, h => by
    simp only [T.rc] at h
    by_cases h1 : i < l.size
    · rw [List.getElem?_append_left (by rw [T.rc_len]; exact h1)] at h
      exact rc_pos l i v h
    · rw [List.getElem?_append_right (by rw [T.rc_len]; omega), T.rc_len] at h
      rcases Nat.eq_zero_or_pos (i - l.size) with e | e
      · rw [e] at h; simp at h; omega
      · obtain ⟨j, e⟩ : ∃ j, i - l.size = j + 1 := ⟨i - l.size - 1, by omega⟩
        rw [e, List.getElem?_cons_succ, List.getElem?_map] at h
        cases h2 : r.rc[j]? with
        | none => rw [h2] at h; cases h
        | some u => rw [h2] at h; simp at h; omega
theorem rc_one {l r : T} {i : Nat} (h : (T.node l r).rc[i]? = some 1) : i ≤ l.size := by
  simp only [T.rc] at h
  by_cases h1 : i ≤ l.size
  · exact h1
  · rw [List.getElem?_append_right (by rw [T.rc_len]; omega), T.rc_len] at h
    obtain ⟨j, e⟩ : ∃ j, i - l.size = j + 1 := ⟨i - l.size - 1, by omega⟩
    rw [e, List.getElem?_cons_succ, List.getElem?_map] at h
    cases h2 : r.rc[j]? with
    | none => rw [h2] at h; cases h
    | some u =>
      have := rc_pos r j u h2
      rw [h2] at h; simp at h; omega
theorem rc_root (l r : T) : (T.node l r).rc[l.size]? = some 1 := by
  simp only [T.rc]
  rw [List.getElem?_append_right (by rw [T.rc_len]; exact Nat.le_refl _), T.rc_len, Nat.sub_self]; rfl
theorem sub_rc_at {t : T} {off k : Nat} {s : T} {p : Int} (h : Sub t off s k p) {i : Nat} (hi : i < s.size) : ∃ v, s.rc[i]? = some v ∧ t.rc[off + i]? = some (v + (k - 1)) := by
  have e := congrArg (fun l : List Nat => l[i]?) (sub_rc h)
  simp only [List.getElem?_take, List.getElem?_drop, List.getElem?_map] at e
  rw [if_pos hi] at e
  have hv := List.getElem?_eq_getElem (show i < s.rc.length by rw [T.rc_len]; exact hi)
  rw [hv] at e
  exact ⟨_, hv, e⟩
theorem sub_par_at {t : T} {off k : Nat} {s : T} {p : Int} (h : Sub t off s k p) {i : Nat} (hi : i < s.size) : ∃ q, (s.par (off : Int) p)[i]? = some q ∧ t.parOf[off + i]? = some q := by
  have e := congrArg (fun l : List Int => l[i]?) (sub_par h)
  simp only [List.getElem?_take, List.getElem?_drop] at e
  rw [if_pos hi] at e
  have hv := List.getElem?_eq_getElem (show i < (s.par (off : Int) p).length by rw [T.par_len]; exact hi)
  rw [hv] at e
  exact ⟨_, hv, e⟩
theorem filter_one {f : Nat → Bool} {n c : Nat} (hc : c < n) (h1 : f c = true) (h2 : ∀ i, i < n → f i = true → i = c) : (List.range n).filter f = [c] := by
  induction n with
  | zero => omega
  | succ n ih =>
    rw [List.range_succ, List.filter_append]
    by_cases e : c = n
    · subst e
      have e0 : (List.range c).filter f = [] := List.filter_eq_nil_iff.mpr fun i hi hf => by
        have := List.mem_range.mp hi
        have := h2 i (by omega) hf
        omega
      rw [e0]; simp [h1]
    · rw [ih (by omega) fun i hi hf => h2 i (by omega) hf]
      have : f n = false := by
        cases hf : f n with
        | false => rfl
        | true => exact absurd (h2 n (by omega) hf) (by omega)
      simp [this]
/-- the work of a list of subtrees -/
def todo : List (Nat × T × Nat × Int) → Nat
  | [] => 0
  | x :: r => 2 * x.2.1.size + 1 + todo r
theorem todo_app : ∀ a b, todo (a ++ b) = todo a + todo b
  | [], b => by simp [todo]
  | x :: r, b => by simp [todo, todo_app r b]; omega
theorem len_todo : ∀ L, L.length ≤ todo L
  | [] => Nat.le_refl _
  | x :: r => by have := len_todo r; simp [todo]; omega

/-! ### one step up -/
theorem getD_app_l {a b : List Nat} {i : Nat} (h : i < a.length) : (a ++ b).getD i 0 = a.getD i 0 := by
  simp only [List.getD_eq_getElem?_getD, List.getElem?_append_left h]
theorem getD_app_r {a b : List Nat} {i : Nat} (h : a.length ≤ i) : (a ++ b).getD i 0 = b.getD (i - a.length) 0 := by
  simp only [List.getD_eq_getElem?_getD, List.getElem?_append_right h]
theorem getD_map1 {a : List Nat} {i : Nat} (h : i < a.length) : (a.map (· + 1)).getD i 0 = a.getD i 0 + 1 := by
  simp only [List.getD_eq_getElem?_getD, List.getElem?_map, List.getElem?_eq_getElem h]; rfl
theorem wr_l {l r : T} {i : Nat} (h : i < l.size) : (T.node l r).wr.getD i 0 = l.wr.getD i 0 + 1 := by
  simp only [T.wr]
  rw [getD_app_l (by rw [List.length_map, T.wr_len]; exact h), getD_map1 (by rw [T.wr_len]; exact h)]
theorem wr_m {l r : T} : (T.node l r).wr.getD l.size 0 = 1 := by
  simp only [T.wr]
  rw [getD_app_r (by rw [List.length_map, T.wr_len]; exact Nat.le_refl _), List.length_map, T.wr_len, Nat.sub_self]; rfl
theorem wr_r {l r : T} {j : Nat} : (T.node l r).wr.getD (l.size + 1 + j) 0 = r.wr.getD j 0 := by
  simp only [T.wr]
  rw [getD_app_r (by rw [List.length_map, T.wr_len]; omega), List.length_map, T.wr_len, show l.size + 1 + j - l.size = j + 1 by omega, List.getD_cons_succ]
theorem rc_l {l r : T} {i : Nat} (h : i < l.size) : (T.node l r).rc.getD i 0 = l.rc.getD i 0 := by
  simp only [T.rc]
  rw [getD_app_l (by rw [T.rc_len]; exact h)]
theorem rc_m {l r : T} : (T.node l r).rc.getD l.size 0 = 1 := by
  simp only [T.rc]
  rw [getD_app_r (by rw [T.rc_len]; exact Nat.le_refl _), T.rc_len, Nat.sub_self]; rfl
theorem rc_r {l r : T} {j : Nat} (h : j < r.size) : (T.node l r).rc.getD (l.size + 1 + j) 0 = r.rc.getD j 0 + 1 := by
  simp only [T.rc]
  rw [getD_app_r (by rw [T.rc_len]; omega), T.rc_len, show l.size + 1 + j - l.size = j + 1 by omega, List.getD_cons_succ, getD_map1 (by rw [T.rc_len]; exact h)]
theorem up : ∀ (s : T) (off p : Int) (i : Nat) (q : Int), (s.par off p)[i]? = some q →
    (q = p ∧ s.wr.getD i 0 = 1 ∧ s.rc.getD i 0 = 1) ∨
    ∃ j : Nat, q = off + j ∧ j < s.size ∧ j ≠ i ∧ (i < j → s.wr.getD i 0 = s.wr.getD j 0 + 1 ∧ s.rc.getD i 0 = s.rc.getD j 0) ∧ (j < i → s.wr.getD i 0 = s.wr.getD j 0 ∧ s.rc.getD i 0 = s.rc.getD j 0 + 1)
  | .nil, _, _, _, _, h => by simp [T.par] at h
  | .node l r, off, p, i, q, h => by
    simp only [T.par] at h
    have hl := T.par_len l off (off + l.size)
    by_cases h1 : i < l.size
    · rw [List.getElem?_append_left (by omega)] at h
      refine .inr ?_
      rcases up l off (off + l.size) i q h with ⟨e, e1, e2⟩ | ⟨j, e, hj, hne, c1, c2⟩
      · exact ⟨l.size, e, by simp only [T.size]; omega, by omega, fun _ => ⟨by rw [wr_l h1, wr_m, e1], by rw [rc_l h1, rc_m, e2]⟩, fun z => by omega⟩
      · exact ⟨j, e, by simp only [T.size]; omega, hne, fun z => ⟨by rw [wr_l h1, wr_l hj, (c1 z).1], by rw [rc_l h1, rc_l hj, (c1 z).2]⟩, fun z => ⟨by rw [wr_l h1, wr_l hj, (c2 z).1], by rw [rc_l h1, rc_l hj, (c2 z).2]⟩⟩
    · rw [List.getElem?_append_right (by omega), hl] at h
      by_cases h2 : i = l.size
      · subst h2
        rw [Nat.sub_self] at h
        have : p = q := by simpa using h
        exact .inl ⟨this.symm, wr_m, rc_m⟩
      · obtain ⟨k, e⟩ : ∃ k, i = l.size + 1 + k := ⟨i - l.size - 1, by omega⟩
        subst e
        rw [show l.size + 1 + k - l.size = k + 1 by omega, List.getElem?_cons_succ] at h
        have hk : k < r.size := by
          have := (List.getElem?_eq_some_iff.mp h).1
          rw [T.par_len] at this; exact this
        refine .inr ?_
        rcases up r (off + l.size + 1) (off + l.size) k q h with ⟨e, e1, e2⟩ | ⟨j, e, hj, hne, c1, c2⟩
        · exact ⟨l.size, e, by simp only [T.size]; omega, by omega, fun z => by omega, fun _ => ⟨by rw [wr_r, wr_m, e1], by rw [rc_r hk, rc_m, e2]⟩⟩
        · exact ⟨l.size + 1 + j, by rw [e]; omega, by simp only [T.size]; omega, by omega, fun z => ⟨by rw [wr_r, wr_r, (c1 (by omega)).1], by rw [rc_r hk, rc_r hj, (c1 (by omega)).2]⟩, fun z => ⟨by rw [wr_r, wr_r, (c2 (by omega)).1], by rw [rc_r hk, rc_r hj, (c2 (by omega)).2]⟩⟩
theorem wr_pos {t : T} {i : Nat} (h : i < t.size) : 1 ≤ t.wr.getD i 0 := by
  induction t generalizing i with
  | nil => simp [T.size] at h
  | node l r ihl ihr =>
    by_cases h1 : i < l.size
    · rw [wr_l h1]; omega
    · by_cases h2 : i = l.size
      · subst h2; rw [wr_m]; exact Nat.le_refl _
      · obtain ⟨k, e⟩ : ∃ k, i = l.size + 1 + k := ⟨i - l.size - 1, by omega⟩
        subst e
        rw [wr_r]; exact ihr (by simp only [T.size] at h; omega)
theorem rc_posD {t : T} {i : Nat} (h : i < t.size) : 1 ≤ t.rc.getD i 0 := by
  have := List.getElem?_eq_getElem (show i < t.rc.length by rw [T.rc_len]; exact h)
  rw [List.getD_eq_getElem?_getD, this]
  exact rc_pos t i _ this

/-! ### mirrors -/
def mirN (N : Int) (q : Int) : Int := if q = -1 then -1 else N - 1 - q
theorem mir_size : ∀ t : T, t.mir.size = t.size
  | .nil => rfl
  | .node l r => by simp [T.mir, T.size, mir_size l, mir_size r]; omega
theorem mir_par : ∀ (s : T) (N off p : Int), 0 ≤ off → ((s.par off p).reverse).map (mirN N) = s.mir.par (N - off - s.size) (mirN N p)
  | .nil, _, _, _, _ => rfl
  | .node l r, N, off, p, h => by
    simp only [T.par, T.mir, List.reverse_append, List.reverse_cons, List.map_append, List.map_cons, List.map_nil]
    rw [mir_par l N off (off + l.size) h, mir_par r N (off + l.size + 1) (off + l.size) (by omega), mir_size]
    have e1 : mirN N (off + l.size) = N - 1 - (off + l.size) := by unfold mirN; rw [if_neg (by omega)]
    rw [e1]
    have e2 : N - off - ((T.node l r).size : Int) = N - (off + l.size + 1) - r.size := by simp only [T.size]; omega
    rw [e2]
    have e3 : N - (off + ↑l.size + 1) - ↑r.size + ↑r.size = N - 1 - (off + ↑l.size) := by omega
    rw [e3, show N - 1 - (off + (l.size : Int)) + 1 = N - off - l.size by omega]
    simp
theorem mir_parOf (t : T) : t.mir.parOf = (t.parOf.reverse).map (mirN t.size) := by
  unfold T.parOf
  rw [mir_par t t.size 0 (-1) (by omega)]
  rw [show ((t.size : Int) - 0 - t.size) = 0 by omega]
  rfl
theorem mir_wr : ∀ t : T, t.mir.wr = t.rc.reverse
  | .nil => rfl
  | .node l r => by simp [T.mir, T.wr, T.rc, mir_wr l, mir_wr r]
theorem mir_rc : ∀ t : T, t.mir.rc = t.wr.reverse
  | .nil => rfl
  | .node l r => by simp [T.mir, T.wr, T.rc, mir_rc l, mir_rc r]
theorem mir_mir : ∀ t : T, t.mir.mir = t
  | .nil => rfl
  | .node l r => by simp [T.mir, mir_mir l, mir_mir r]

/-! ### parents of a joined tree -/
theorem par_below {N : Int} : ∀ (s : T) (off p : Int), 0 ≤ off → (s.par off p).map (fun q => if q = -1 then N else q) = s.par off (if p = -1 then N else p)
  | .nil, _, _, _ => rfl
  | .node l r, off, p, h => by
    simp only [T.par, List.map_append, List.map_cons]
    rw [par_below l off _ h, par_below r (off + l.size + 1) _ (by omega), if_neg (by omega : ¬ off + (l.size : Int) = -1)]
theorem par_beyond {N : Int} : ∀ (s : T) (off p : Int), 0 ≤ off → (s.par off p).map (fun q => if q = -1 then N else q + N + 1) = s.par (off + N + 1) (if p = -1 then N else p + N + 1)
  | .nil, _, _, _ => rfl
  | .node l r, off, p, h => by
    simp only [T.par, List.map_append, List.map_cons]
    rw [par_beyond l off _ h, par_beyond r (off + l.size + 1) _ (by omega), if_neg (by omega : ¬ off + (l.size : Int) = -1)]
    have e1 : off + (l.size : Int) + N + 1 = off + N + 1 + l.size := by omega
    have e2 : off + (l.size : Int) + 1 + N + 1 = off + N + 1 + l.size + 1 := by omega
    rw [e1, e2]
theorem parOf_node (s u : T) : (T.node s u).parOf = s.parOf.map (fun q => if q = -1 then (s.size : Int) else q) ++ [-1] ++ u.parOf.map (fun q => if q = -1 then (s.size : Int) else q + s.size + 1) := by
  unfold T.parOf
  rw [par_below s 0 (-1) (by omega), par_beyond u 0 (-1) (by omega)]
  simp only [T.par]
  simp
theorem parOf_root (s u : T) : (T.node s u).parOf[s.size]? = some (-1) := by
  have := sub_root (t := T.node s u) .root
  simpa using this
theorem parOf_first {s u : T} {m : Nat} (h : m < s.size) : (T.node s u).parOf[m]? ≠ some (-1) := fun e => by
  rcases par_in _ _ _ _ _ e with ⟨l, r, e1, e2, _⟩ | ⟨h1, _, _⟩
  · cases e1; omega
  · omega

/-! ### runs as lists of flushes -/
theorem stk_pair : ∀ (t : T) (off j : Nat), j + 1 ≤ t.runs → (t.stk off)[t.runs - (j + 1)]? = some (off + t.start (j + 1), off + t.start j)
  | .nil, _, _, h => by simp [T.runs] at h
  | .node l r, off, j, h => by
    by_cases e : j = r.runs
    · subst e
      have e1 : (T.node l r).runs = r.runs + 1 := by simp [T.runs]; omega
      rw [e1, Nat.sub_self, ← e1, T.start_eq, T.start_node (Nat.le_refl _), T.start_eq]
      rfl
    · have h1 : j + 1 ≤ r.runs := by simp [T.runs] at h; omega
      have e1 : (T.node l r).runs - (j + 1) = (r.runs - (j + 1)) + 1 := by simp [T.runs]; omega
      rw [e1, T.start_node h1, T.start_node (by omega)]
      simp only [T.stk, List.getElem?_cons_succ]
      rw [stk_pair r (off + l.size + 1) j h1]
      congr 2 <;> omega
theorem start_anti : ∀ (t : T) (j : Nat), j + 1 ≤ t.runs → t.start (j + 1) < t.start j
  | .nil, _, h => by simp [T.runs] at h
  | .node l r, j, h => by
    by_cases e : j = r.runs
    · subst e
      have e1 : (T.node l r).runs = r.runs + 1 := by simp [T.runs]; omega
      rw [← e1, T.start_eq, T.start_node (Nat.le_refl _), T.start_eq]
      omega
    · have h1 : j + 1 ≤ r.runs := by simp [T.runs] at h; omega
      rw [T.start_node h1, T.start_node (by omega)]
      have := start_anti r j h1
      omega
/-- the flushes of [a, b) -/
def seg (a b : Nat) : List Nat := List.range' a (b - a)
theorem seg_app {a b c : Nat} (h1 : a ≤ b) (h2 : b ≤ c) : seg a b ++ seg b c = seg a c := by
  unfold seg
  have := List.range'_append_1 (s := a) (m := b - a) (n := c - b)
  rw [show a + (b - a) = b by omega, show b - a + (c - b) = c - a by omega] at this
  exact this
theorem seg_one (a : Nat) : seg a (a + 1) = [a] := by
  unfold seg
  rw [show a + 1 - a = 1 by omega]; rfl
theorem seg_nil (a : Nat) : seg a a = [] := by unfold seg; rw [Nat.sub_self]; rfl
theorem seg_len (a b : Nat) : (seg a b).length = b - a := by unfold seg; rw [List.length_range']
theorem seg_at {a b k : Nat} (h : a + k < b) : (seg a b)[k]? = some (a + k) := by
  unfold seg
  rw [List.getElem?_range' (by omega)]
  simp
theorem stk_take_succ {t : T} {j : Nat} (off : Nat) (h : j + 1 ≤ t.runs) : (t.stk off).take (t.runs - j) = (t.stk off).take (t.runs - (j + 1)) ++ [(off + t.start (j + 1), off + t.start j)] := by
  rw [show t.runs - j = (t.runs - (j + 1)) + 1 by omega, List.take_add_one, stk_pair t off j h]; rfl
/-- adjacent, from off on -/
theorem stk_starts : ∀ (t : T) (off : Nat), (t.stk off).map (·.1) = (off :: (t.stk off).map (·.2)).dropLast
  | .nil, _ => rfl
  | .node l r, off => by
    have ih := stk_starts r (off + l.size + 1)
    simp only [T.stk, List.map_cons]
    rw [ih]; rfl
theorem stk_stops : ∀ (t : T) (off : Nat), (off :: (t.stk off).map (·.2)).getLast? = some (off + t.size)
  | .nil, off => by simp [T.stk, T.size]
  | .node l r, off => by
    have ih := stk_stops r (off + l.size + 1)
    simp only [T.stk, List.map_cons, T.size]
    rw [List.getLast?_cons_cons, ih]
    congr 1; omega
theorem stk_lt : ∀ (t : T) (off : Nat) (p : Nat × Nat), p ∈ t.stk off → off ≤ p.1 ∧ p.1 < p.2 ∧ p.2 ≤ off + t.size
  | .nil, _, _, h => by simp [T.stk] at h
  | .node l r, off, p, h => by
    simp only [T.stk] at h
    rcases List.mem_cons.mp h with rfl | h
    · simp only [T.size]; omega
    · have := stk_lt r _ p h
      simp only [T.size]; omega
end MB

set_option maxHeartbeats 4000000
namespace MB
open PySem PySem.Spec PyProof.Rows L2

/-! ### great powers -/
def CPowW (i j : Int) : Prop := 0 ≤ j ∧ (Builtin.Int.intBits i : Int) * j ≤ 2 ^ 27
theorem op_powW {X : Cx} : OpR X (binaryOp .Pow) (rI CPowW fun i j => .int (i ^ j.toNat)) := opI fun _ _ _ _ _ _ _ hc q => pow_int hc.1 hc.2 q

/-! ### xs[i] op= e -/
theorem get_list {X : Cx} : PGet X (rIxL X.K) := by
  intro pins s σ H x y v u Q I rx ry h
  obtain ⟨p, xs, i, z, rfl, rfl, hq, he, q⟩ := h
  cases rx
  obtain ⟨t, rfl⟩ := ry
  obtain ⟨its, r, pl, hz⟩ := I.list hq
  obtain ⟨j, h1, h2, h3, h4, h5⟩ := atI_get he
  obtain ⟨w, ew, rw'⟩ := r.get h2
  have hl := r.length
  have hn := line63
  have fin : EP X pins σ Q w s := ⟨z, H, I, rw', q⟩
  by_cases h0 : 0 ≤ i
  · have hj : i.toNat = j := by
      rw [seqIndex_of h0 h5] at h1
      exact Option.some.inj h1
    exact getItem_listL pl.isList h0 (by omega) (by rw [hj]; exact ew) fin
  · have hj : (i + (its.toArray.size : Int)).toNat = j := by
      rw [seqIndex_neg (by omega) h4] at h1
      rw [List.size_toArray, ← hl]
      exact Option.some.inj h1
    exact wpAny_getItem_list_neg pl.isList (by omega) (by rw [List.size_toArray] <;> omega) (by omega) (by rw [hj]; simpa using ew) fin

/-! ### sum of a tuple of ints -/
theorem ints_at : ∀ {ns : List Int} {its : List Value}, Vals (ns.map V.int) its → ∀ (i : Nat) (v : Value), its[i]? = some v → ∃ t, v = .int (ns.getD i 0) t
  | [], _, .nil, i, v, h => by simp at h
  | n :: ns, u :: us, .cons r rr, 0, v, h => by
    obtain ⟨t, rfl⟩ := r
    simp at h
    exact ⟨t, by simp [h]⟩
  | n :: ns, u :: us, .cons r rr, i + 1, v, h => by
    have := ints_at rr i v (by simpa using h)
    simpa using this
theorem preSum_getD (ns : List Int) : ∀ k, k ≤ ns.length → preSum (fun i => ns.getD i 0) k = (ns.take k).sum
  | 0, _ => by simp [preSum]
  | k + 1, h => by
    have e : ns[k]? = some (ns.getD k 0) := by
      rw [List.getElem?_eq_getElem (by omega), List.getD_eq_getElem?_getD, List.getElem?_eq_getElem (by omega)]
      rfl
    rw [preSum, preSum_getD ns k (by omega), L2.sum_take e]
def rSumT (K : PySem.W.Frag) : List V → Hp → VK → Prop := fun xs H Q => ∃ (a : Addr) (ns : List Int), xs = [V.ref a] ∧ SqT K H a (ns.map V.int) ∧ Q (.int ns.sum) H
theorem cr_sumT {X : Cx} (hc : X.calm = true) : CallR X (.builtin "sum") (rSumT X.K) := by
  intro pins s σ H vs us Q I r h
  obtain ⟨a, ns, rfl, hs, q⟩ := h
  obtain ⟨its, rv, hl, _⟩ := I.tuple hs
  rw [Vals.ref1 r]
  have hT : s.heap.IsTuple a its.toArray := hl
  have hlt : a < s.heap.objs.size := by obtain ⟨_, e, _⟩ := hl; exact Heap.lt_size e
  refine PySem.call_sum_walkG (wpAny_pyIter_tuple hT ?_)
  refine ⟨s.heap.objs.size, [s.heap.objs.size, a], [s.heap.objs.size], its.toArray.size, _, _, fun i => ns.getD i 0, rfl, Walks.tuple (A := X.A.in1) (I.ok.hd hc) _ a (Nat.ne_of_lt hlt) its.toArray, ⟨⟨_, Heap.get?_push_size _ rfl, rfl, rfl⟩, hT.at fun o e => Heap.get?_push_of_some _ e⟩, fun b hb => ?_, fun i v hv => ints_at rv i v (by simpa using hv), fun h' tk t' hk => ?_⟩
  · show b < (s.heap.push _).objs.size
    rw [Heap.size_push]
    have e : b = s.heap.objs.size ∨ b = a := by simpa using hb
    rcases e with e | e
    · rw [e]; exact Nat.lt_succ_self _
    · rw [e]; exact Nat.lt_succ_of_lt hlt
  · have el : its.toArray.size = ns.length := by rw [List.size_toArray, ← rv.length, List.length_map]
    rw [el, preSum_getD ns _ (Nat.le_refl _), List.take_length]
    refine ⟨.int ns.sum, H, I.kept fun b o e => hk b o ?_ (Heap.get?_push_of_some _ e), ⟨_, rfl⟩, q⟩
    have := Heap.lt_size e
    simp only [List.mem_singleton]
    exact Nat.ne_of_lt this

/-! ### enumerate(tuple) -/
set_option maxHeartbeats 4000000 in
theorem meets_enumerate_newT (l : Addr) (items : Array Value) (n : Nat) (dct : Option Addr) (sl : Array (Option Value)) :
    Meets (Builtin.«enumerate.__new__» ⟨[.type "enumerate", .ref l], []⟩) (fun _ R s => s.heap.get? l = some { cls := .type "tuple", dict := dct, data := .seq items n, slots := sl } ∧
      R (.ok (.ret (.ref (s.heap.push { cls := .type "tuple_iterator", data := .fields #[.ref l, .int 0 0] }).objs.size)))
        { s with heap := (s.heap.push { cls := .type "tuple_iterator", data := .fields #[.ref l, .int 0 0] }).push { cls := .type "enumerate", data := .fields #[.none, .bool false, .ref s.heap.objs.size, rawInt 0, .none, .none] } }) :=
  .of_wp fun prog w A R s h => by
    obtain ⟨hp, g, d, tk, os⟩ := s; obtain ⟨hl, h⟩ := h
    have hsub := sub_enumerate
    have hL : Heap.IsTuple (Shared.heap ⟨hp, g, d, tk, os⟩) l items := ⟨_, hl, rfl, n, rfl⟩
    wp_walk using AutoSeq1.wpAny_loadPart' hl
    refine wpAny_stack_any fun st => wpAny_pure ?_
    split
    · rename_i c _ _ _ _ _
      cases (c == Value.type "enumerate")
      · wp_walk using AutoSeq1.wpAny_loadPart' hl, wpAny_pyIter_tuple hL
        exact ⟨_, rfl, h⟩
      · wp_walk using AutoSeq1.wpAny_loadPart' hl, wpAny_pyIter_tuple hL
        exact ⟨_, rfl, h⟩
    · wp_walk using AutoSeq1.wpAny_loadPart' hl, wpAny_pyIter_tuple hL
      exact ⟨_, rfl, h⟩
section
variable {prog : Program} {w : World} {A : Around} {E : Value → Shared → Prop} {s : Shared}
theorem call_enumerate_tuple {l : Addr} {items : Array Value} {Q : Value → Shared → Prop} (hL : s.heap.IsTuple l items)
    (h : ∀ h', IsEnum h' (s.heap.objs.size + 1) s.heap.objs.size 0 .none → h'.IsTupleIter s.heap.objs.size l 0 → h'.objs.size = s.heap.objs.size + 2 →
      (∀ b o, s.heap.get? b = some o → h'.get? b = some o) → Q (.ref (s.heap.objs.size + 1)) { s with heap := h' }) :
    wpAny (model prog w) A (call (.type "enumerate") [.ref l]) Q E s := by
  obtain ⟨⟨c, dct, dt, sl⟩, hl, hc, n, hd⟩ := hL
  replace hc : c = .type "tuple" := hc
  replace hd : dt = .seq items n := hd
  subst hc hd
  refine callType_new F.called_enumerate (by decide) (F.typeCall_enumerate_1 _) (F.newCall_enumerate_1 _) (fun obj => F.args_object_init_2 obj _) F.entry_enumerate_new
    (meets_enumerate_newT l items n dct sl) ⟨hl, ?_⟩
  have hz : (s.heap.push { cls := .type "tuple_iterator", data := .fields #[.ref l, .int 0 0] }).objs.size = s.heap.objs.size + 1 := Heap.size_push ..
  show _ ∧ _
  rw [hz]
  have he : IsEnum ((s.heap.push { cls := .type "tuple_iterator", data := .fields #[.ref l, .int 0 0] }).push
      { cls := .type "enumerate", data := .fields #[.none, .bool false, .ref s.heap.objs.size, rawInt 0, .none, .none] }) (s.heap.objs.size + 1) s.heap.objs.size 0 .none := by
    have := Heap.get?_push_size (s.heap.push { cls := .type "tuple_iterator", data := .fields #[.ref l, .int 0 0] })
      (o := { cls := .type "enumerate", data := .fields #[.none, .bool false, .ref s.heap.objs.size, rawInt 0, .none, .none] }) rfl
    rw [hz] at this; exact this
  refine ⟨⟨_, he, rfl⟩, h _ he ⟨_, Heap.get?_push_of_some _ (Heap.get?_push_size _ rfl), rfl, rfl⟩ (by rw [Heap.size_push, hz]) fun b o x => Heap.get?_push_of_some _ (Heap.get?_push_of_some _ x)⟩
end
def IteT (K : PySem.W.Frag) (a : Addr) : It :=
  ⟨fun i H => ∃ (xs : List V) (x : V), SqT K H a xs ∧ xs[i]? = some x, fun i H v H' => ∃ T x, v = .ref T ∧ H T = none ∧ H' = upd H T (.tup [.int (i : Nat), x]) ∧ ∀ xs, SqT K H a xs → xs[i]? = some x, fun i H => ∃ xs : List V, SqT K H a xs ∧ xs.length = i⟩
theorem tup_ne {h : Heap} {a it : Addr} {items : Array Value} {i : Nat} (h1 : h.IsTuple a items) (h2 : h.IsTupleIter it a i) : a ≠ it := fun e => by
  obtain ⟨o, ho, hc, n, hd⟩ := h1
  obtain ⟨o', ho', hc', hd'⟩ := h2
  rw [e] at ho
  rw [ho] at ho'
  cases ho'
  rw [hd] at hd'
  cases hd'
theorem turn_enumT {P : Program} {w : World} {K : PySem.W.Frag} {elts : List Expr} {kk : Nat} {tpos : Pos} (a e it : Addr) (hae : a ≠ e) :
    Turn P w K (.Tuple elts kk tpos) (IteT K a) [e, it] e (fun i h => (∃ old, IsEnum h e it ((i : Nat) : Int) old) ∧ h.IsTupleIter it a i ∧ e ≠ it) where
  mem := by simp
  obj := fun i h st b hb => by
    obtain ⟨⟨old, he⟩, ⟨o, ho, hc, hd⟩, _⟩ := st
    have e' : b = e ∨ b = it := by simpa using hb
    rcases e' with z | z
    · rw [z]; exact ⟨_, he, fun v q => nomatch q⟩
    · rw [z]; exact ⟨o, ho, fun v q => by rw [hd] at q; cases q⟩
  keep := fun i h h' st k => let ⟨⟨old, he⟩, hi, hne⟩ := st; ⟨⟨old, k e (by simp) _ he⟩, hi.at fun o q => k it (by simp) o q, hne⟩
  item := by
    intro X hP hw hK hc i pins s σ H E I hf st hg
    subst hP hw hK
    obtain ⟨⟨old, he⟩, hit, hne⟩ := st
    obtain ⟨xs, x, hq, hx⟩ := hg
    obtain ⟨its, rv, p, hz⟩ := I.tuple hq
    have p : s.heap.IsTuple a its.toArray := p
    have hat : a ≠ it := tup_ne p hit
    have hel : e < s.heap.objs.size := Heap.lt_size he
    have hil : it < s.heap.objs.size := by obtain ⟨_, q, _⟩ := hit; exact Heap.lt_size q
    have hlen : i < its.toArray.size := by
      rw [List.size_toArray, ← rv.length]; exact (List.getElem?_eq_some_iff.mp hx).1
    refine wpAny_pyNext_enum_itemD (Draws.tuple (prog := X.prog) (w := X.w) (A := X.A.in1) (I.ok.hd hc) it a hat its.toArray) he ⟨hit, p⟩ hlen hne (by simp; exact ⟨hne, fun z => hae z.symm⟩) fun u h' tk hu ho hit' hT hsz hk => ?_
    obtain ⟨u', hu', ru'⟩ := rv.get hx
    have eu : u = u' := by
      have h1 : its[i]? = some u := by simpa using hu
      rw [h1] at hu'; exact Option.some.inj hu'
    subst eu
    refine ⟨_, rfl, wpAny_letOwnedTupleGo_enum (s := { s with heap := h', toks := tk + 1 }) ho fun h'' he' sb => ?_⟩
    have hT2 : h''.get? s.heap.objs.size = some { cls := .type "tuple", data := .seq #[.int i tk, u] } := (sb.2 _ (Nat.ne_of_gt hel)).trans hT
    have new : ObjOk X.prog X.w (upd H s.heap.objs.size (.tup [.int (i : Nat), x])) h'' s.heap.objs.size (.tup [.int (i : Nat), x]) :=
      ⟨by show 2 ≤ sizeLine; decide, [.int i tk, u], .cons ⟨_, rfl⟩ (.cons ru' .nil), ⟨_, hT2, rfl, _, rfl⟩⟩
    have I1 : Inv X pins σ (upd H s.heap.objs.size (.tup [.int (i : Nat), x])) { s with heap := h'', toks := tk + 1 } :=
      I.turnedNew (ch := [e, it]) (fun b ob hb q => (sb.2 b (fun z => hb (by simp [z]))).trans (hk b ob (fun z => hb (by simp [z])) (fun z => hb (by simp [z])) q)) hf (Nat.le_refl _) new
    refine ⟨.ref s.heap.objs.size, _, I1, rfl, ⟨_, x, rfl, I.hok.fresh (Nat.le_refl _), rfl, fun ys hy => by rw [I.tuple_inj hy hq]; exact hx⟩, ⟨⟨u, ?_⟩, hit'.1.at fun o q => (sb.2 it (Ne.symm hne)).trans q, hne⟩, fun b hb => ?_⟩
    · have e1 : ((i + 1 : Nat) : Int) = (i : Int) + 1 := by omega
      rw [e1]; exact he'
    · have hb' : b < s.heap.objs.size := by
        have e' : b = e ∨ b = it := by simpa using hb
        rcases e' with z | z
        · rw [z]; exact hel
        · rw [z]; exact hil
      rw [upd_ne (Nat.ne_of_lt hb')]
      exact (hf b hb).1
  done := by
    intro X hP hw hK hc i pins s σ H E I hf st hg
    subst hP hw hK
    obtain ⟨⟨old, he⟩, hit, hne⟩ := st
    obtain ⟨xs, hq, hx⟩ := hg
    obtain ⟨its, rv, p, hz⟩ := I.tuple hq
    have p : s.heap.IsTuple a its.toArray := p
    have hat : a ≠ it := tup_ne p hit
    obtain ⟨f0, f1, f2, f3, f4, f5⟩ := hf it (by simp)
    have hlen : its.toArray.size = i := by rw [List.size_toArray, ← rv.length, hx]
    refine wpAny_pyNext_enum_endD (Draws.tuple (prog := X.prog) (w := X.w) (A := X.A.in1) (I.ok.hd hc) it a hat its.toArray) he ?_ fun h' eb => ⟨rfl, I.turned (t' := s.toks) (fun b o hb q => eb b o hb q) f0 f1 f3 f4 f5⟩
    rw [hlen]
    exact ⟨hit, p⟩
  self := fun A i s Q E st h => let ⟨⟨_, he⟩, _⟩ := st; wpAny_pyIter_enum he h
def iEnumT (K : PySem.W.Frag) (ta : TA) : TI := fun σ H R => ta σ H fun vs H1 => ∃ a xs, vs = [.ref a] ∧ SqT K H1 a xs ∧ R (IteT K a) H1
theorem pi_enumT {X : Cx} {e : Expr} {ta : TA} {p pos tpos : Pos} {elts : List Expr} {kk : Nat} (hg : Gl X "enumerate") (hm : X.mg "enumerate" = none) (ha : PA X [e] ta) (hs : starEach [e] X.env = [(false, eval e X.env)] := by rfl) :
    PI X (.Tuple elts kk tpos) (.Call (.Name "enumerate" p) [e] [] pos) (iEnumT X.K ta) := by
  refine ⟨fun pins s σ H R I h => ?_⟩
  refine Call_ (ld_blt I hg hm boot_enumerate (PyProof.Rows.callWith_type1 (thn (ha.run pos pins s σ H _ I h) fun us s1 ⟨vs, H1, I1, r1, q1⟩ => ?_) hs rfl))
  obtain ⟨a, xs, ex, hq, q⟩ := q1
  subst ex
  cases r1 with
  | cons r rr =>
    cases rr
    cases r
    obtain ⟨its, rv, p', hz⟩ := I1.tuple hq
    have hlt : a < s1.heap.objs.size := by obtain ⟨_, e, _⟩ := p'; exact Heap.lt_size e
    refine call_enumerate_tuple p' fun h' he hit hsz hk => wpAny_pyIter_enum he ?_
    have I2 : Inv X pins σ H1 { s1 with heap := h' } := I1.kept (t' := s1.toks) hk
    refine ⟨s1.heap.objs.size + 1, [s1.heap.objs.size + 1, s1.heap.objs.size], _, _, H1, rfl, I2, turn_enumT a (s1.heap.objs.size + 1) s1.heap.objs.size (Nat.ne_of_lt (Nat.lt_succ_of_lt hlt)), ⟨⟨.none, he⟩, hit, Nat.succ_ne_self _⟩, fun b hb => ?_, q⟩
    have e' : b = s1.heap.objs.size + 1 ∨ b = s1.heap.objs.size := by simpa using hb
    have hle : s1.heap.objs.size ≤ b := by
      rcases e' with z | z
      · rw [z]; exact Nat.le_add_right _ _
      · rw [z]; exact Nat.le_refl _
    exact I1.fpOk hle (I1.hok.fresh hle)
theorem walk_enumT {K : PySem.W.Frag} {a : Addr} {xs : List V} : Walk (IteT K a) xs.length (fun H => SqT K H a xs) (YPair (fun i => some (.int (i : Nat))) (fun i => xs[i]?)) := by
  refine ⟨fun i H hi hG => ⟨xs, xs[i], hG, List.getElem?_eq_getElem hi⟩, fun H hG => ⟨xs, hG, rfl⟩, fun i H x H' hi hG y => ?_⟩
  obtain ⟨T, x, e1, e2, e3, e4⟩ := y
  exact ⟨T, _, x, e1, e2, e3, rfl, e4 xs hG⟩

/-! ### tuple.index of an int -/
theorem flat_ints (ns : List Int) : (ns.map V.int).all flatV = true := by
  rw [List.all_map]
  exact List.all_eq_true.mpr fun _ _ => rfl
theorem mt_tindex {X : Cx} : MtR X "tuple.index" (fun x xs H Q => ∃ p, ∃ ys : List Int, ∃ z j, x = .ref p ∧ xs = [.int z] ∧ SqT X.K H p (ys.map V.int) ∧ ys[j]? = some z ∧ (∀ m, m < j → ys[m]? ≠ some z) ∧ Q (.int (j : Nat)) H) := by
  intro pins s σ H x xs v us Q I rx rs h
  obtain ⟨p, ys, z, j, rfl, rfl, hq, hy, hno, q⟩ := h
  cases rx
  obtain ⟨u, rfl, t, rfl⟩ := vals1 rs
  obtain ⟨its, r, pl, hz⟩ := I.tuple hq
  obtain ⟨⟨cls, dd, dt, sl⟩, ho, hc, n, hd⟩ := pl
  simp only at hc hd
  subst hc
  subst hd
  have hl : its.toArray.size = ys.length := by rw [List.size_toArray, ← r.length, List.length_map]
  have hj : j < its.toArray.size := by rw [hl]; exact (List.getElem?_eq_some_iff.mp hy).1
  have at' : ∀ (m : Nat) (hm : m < its.toArray.size), ∃ y t', ys[m]? = some y ∧ its.toArray[m] = Value.int y t' := fun m hm => by
    have hm' : m < ys.length := by rw [← hl]; exact hm
    obtain ⟨w, hw, t', hw'⟩ := r.get (i := m) (x := .int ys[m]) (by simp [hm'])
    refine ⟨ys[m], t', List.getElem?_eq_getElem hm', ?_⟩
    have e := (List.getElem?_eq_some_iff.mp hw).2
    rw [← hw', ← e]
    simp
  refine call_meets PySem.F.slot_tuple_index ⟨_, ho, rfl⟩ PySem.F.entry_tuple_index (PySem.F.args_tuple_index_2 _ _) (TI.tuple_indexAt p its.toArray n dd sl (.int z t) (eqU (.int z)) j hj ?_ ?_)
    ⟨ho, fun w hw => mem_eqAt (x := .int z) ⟨t, rfl⟩ rfl r (flat_ints ys) w (by simpa using hw), ⟨.int (j : Nat), H, I.tok _, ⟨_, rfl⟩, q⟩⟩
  · obtain ⟨y, t', h1, h2⟩ := at' j hj
    rw [hy] at h1
    cases h1
    rw [h2]
    show (z == z) = true
    exact beq_self_eq_true z
  · intro m hm hmj
    obtain ⟨y, t', h1, h2⟩ := at' m hm
    rw [h2]
    show (y == z) = false
    exact beq_eq_false_iff_ne.mpr fun e => hno m hmj (e ▸ h1)

/-! ### rules by the written part K itself (for a comprehension's block) -/
def rLen (K : PySem.W.Frag) : List V → Hp → VK → Prop := fun xs H Q => ∃ p ys, xs = [.ref p] ∧ (SqL K H p ys ∨ SqT K H p ys) ∧ Q (.int ys.length) H
def rTupOf (K : PySem.W.Frag) : List V → Hp → VK → Prop := fun xs H Q => ∃ p ys, xs = [.ref p] ∧ ((SqL K H p ys ∧ ∀ l, H l = none → Q (.ref l) (upd H l (.tup ys))) ∨ (SqT K H p ys ∧ Q (.ref p) H))
def rListOf (K : PySem.W.Frag) : List V → Hp → VK → Prop := fun xs H Q => ∃ p ys, xs = [.ref p] ∧ (SqL K H p ys ∨ SqT K H p ys) ∧ ∀ l, H l = none → Q (.ref l) (upd H l (.lst ys))
section
variable {X : Cx} {K : PySem.W.Frag}
theorem k_len (hK : X.K = K) : CallR X (.builtin "len") (rLen K) := by subst hK; exact call_len_seq
theorem k_tupOf (hK : X.K = K) : CallR X (.type "tuple") (rTupOf K) := by subst hK; exact call_tuple_of
theorem k_listOf (hK : X.K = K) : CallR X (.type "list") (rListOf K) := by subst hK; exact call_list_of
theorem k_isi (hK : X.K = K) : CallR X (.builtin "isinstance") (rIsi K) := by subst hK; exact call_isi
theorem k_ixT (hK : X.K = K) : IxR X (rIxT K) := by subst hK; exact ix_tup
theorem k_ixL (hK : X.K = K) : IxR X (rIxL K) := by subst hK; exact ix_list
theorem k_slT (hK : X.K = K) : SlR X (rSlA K) := by subst hK; exact sl_tupA
theorem k_catT (hK : X.K = K) : OpR X (binaryOp .Add) (rCatA K) := by subst hK; exact op_catA
theorem k_sumT (hK : X.K = K) (hc : X.calm = true) : CallR X (.builtin "sum") (rSumT K) := by subst hK; exact cr_sumT hc
end

/-! ### a statement, then the rest, with a word between them -/
def tCut (t u : TS) : TS := fun D σ H => ∃ Mid : L2.St → Hp → Prop, t { D with nx := Mid } σ H ∧ ∀ σ' H', Mid σ' H' → u D σ' H'
theorem pss_cut {X : Cx} {st : Stmt} {rest : List Stmt} {t u : TS} (h1 : PS X st t) (h2 : PSs X rest u) : PSs X (st :: rest) (tCut t u) := by
  refine ⟨fun pins s σ H D I h => ?_⟩
  obtain ⟨Mid, hm, hu⟩ := h
  refine wpAny_execs_cons (thn (h1.run pins s σ H { D with nx := Mid } I hm) fun f s1 q => ?_)
  cases f with
  | next =>
    obtain ⟨σ', H', I', q⟩ := q
    exact h2.run pins s1 σ' H' D I' (hu σ' H' q)
  | ret v => exact q
  | brk => exact q
  | cont => exact q

/-! ### a tuple that is known to be plain; its method index -/
def rTupOfZ (K : PySem.W.Frag) : List V → Hp → VK → Prop := fun xs H Q => ∃ p ys, xs = [.ref p] ∧ SqL K H p ys ∧ ∀ l o, H l = none → o.dict = none → Q (.ref l) (upd H l (.frz o (.tup ys)))
theorem k_tupOfZ {X : Cx} {K : PySem.W.Frag} (hK : X.K = K) : CallR X (.type "tuple") (rTupOfZ K) := by
  subst hK
  intro pins s σ H xs us Q I r h
  obtain ⟨p, ys, rfl, hq, q⟩ := h
  obtain ⟨u, rfl, rx⟩ := vals1 r
  cases rx
  obtain ⟨its, r', pl, hz⟩ := I.list hq
  have hlen := r'.length
  refine call_tuple_list pl.isList (fun h' kp => ?_) (by simp only [List.size_toArray] <;> omega)
  have I1 : Inv X pins σ H { s with heap := h' } := I.kept (t' := s.toks) kp
  have I2 : Inv X pins σ (upd H h'.objs.size (.frz { cls := .type "tuple", data := .seq its.toArray } (.tup ys))) { s with heap := h'.push { cls := .type "tuple", data := .seq its.toArray } } :=
    I1.laid (t' := s.toks) (fun b o e => Heap.get?_push_of_some _ e) (Nat.le_refl _) (show ObjOk X.prog X.w _ _ _ (.frz _ (.tup ys)) from ⟨Heap.get?_push_size _ rfl, hz, its, r', IsTup.new _ _⟩)
  exact ⟨.ref h'.objs.size, _, I2, rfl, q _ _ (I1.hok.fresh (Nat.le_refl _)) rfl⟩
def tTM (r : V → List V → Hp → VK → Prop) (to : TE) (t : TA) : TE := fun σ H Q => to σ H fun x H1 => (∃ a ob xs, x = .ref a ∧ H1 a = some (.frz ob (.tup xs)) ∧ ob.dict = none) ∧ t σ H1 fun xs H2 => r x xs H2 Q
theorem pe_tm {X : Cx} {o e : Expr} {es : List Expr} {to : TE} {t : TA} {name : Str} {apos cpos : Pos} {id : String} {r : V → List V → Hp → VK → Prop} (slot : Slot "tuple" name id) (hty : typeOf (.builtin id) = pure (.type "method_descriptor")) (hm : MtR X id r) (ho : PE X o to) (ha : PA X (e :: es) t)
    (hbase : attributeBase o name X.env (eval o X.env) = eval o X.env := by rfl)
    (hfew : ((backTo cpos (starEach (e :: es) X.env)).all (fun x => !x.1) && (backToKw cpos (keywordEach [] X.env)).all (fun x => x.1.isSome)
      && decide ((e :: es).length + ([] : List Keyword).length + (if ([] : List Keyword).isEmpty then 0 else 1) < 30)) = true := by rfl)
    (hline : (apos.endLine == cpos.line) = true := by rfl) (hs : starEach (e :: es) X.env = (false, eval e X.env) :: starEach es X.env := by rfl) (hplain : (backTo cpos (starEach es X.env)).any (·.1) = false := by rfl) :
    PE X (.Call (.Attribute o name apos) (e :: es) [] cpos) (tTM r to t) := by
  refine ⟨fun pins s σ H Q I h => ?_⟩
  refine wpAny_Call_method_late hbase hfew hline rfl (thn (ho.run pins s σ H _ I h) fun v s1 ⟨x, H1, I1, r1, ty, q1⟩ => ?_)
  obtain ⟨a, ob, xs, rfl, hf, hd⟩ := ty
  cases r1
  obtain ⟨hg, hz, its, rv, o', ho', hc, _⟩ := (show ObjOk X.prog X.w H1 s1.heap a (.frz ob (.tup xs)) from I1.hok a _ hf)
  have hc' : ob.cls = .type "tuple" := by rw [hg] at ho'; cases ho'; exact hc
  refine ⟨"tuple", id, PySem.F.plainAttrs_tuple, slot, hty, ⟨ob, hg, hc'⟩, fun b e => by cases e; exact ⟨ob, hg, hd⟩, ?_⟩
  have hA := ha.run cpos pins s1 σ H1 _ I1 q1
  rw [hs] at hA ⊢
  refine Calls.callWith_builtin (by show (false || (backTo cpos (starEach es X.env)).any (·.1)) = false; rw [hplain] <;> rfl) (Calls.evalArgs_plain ?_)
  exact thn hA fun us s2 ⟨vs, H2, I2, r2, q2⟩ => hm pins s2 σ H2 (.ref a) vs (.ref a) us Q I2 rfl r2 q2

/-! ### places in the text -/
def xAsg : Stmt → Expr
  | .Assign _ e _ => e
  | _ => .Constant .none 0 ⟨0, 0, 0, 0⟩
def xArg (i : Nat) : Expr → Expr
  | .Call _ as _ _ => as.getD i (.Constant .none 0 ⟨0, 0, 0, 0⟩)
  | _ => .Constant .none 0 ⟨0, 0, 0, 0⟩
def xLcSc : Expr → Scope
  | .ListComp _ _ sc _ => sc
  | _ => { kind := .function, names := [], isGenerator := false, isCoroutine := false }
/-! ### readings are monotone -/
theorem mono_pair {K : PySem.W.Frag} {n i j : Nat} (x : V) (σ' : L2.St) (H' : Hp) (Q Q' : L2.St → Hp → Prop) (h : ∀ a b, Q a b → Q' a b) (e : gTup K n (gCons (gName i) (gCons (gName j) gNil)) x σ' H' Q) : gTup K n (gCons (gName i) (gCons (gName j) gNil)) x σ' H' Q' := by
  obtain ⟨a, xs, e1, e2, e3, v, r, e4, v', r', e5, e6, q⟩ := e
  exact ⟨a, xs, e1, e2, e3, v, r, e4, v', r', e5, e6, h _ _ q⟩

section
variable {X : Cx} {K : PySem.W.Frag}
theorem k_piL {tg l : Expr} {tl : TE} (hK : X.K = K) (hl : PE X l tl) : PI X tg l (iList K tl) := by subst hK; exact pi_list hl
theorem k_piT {tg l : Expr} {tl : TE} (hK : X.K = K) (hl : PE X l tl) : PI X tg l (iTup K tl) := by subst hK; exact pi_tup hl
theorem k_pgT2 {x y : Str} {px py : Pos} {k : Nat} {pos : Pos} {t1 t2 : TG} (hK : X.K = K) (hc : X.calm = true) (h1 : PG X (.Name x px) t1) (h2 : PG X (.Name y py) t2) : PG X (.Tuple [.Name x px, .Name y py] k pos) (gTup K 2 (gCons t1 (gCons t2 gNil))) := by
  subst hK
  exact pg_tup hc (pgs_cons h1 (pgs_cons h2 pgs_nil))
end
end MB

set_option maxHeartbeats 4000000
namespace MB
open PySem PySem.Spec PyProof.Rows L2

/-! ### heaps -/
theorem same_upd {H : Hp} {p : Addr} {o : HO} (h : H p = none) : Same H (upd H p o) := fun b x e => by
  rw [upd_ne (ne_of_none e h)]
  exact e
/-- an object that was not tracked may change -/
theorem Same.mut {H H' : Hp} {p : Addr} {o : HO} (s : Same H H') (h : H p = none) : Same H (upd H' p o) := fun b x e => by
  rw [upd_ne (ne_of_none e h)]
  exact s _ _ e
theorem Same.tup {K : PySem.W.Frag} {H H' : Hp} {a : Addr} {xs : List V} (e : Same H H') (h : SqT K H a xs) : SqT K H' a xs := by
  rcases h with (h | ⟨o, h⟩) | h
  · exact .inl (.inl (e _ _ h))
  · exact .inl (.inr ⟨o, e _ _ h⟩)
  · exact .inr h
theorem Same.tupF {K : PySem.W.Frag} {H H' : Hp} {a : Addr} {o : Obj} {xs : List V} (e : Same H H') (h : H a = some (.frz o (.tup xs))) : SqT K H' a xs := .inl (.inr ⟨o, e _ _ h⟩)
theorem Dp.same {K : PySem.W.Frag} {H H' : Hp} (e : Same H H') : ∀ {v : V} {d : PyData}, Dp K H v d → Dp K H' v d := by
  intro v d h
  refine Dp.rec (motive_1 := fun v d _ => Dp K H' v d) (motive_2 := fun vs ds _ => DpAll K H' vs ds) ?_ ?_ ?_ ?_ ?_ ?_ ?_ ?_ h
  · exact .non
  · intro b; exact .bl b
  · intro i; exact .int i
  · intro x; exact .str x
  · intro a xs ds hs _ ih; exact .lst (e.seq hs) ih
  · intro a xs ds hs _ ih; exact .tup (Same.tup e hs) ih
  · exact .nil
  · intro v vs d ds _ _ h1 h2; exact .cons h1 h2
theorem DpAll.get {K : PySem.W.Frag} {H : Hp} : ∀ {vs : List V} {ds : List PyData}, DpAll K H vs ds → ∀ {i : Nat} {d : PyData}, ds[i]? = some d → ∃ v, vs[i]? = some v ∧ Dp K H v d
  | _, _, .nil, i, d, h => by simp at h
  | _, _, .cons a b, 0, d, h => by
    simp at h; subst h
    exact ⟨_, rfl, a⟩
  | _, _, .cons a b, i + 1, d, h => by
    obtain ⟨v, h1, h2⟩ := DpAll.get b (i := i) (d := d) (by simpa using h)
    exact ⟨v, by simpa using h1, h2⟩
theorem DpAll.len {K : PySem.W.Frag} {H : Hp} : ∀ {vs : List V} {ds : List PyData}, DpAll K H vs ds → vs.length = ds.length
  | _, _, .nil => rfl
  | _, _, .cons a b => by simp [DpAll.len b]
theorem DpAll.take {K : PySem.W.Frag} {H : Hp} : ∀ {vs : List V} {ds : List PyData} (n : Nat), DpAll K H vs ds → DpAll K H (vs.take n) (ds.take n)
  | _, _, 0, _ => .nil
  | _, _, _ + 1, .nil => .nil
  | _, _, n + 1, .cons a b => .cons a (DpAll.take n b)
theorem DpAll.append {K : PySem.W.Frag} {H : Hp} : ∀ {vs ws : List V} {ds es : List PyData}, DpAll K H vs ds → DpAll K H ws es → DpAll K H (vs ++ ws) (ds ++ es)
  | _, _, _, _, .nil, s => s
  | _, _, _, _, .cons a b, s => .cons a (DpAll.append b s)
theorem DpAll.same {K : PySem.W.Frag} {H H' : Hp} (e : Same H H') : ∀ {vs : List V} {ds : List PyData}, DpAll K H vs ds → DpAll K H' vs ds
  | _, _, .nil => .nil
  | _, _, .cons a b => .cons (Dp.same e a) (DpAll.same e b)
theorem dp_ints {K : PySem.W.Frag} {H : Hp} : ∀ ns : List Int, DpAll K H (ns.map V.int) (ns.map PyData.int)
  | [] => .nil
  | n :: ns => .cons (.int n) (dp_ints ns)
theorem ty_tup {K : PySem.W.Frag} {H : Hp} {a : Addr} {xs : List V} (h : SqT K H a xs) : TyX K H (.ref a) (.type "tuple") := by
  rcases h with (h | ⟨o, h⟩) | ⟨o, its, n, h, hc, _⟩
  · exact .base (.tup h)
  · exact .fTuple h
  · exact .kTuple h hc

/-! ### lists of numbers -/
def vi (p : List Nat) : List V := p.map fun (m : Nat) => V.int (m : Int)
def ci (p : List Nat) : List Int := p.map fun (m : Nat) => (m : Int)
theorem vi_ci (p : List Nat) : vi p = (ci p).map V.int := by simp [vi, ci]
theorem vi_len (p : List Nat) : (vi p).length = p.length := by simp [vi]
theorem vi_get {p : List Nat} {i m : Nat} (h : p[i]? = some m) : (vi p)[i]? = some (.int (m : Int)) := by simp [vi, h]
theorem vi_app (p q : List Nat) : vi (p ++ q) = vi p ++ vi q := by simp [vi]
theorem at_vi {p : List Nat} {i m : Nat} (h : p[i]? = some m) : atI (vi p) (i : Int) = some (.int (m : Int)) := atI_nat (vi_get h)
theorem sz60 {n : Nat} (h : n ≤ 100000) : n ≤ sizeLine := Nat.le_trans h (by decide)
theorem sz61 {n : Nat} (h : n ≤ 100000) : n < sizeLine := Nat.lt_of_le_of_lt h (by decide)
theorem decT {c : Prop} [Decidable c] (h : c) {A B : Prop} (a : A) : if decide c = true then A else B := by
  rw [if_pos (decide_eq_true h)]; exact a
theorem decF {c : Prop} [Decidable c] (h : ¬ c) {A B : Prop} (b : B) : if decide c = true then A else B := by
  rw [if_neg (by simp [h])]; exact b

/-! ### data of tuples: no list within -/
inductive Tf : PyData → Prop
  | non : Tf .none
  | bl (b : Bool) : Tf (.bool b)
  | int (i : Int) : Tf (.int i)
  | str (x : Str) : Tf (.str x)
  | tup {ds : List PyData} : (∀ d, d ∈ ds → Tf d) → Tf (.tuple ds)
theorem Tf.items {ds : List PyData} (h : Tf (.tuple ds)) : ∀ d, d ∈ ds → Tf d := by
  cases h with
  | tup h => exact h
theorem tf_ints (ns : List Int) : ∀ d, d ∈ ns.map PyData.int → Tf d := fun d h => by
  obtain ⟨i, _, rfl⟩ := List.mem_map.mp h
  exact .int i
/-- all tuples stay -/
def Keep (K : PySem.W.Frag) (H H' : Hp) : Prop := ∀ a xs, SqT K H a xs → SqT K H' a xs
theorem Keep.of {K : PySem.W.Frag} {H H' : Hp} (s : Same H H') : Keep K H H' := fun _ _ h => Same.tup s h
theorem Keep.trans {K : PySem.W.Frag} {H H1 H2 : Hp} (a : Keep K H H1) (b : Keep K H1 H2) : Keep K H H2 := fun _ _ h => b _ _ (a _ _ h)
theorem Keep.refl {K : PySem.W.Frag} {H : Hp} : Keep K H H := fun _ _ h => h
/-- all but the list at l stay -/
def But (l : Addr) (H H' : Hp) : Prop := ∀ b o, b ≠ l → H b = some o → H' b = some o
theorem But.refl {l : Addr} {H : Hp} : But l H H := fun _ _ _ h => h
theorem But.trans {l : Addr} {H H1 H2 : Hp} (a : But l H H1) (b : But l H1 H2) : But l H H2 := fun c o n h => b c o n (a c o n h)
theorem But.of {l : Addr} {H H' : Hp} (s : Same H H') : But l H H' := fun c o _ h => s c o h
theorem But.upd {l : Addr} {H : Hp} {o : HO} : But l H (L2.upd H l o) := fun c u n h => by rw [upd_ne n]; exact h
theorem But.keep {K : PySem.W.Frag} {l : Addr} {H H' : Hp} {ys : List V} (s : But l H H') (hl : H l = some (.lst ys)) : Keep K H H' := fun a xs h => by
  rcases h with (h | ⟨o, h⟩) | h
  · exact .inl (.inl (s _ _ (fun e => by rw [e, hl] at h; cases h) h))
  · exact .inl (.inr ⟨o, s _ _ (fun e => by rw [e, hl] at h; cases h) h⟩)
  · exact .inr h
theorem But.same {l : Addr} {H0 H H' : Hp} (s : Same H0 H) (b : But l H H') (n : H0 l = none) : Same H0 H' := fun c o e => b c o (ne_of_none e n) (s c o e)
theorem Dp.keep {K : PySem.W.Frag} {H H' : Hp} (e : Keep K H H') : ∀ {v : V} {d : PyData}, Tf d → Dp K H v d → Dp K H' v d := by
  intro v d t h
  refine Dp.rec (motive_1 := fun v d _ => Tf d → Dp K H' v d) (motive_2 := fun vs ds _ => (∀ d, d ∈ ds → Tf d) → DpAll K H' vs ds) ?_ ?_ ?_ ?_ ?_ ?_ ?_ ?_ h t
  · intro _; exact .non
  · intro b _; exact .bl b
  · intro i _; exact .int i
  · intro x _; exact .str x
  · intro a xs ds hs _ ih t; cases t
  · intro a xs ds hs _ ih t; exact .tup (e _ _ hs) (ih t.items)
  · intro _; exact .nil
  · intro v vs d ds _ _ h1 h2 t; exact .cons (h1 (t _ (List.mem_cons_self ..))) (h2 fun d hd => t d (List.mem_cons_of_mem _ hd))
theorem DpAll.keep {K : PySem.W.Frag} {H H' : Hp} (e : Keep K H H') : ∀ {vs : List V} {ds : List PyData}, (∀ d, d ∈ ds → Tf d) → DpAll K H vs ds → DpAll K H' vs ds
  | _, _, _, .nil => .nil
  | _, _, t, .cons a b => .cons (Dp.keep e (t _ (List.mem_cons_self ..)) a) (DpAll.keep e (fun d hd => t d (List.mem_cons_of_mem _ hd)) b)
theorem dp_ints_inv {K : PySem.W.Frag} {H : Hp} : ∀ {ns : List Int} {vs : List V}, DpAll K H vs (ns.map PyData.int) → vs = ns.map V.int
  | [], _, .nil => rfl
  | n :: ns, _, .cons a b => by
    cases a
    rw [dp_ints_inv b]
    rfl
theorem Dp.tupInv {K : PySem.W.Frag} {H : Hp} {v : V} {ds : List PyData} (h : Dp K H v (.tuple ds)) : ∃ a xs, v = .ref a ∧ SqT K H a xs ∧ DpAll K H xs ds := by
  cases h with
  | tup h1 h2 => exact ⟨_, _, rfl, h1, h2⟩
theorem Dp.intsInv {K : PySem.W.Frag} {H : Hp} {v : V} {ns : List Int} (h : Dp K H v (.tuple (ns.map PyData.int))) : ∃ a, v = .ref a ∧ SqT K H a (ns.map V.int) := by
  obtain ⟨a, xs, e, h1, h2⟩ := Dp.tupInv h
  rw [dp_ints_inv h2] at h1
  exact ⟨a, e, h1⟩

/-! ### a comprehension that gives an item at each turn -/
theorem lc_all {K : PySem.W.Frag} {J : It} {n : Nat} {G : Hp → Prop} {Y : Nat → Hp → V → Hp → Prop} (w : Walk J n G Y) {g : TG} {tt : TT} {te : TE} {vs : List Nat} {σ : L2.St} {H1 : Hp} {D : Addr} {Qd : Hp → Prop}
    (ds : List PyData) (hl : ds.length = n) (ht : ∀ d, d ∈ ds → Tf d) (hn : n ≤ 1000) (hD : H1 D = none) (hG : ∀ H, Same H1 H → G H)
    (hs : ∀ i x H H', i < n → Same H1 H → Y i H x H' → ∀ d, ds[i]? = some d → ∀ R : V → Hp → Prop, (∀ y H4, Same H H4 → Dp K H4 y d → R y H4) →
      g x (wipe σ vs) H' fun σ2 H2 => wipe σ2 vs = wipe σ vs ∧ tt σ2 H2 fun b H3 => b = true ∧ te σ2 H3 R)
    (hd : ∀ H acc, Same H1 H → H D = some (.lst acc) → DpAll K H acc ds → Qd H)
    (mg : ∀ x σ' H' (Q Q' : L2.St → Hp → Prop), (∀ a b, Q a b → Q' a b) → g x σ' H' Q → g x σ' H' Q') (mt : ∀ σ' H' (Q Q' : Bool → Hp → Prop), (∀ a b, Q a b → Q' a b) → tt σ' H' Q → tt σ' H' Q') :
    ∃ W : Nat → Nat → Hp → Prop, (∃ m, W 0 m (upd H1 D (.lst []))) ∧ ∀ i m H, W i m H →
      (J.stop i H ∧ Qd H) ∨ (J.go i H ∧ ∃ Nx : Hp → Prop, (∀ H', Nx H' → ∃ m', m' < m ∧ W (i + 1) m' H') ∧ ∀ x H', J.yld i H x H' → g x (wipe σ vs) H' fun σ2 H2 => wipe σ2 vs = wipe σ vs ∧ tt σ2 H2 fun b H3 =>
        if b = true then te σ2 H3 fun y H4 => ∃ acc, H4 D = some (.lst acc) ∧ acc.length < sizeLine ∧ Nx (upd H4 D (.lst (acc ++ [y]))) else Nx H3) := by
  refine lc_it w (fun i H => Same H1 H ∧ ∃ acc, H D = some (.lst acc) ∧ DpAll K H acc (ds.take i)) ⟨same_upd hD, [], upd_same, .nil⟩ (fun i H _ h => hG H h.1) ?_ ?_
  · rintro i x H H' hi ⟨s1, acc, ha, hA⟩ hy
    have hd' : ds[i]? = some ds[i] := List.getElem?_eq_getElem (by omega)
    have hlen := DpAll.len hA
    rw [List.length_take] at hlen
    refine mg _ _ _ _ _ ?_ (hs i x H H' hi s1 hy ds[i] hd' (fun y H4 => ∃ acc, H4 D = some (.lst acc) ∧ acc.length < sizeLine ∧ (Same H1 (upd H4 D (.lst (acc ++ [y]))) ∧ ∃ acc', (upd H4 D (.lst (acc ++ [y]))) D = some (.lst acc') ∧ DpAll K (upd H4 D (.lst (acc ++ [y]))) acc' (ds.take (i + 1)))) ?_)
    · rintro σ2 H2 ⟨h1, h2⟩
      refine ⟨h1, mt _ _ _ _ ?_ h2⟩
      rintro b H3 ⟨rfl, h3⟩
      exact iteT h3
    · intro y H4 s4 hy4
      refine ⟨acc, s4 _ _ ha, sz61 (by omega), Same.mut (s1.trans s4) hD, acc ++ [y], upd_same, ?_⟩
      have kp : Keep K H4 (upd H4 D (.lst (acc ++ [y]))) := But.keep But.upd (s4 _ _ ha)
      rw [List.take_add_one, hd']
      refine DpAll.keep kp (fun d h => ?_) (DpAll.append (DpAll.same s4 hA) (.cons hy4 .nil))
      rcases List.mem_append.mp h with h | h
      · exact ht d (List.mem_of_mem_take h)
      · have e : d = ds[i] := by simpa using h
        rw [e]; exact ht _ (List.getElem_mem ..)
  · rintro H ⟨s1, acc, ha, hA⟩
    rw [List.take_of_length_le (by omega)] at hA
    exact hd H acc s1 ha hA

/-! ### tuples cut and joined -/
theorem cut_to {xs : List V} {k : Nat} (h : k ≤ xs.length) : cutV xs none (some (k : Int)) = xs.take k := by
  unfold cutV
  rw [HT.sIx_none, HT.sIx_nat, Nat.min_eq_left h]
  simp
theorem cut_from {xs : List V} {k : Nat} (h : k ≤ xs.length) : cutV xs (some (k : Int)) none = xs.drop k := by
  unfold cutV
  rw [HT.sIx_none, HT.sIx_nat, Nat.min_eq_left h]
  rw [List.take_of_length_le (by rw [List.length_drop]; omega)]
theorem sl_read {K : PySem.W.Frag} {H : Hp} {a : Addr} {xs : List V} {lo hi : Option Int} {Q : VK} (h : SqT K H a xs) (q : ∀ p H', Same H H' → SqT K H' p (cutV xs lo hi) → Q (.ref p) H') : rSlA K (.ref a) lo hi H Q := by
  refine ⟨a, xs, rfl, h, fun e => q a H (Same.refl H) ?_, fun _ p hp => q p _ (same_upd hp) (.inl (.inl upd_same))⟩
  unfold cutV
  rw [e.1, e.2]
  simpa using h
theorem cat_read {K : PySem.W.Frag} {H : Hp} {a b : Addr} {xs ys : List V} {Q : VK} (ha : SqT K H a xs) (hb : SqT K H b ys) (hz : xs.length + ys.length ≤ 100000) (q : ∀ p H', Same H H' → SqT K H' p (xs ++ ys) → Q (.ref p) H') : rCatA K (.ref a) (.ref b) H Q := by
  refine ⟨a, b, xs, ys, rfl, rfl, ha, hb, sz60 hz, fun e => q b H (Same.refl H) ?_, fun _ e => q a H (Same.refl H) ?_, fun _ _ p hp => q p _ (same_upd hp) (.inl (.inl upd_same))⟩
  · rw [e]; exact hb
  · rw [e, List.append_nil]; exact ha
theorem DpAll.snoc {K : PySem.W.Frag} {H : Hp} : ∀ {vs : List V} {ds : List PyData} {d : PyData}, DpAll K H vs (ds ++ [d]) → ∃ us v, vs = us ++ [v] ∧ DpAll K H us ds ∧ Dp K H v d
  | _, [], _, .cons a .nil => ⟨[], _, rfl, .nil, a⟩
  | _, _ :: ds, _, .cons a b => by
    obtain ⟨us, v, e, h1, h2⟩ := DpAll.snoc b
    exact ⟨_ :: us, v, by rw [e]; rfl, .cons a h1, h2⟩
theorem ixN_of {n j : Nat} (hj : j < n) : ixN n (j : Int) = some j := by
  unfold ixN
  rw [if_pos (by omega), if_pos (by omega)]
  simp
theorem vi_set (c : List Nat) (k v : Nat) : (vi c).set k (.int (v : Int)) = vi (c.set k v) := by
  unfold vi
  rw [List.map_set]
theorem vi_rep (n v : Nat) : vi (List.replicate n v) = List.replicate n (.int (v : Int)) := by simp [vi]

/-! ### [x for x in range(lo, hi) if ..] -/
theorem lc_fil {lo : Int} {n j : Nat} {vs : List Nat} {σ : L2.St} {H1 : Hp} {D : Addr} {Qd : Hp → Prop} {tt : TT} (f : Nat → Bool) (hn : n ≤ 1000) (hD : H1 D = none)
    (hw : ∀ x, wipe ((wipe σ vs).set j (some x)) vs = wipe σ vs) (hj : ∀ x : V, ((wipe σ vs).set j (some x))[j]? = some (some x))
    (ht : ∀ (i : Nat) H (Q : Bool → Hp → Prop), i < n → Same H1 H → Q (f i) H → tt ((wipe σ vs).set j (some (.int (lo + (i : Nat))))) H Q)
    (hd : ∀ H, Same H1 H → H D = some (.lst (((List.range n).filter f).map fun (i : Nat) => V.int (lo + (i : Nat)))) → Qd H) :
    ∃ W : Nat → Nat → Hp → Prop, (∃ m, W 0 m (upd H1 D (.lst []))) ∧ ∀ i m H, W i m H →
      ((Itr lo n).stop i H ∧ Qd H) ∨ ((Itr lo n).go i H ∧ ∃ Nx : Hp → Prop, (∀ H', Nx H' → ∃ m', m' < m ∧ W (i + 1) m' H') ∧ ∀ x H', (Itr lo n).yld i H x H' → gName j x (wipe σ vs) H' fun σ2 H2 => wipe σ2 vs = wipe σ vs ∧ tt σ2 H2 fun b H3 =>
        if b = true then tVar j σ2 H3 fun y H4 => ∃ acc, H4 D = some (.lst acc) ∧ acc.length < sizeLine ∧ Nx (upd H4 D (.lst (acc ++ [y]))) else Nx H3) := by
  refine lc_range (lo := lo) (n := n) (fun i H => Same H1 H ∧ H D = some (.lst (((List.range i).filter f).map fun (i : Nat) => V.int (lo + (i : Nat))))) ⟨same_upd hD, upd_same⟩ ?_ ?_
  · rintro i H hi ⟨s1, h1⟩
    refine ⟨hw _, ht i H _ hi s1 ?_⟩
    have hlen : (((List.range i).filter f).map fun (i : Nat) => V.int (lo + (i : Nat))).length ≤ i := by
      rw [List.length_map]
      have := List.length_filter_le f (List.range i)
      rw [List.length_range] at this
      exact this
    by_cases hf : f i = true
    · rw [hf]
      refine iteT ⟨_, hj _, _, h1, sz61 (by omega), Same.mut s1 hD, ?_⟩
      rw [List.range_succ, List.filter_append, List.map_append]
      simp only [List.filter_cons, hf, if_true, List.filter_nil, List.map_cons, List.map_nil]
      exact upd_same
    · have hf' : f i = false := by simpa using hf
      rw [hf']
      refine iteF ⟨s1, ?_⟩
      rw [List.range_succ, List.filter_append, List.map_append]
      simpa [hf'] using h1
  · rintro H ⟨s1, h1⟩
    exact hd H s1 h1
theorem iteB1 {b : Bool} {A B : Prop} (h : b = true) (a : A) : if b = true then A else B := by rw [if_pos h]; exact a
theorem iteB0 {b : Bool} {A B : Prop} (h : b = false) (a : B) : if b = true then A else B := by rw [if_neg (by rw [h]; decide)]; exact a

/-! ### deep comparisons -/
theorem lay_all : ∀ {ds : List PyData}, (∀ d, d ∈ ds → d.canLay0 = true) → PyData.canLayAll0 ds = true
  | [], _ => by simp [PyData.canLayAll0]
  | d :: ds, h => by
    simp only [PyData.canLayAll0]
    rw [h d (List.mem_cons_self ..), lay_all fun e he => h e (List.mem_cons_of_mem _ he)]; rfl
theorem dep_all {k : Nat} : ∀ {ds : List PyData}, (∀ d, d ∈ ds → d.depth ≤ k) → PyData.depthAll ds ≤ k
  | [], _ => by simp [PyData.depthAll]
  | d :: ds, h => by
    simp only [PyData.depthAll]
    have h1 := h d (List.mem_cons_self ..)
    have h2 := dep_all (k := k) fun e he => h e (List.mem_cons_of_mem _ he)
    omega
/-- plain data of at most so many levels -/
def Sh (k : Nat) (d : PyData) : Prop := d.canLay0 = true ∧ d.depth ≤ k
theorem Sh.shaped {k : Nat} {d : PyData} (h : Sh k d) (hk : k ≤ 64) : SeqAt.shaped d = true := by
  unfold SeqAt.shaped
  rw [h.1, decide_eq_true (by have := h.2; omega)]; rfl
theorem Sh.tup {k : Nat} {ds : List PyData} (h : ∀ d, d ∈ ds → Sh k d) : Sh (k + 1) (.tuple ds) :=
  ⟨by simp only [PyData.canLay0]; exact lay_all fun d hd => (h d hd).1, by simp only [PyData.depth]; have := dep_all (k := k) (ds := ds) fun d hd => (h d hd).2; omega⟩
theorem Sh.lst {k : Nat} {ds : List PyData} (h : ∀ d, d ∈ ds → Sh k d) : Sh (k + 1) (.list ds) :=
  ⟨by simp only [PyData.canLay0]; exact lay_all fun d hd => (h d hd).1, by simp only [PyData.depth]; have := dep_all (k := k) (ds := ds) fun d hd => (h d hd).2; omega⟩
theorem Sh.int (i : Int) {k : Nat} : Sh k (.int i) := ⟨by simp [PyData.canLay0], by simp [PyData.depth]⟩
theorem Sh.ints {k : Nat} (ns : List Int) : ∀ d, d ∈ ns.map PyData.int → Sh k d := fun d h => by
  obtain ⟨i, _, rfl⟩ := List.mem_map.mp h
  exact .int i
theorem eq_data {K : PySem.W.Frag} {H : Hp} {x y : V} {d : PyData} {Q : VK} {k : Nat} (hx : Dp K H x d) (hy : Dp K H y d) (hs : Sh k d) (hk : k ≤ 64) (q : Q (.bl true) H) : rEqD K x y H Q :=
  ⟨d, d, hx, hy, hs.shaped hk, hs.shaped hk, by rw [SeqAt.eqv_refl d hs.1]; exact q⟩
theorem ne_data {K : PySem.W.Frag} {H : Hp} {x y : V} {d : PyData} {Q : VK} {k : Nat} (hx : Dp K H x d) (hy : Dp K H y d) (hs : Sh k d) (hk : k ≤ 64) (q : Q (.bl false) H) : rNeD K x y H Q :=
  ⟨d, d, hx, hy, hs.shaped hk, hs.shaped hk, by rw [SeqAt.eqv_refl d hs.1]; exact q⟩
theorem dp_tup {K : PySem.W.Frag} {H : Hp} {a : Addr} {ns : List Int} (h : SqT K H a (ns.map V.int)) : Dp K H (.ref a) (.tuple (ns.map PyData.int)) := .tup h (dp_ints ns)
theorem ne_ints {K : PySem.W.Frag} {H : Hp} {a b : Addr} {ns : List Int} {Q : VK} (ha : SqT K H a (ns.map V.int)) (hb : SqT K H b (ns.map V.int)) (q : Q (.bl false) H) : rNeD K (.ref a) (.ref b) H Q :=
  ne_data (dp_tup ha) (dp_tup hb) (Sh.tup (k := 0) (Sh.ints ns)) (by decide) q
end MB

set_option maxHeartbeats 4000000
namespace MB
open PySem PySem.Spec PyProof.Rows L2

/-! ### a def called where no repr is under way -/
structure FnG (P : Program) (w : World) (K : PySem.W.Frag) (mg : Str → Option Value) (base : Heap) (CX : CXT) (k : Nat) (f : Addr) (fd : FuncData) (ps : List Str) (sp : Sp) : Prop where
  len : ∀ vs H Q E, sp vs H Q E → vs.length = ps.length
  run : ∀ (A : Around), A.guards = some [] → Room k A → ∀ (outer : List Env) (s : Shared) (H : Hp) (args : Args) (us : List Value) (vs : List V) (Q : VK) (E : XK),
    Env0 P w K mg base A outer s H → BindsTo s fd args (ps.zip us) → Vals vs us → sp vs H Q E → codeAny (model P w) A (.call (.ref f) args) (CR CX outer P w H s Q E) s
section
variable {P : Program} {w : World} {K : PySem.W.Frag} {mg : Str → Option Value} {base : Heap} {CX : CXT} {k : Nat} {f : Addr} {fd : FuncData} {ps : List Str} {sp : Sp}
theorem FnG.of (F : FnOk P w K mg base CX k f fd ps sp) : FnG P w K mg base CX k f fd ps sp :=
  ⟨F.len, fun A _ hr outer s H args us vs Q E => F.run A outer s H args us vs Q E hr⟩
theorem deeper_guards {A : Around} {env : Env} (h : A.guards = some []) : (A.deeper env).guards = some [] := h
theorem fnG_of {name qual : Str} {params : Arguments} {body : List Stmt} {scope : Scope} {dV kV doc pm cdv ct oc : Value} {an od : Option Addr} {osl : Array (Option Value)} {N : List Str}
    (lk : K.lookup f = some ⟨oc, od, .func (PySem.W.fnOf name qual params body scope dV kV doc pm an cdv ct), osl⟩) (hcd : PySem.W.codeIn K cdv qual = true) (S : FnScope N ps scope)
    (len : ∀ vs H Q E, sp vs H Q E → vs.length = ps.length)
    (hbody : ∀ (A : Around), A.guards = some [] → ∀ (outer : List Env) (s : Shared) (H : Hp) (vs : List V) (Q : VK) (E : XK), Room k (A.deeper (envOfC qual scope s.heap.objs.size f cdv)) → sp vs H Q E →
      ∃ t, PSs (cxOf CX P w K mg base N qual scope f cdv A outer s H E) body t ∧ t { nx := fun _ H' => Q .non H', rt := Q } (start N vs) H) :
    FnG P w K mg base CX (k + 1) f (PySem.W.fnOf name qual params body scope dV kV doc pm an cdv ct) ps sp := by
  refine ⟨len, fun A hgd hr outer s H args us vs Q E e0 hb r hsp => ?_⟩
  have kept : ∀ b o, base.get? b = some o → s.heap.get? b = some o := fun b o e => (e0.bs b o e).1
  have KX : K.In s.heap := e0.mod.kin.keeps kept
  obtain ⟨t, ht, hq⟩ := hbody A hgd outer s H vs Q E (hr.deeper _) hsp
  have par : ∀ y ∈ ps.zip us, scope.names.lookup y.1 = some .local ∨ (scope.names.lookup y.1 = some .cell ∧ ((cellsFrom (s.heap.objs.size + 1) scope.names []).lookup y.1).isSome = true) := by
    rintro ⟨n, v⟩ hy
    exact (S.par n (List.of_mem_zip hy).1).imp id fun z => ⟨z, PySem.W.cellsFrom_some _ _ _ (.inl z)⟩
  refine codeAny_call_function hr.depth (KX _ _ lk) rfl S.co S.gen rfl (PySem.W.codeRec_of KX hcd) (hb _ _ _ _ (wpAny_newFunctionEnv_cells S.kind par fun env he s1 x => ?_))
  subst he
  refine ⟨(e0.mod.nolimit.keeps kept).keeps x.toInCall.keep, codeAny_func (wpAny_mono (ht.run [] s1 (start N vs) H _ (inv_start S hr.hd e0 (len _ _ _ _ hsp) r x) hq) (fun fl s' hs => ?_) fun e s' hs => hs)⟩
  rcases fl with _ | _ | _ | u
  · obtain ⟨σ', H', J, q⟩ := hs
    exact ⟨V.non, H', J.os, J.bare, J.base, J.hok, rfl, q⟩
  · exact (let ⟨_, _, _, q⟩ := hs; False.elim q)
  · exact (let ⟨_, _, _, q⟩ := hs; False.elim q)
  · obtain ⟨v, σ', H', J, rv, q⟩ := hs
    exact ⟨v, H', J.os, J.bare, J.base, J.hok, rv, q⟩
theorem Fun.okG {x qual : Str} {st : Stmt} {N : List Str} (F : L2.Fun K x qual st f fd) (S : FnScope N ps (defScope st)) (len : ∀ vs H Q E, sp vs H Q E → vs.length = ps.length)
    (hbody : ∀ (cdv : Value) (A : Around), A.guards = some [] → ∀ (outer : List Env) (s : Shared) (H : Hp) (vs : List V) (Q : VK) (E : XK), Room k (A.deeper (envOfC qual (defScope st) s.heap.objs.size f cdv)) → sp vs H Q E →
      ∃ t, PSs (cxOf CX0 P w K mg base N qual (defScope st) f cdv A outer s H E).nox (defBody st) t ∧ t { nx := fun _ H' => Q .non H', rt := Q } (start N vs) H) : FnG P w K mg base CX0 (k + 1) f fd ps sp := by
  obtain ⟨oc, od, kV, doc, pm, an, cdv, ct, osl, rfl, lk, hcd⟩ := F.ex
  exact fnG_of lk hcd S len fun A hgd outer s H vs Q E hr hsp => let ⟨t, h, q⟩ := hbody cdv A hgd outer s H vs Q E hr hsp; ⟨t, h.nox, q⟩
end
section
variable {X : Cx} {CX : CXT} {k : Nat} {f : Addr} {fd : FuncData} {ps : List Str} {sp : Sp} {ds : List Value} {dvs : List V} {E : XK} {x : Str} {p pos : Pos} {e : Expr} {es : List Expr} {t : TA}
theorem pe_callG (F : FnG X.prog X.w X.K X.mg X.base CX k f fd ps sp) (hgd : X.A.guards = some []) (hr : Room k X.A) (hg : Gl X x) (hm : X.mg x = some (.ref f)) (hk : PySem.W.keepIn X.K (.ref f) = true) (hb : Binds X.K fd ps ds) (hd : Vals dvs ds) (hx : Passes CX X E)
    (ha : PA X (e :: es) t) (hdb : (x == ("__debug__" : Str)) = false := by decide) (he : starEach (e :: es) X.env = (false, eval e X.env) :: starEach es X.env := by rfl) (hpl : (backTo pos (starEach es X.env)).any (·.1) = false := by rfl) :
    PE X (.Call (.Name x p) (e :: es) [] pos) (tCall sp dvs E t) := by
  refine ⟨fun pins s σ H Q I h => wpAny_Call_Name_kw (ld_glob I hg hm (PySem.W.callWith_K (h₀ := X.base) I.ok.mod.kin hk (thn (ha.run pos pins s σ H _ I h) fun us s1 ⟨vs, H1, I1, r, q⟩ => ⟨I1.kIn, ?_⟩) he hpl) hdb)⟩
  have r2 : Vals (vs ++ dvs) (us ++ ds) := r.append hd
  have hl : (us ++ ds).length = ps.length := r2.length.symm.trans (F.len _ _ _ _ q)
  refine wpAny_call (codeAny_mono (F.run X.A hgd hr X.stack s1 H1 ⟨us, []⟩ (us ++ ds) (vs ++ dvs) Q E I1.env0 (hb s1 us I1.kIn hl) r2 q) fun res s' hq => ?_)
  rcases res with e | fl
  · exact hx pins σ H1 s1 e s' I1 hq
  · rcases fl with _ | _ | _ | u
    · exact False.elim hq
    · exact False.elim hq
    · exact False.elim hq
    · exact I1.after hq
end

/-! ### repr of plain data -/
def rReprD (K : PySem.W.Frag) : List V → Hp → VK → Prop := fun xs H Q => ∃ (x : V) (d : PyData), xs = [x] ∧ Dp K H x d ∧ d.canLay0 = true ∧ d.showable = true ∧ d.depth ≤ 60 ∧ d.shown.length ≤ sizeLine ∧ Q (.str d.shown) H
theorem call_reprD {X : Cx} (hgd : X.A.guards = some []) (hu : X.A.units + 64 < cLine) : CallR X (.builtin "repr") (rReprD X.K) := by
  intro pins s σ H xs us Q I r h
  obtain ⟨x, d, rfl, hd, hc, hs, hdep, hz, q⟩ := h
  obtain ⟨u, rfl, rx⟩ := vals1 r
  obtain ⟨as, rd⟩ := Dp.reads I d x u hd rx
  have nd := PyData.hasDict_of_canLay d hc
  have fin : ∀ (h' : Heap) (v tk : Tok), (∀ b o, s.heap.get? b = some o → h'.get? b = some o) → EP X pins σ Q (.str d.shown v) { s with heap := h', toks := tk } := fun h' v tk hk => ⟨.str d.shown, H, I.kept hk, ⟨_, rfl⟩, q⟩
  cases rd with
  | none => exact PySem.P.repr_of_none (fin _ _ _ fun _ _ e => e)
  | bool b =>
    refine PySem.P.repr_of_bool ?_
    cases b <;> exact fin s.heap s.toks (s.toks + 1) fun _ _ e => e
  | int i t => exact PySem.P.repr_of_int (by simpa [PyData.showable] using hs) (fin s.heap s.toks (s.toks + 1) fun _ _ e => e)
  | str y t => exact PySem.P.repr_of_str (fin s.heap s.toks (s.toks + 1) fun _ _ e => e) hz
  | list h1 h2 h3 h4 => exact repr_of_reads' (.list h1 h2 h3 h4) hs (PyData.noDict_hsm nd) hgd (by omega) (fun _ _ e => e) fin hz
  | tuple h1 h2 h3 h4 => exact repr_of_reads' (.tuple h1 h2 h3 h4) hs (PyData.noDict_hsm nd) hgd (by omega) (fun _ _ e => e) fin hz
  | dict h1 h2 h3 h4 h5 => simp [PyData.canLay0] at hc

/-! ### the end: a law whose promise asks that no repr is under way -/
theorem law_callG {P : Program} {w : World} {K : PySem.W.Frag} {mg mb : Str → Option Value} {k : Nat} {fa a : Addr} {fd : FuncData} {x : Str} {sp : Sp} {s₁ : Shared} {vs : List Value} {ns : List Int}
    (KX : K.In s₁.heap) (hns : s₁.heap.Ns mainGlobals mg) (hb : s₁.heap.Ns builtinsNs mb) (hbb : ∀ x : Str, x ≠ "__name__" → mb x = bootBuiltins x) (hlim : s₁.heap.NoLimit) (hg : s₁.gens = #[])
    (ha : s₁.heap.get? a = some { cls := .type "list", data := .seq vs.toArray }) (hi : IntsAre vs ns) (hl : ns.length ≤ sizeLine) (hr : Room k callerA)
    (F : ∀ base : Heap, K.In base → base.Ns mainGlobals mg → FnG P w K mg base CX0 k fa fd [x] sp) (hbind : ∀ (s : Shared) (u : Value), BindsTo s fd ⟨[u], []⟩ [(x, u)])
    (hsp : ∀ H : Hp, SqL K H a (ns.map V.int) → sp [.ref a] H (fun v _ => v = .bl true) fun _ _ _ => False) :
    codeAny (model P w) callerA (.call (.ref fa) ⟨[.ref a], []⟩) (fun r s' => r = .ok (.ret (.bool true)) ∧ OldK s₁.heap s'.heap ∧ s'.os = s₁.os ∧ AllBare s'.gens) s₁ := by
  let oS : Obj := { cls := .type "list", data := .seq vs.toArray }
  -- the script is tracked as it stands, unless it is one of the module's own objects
  let H : Hp := fun b => if b = a ∧ K.lookup a = none then some (.frz oS (.lst (ns.map V.int))) else none
  have rv := vals_ints hi
  have Hsome : ∀ {b : Addr} {o : HO}, H b = some o → b = a ∧ K.lookup a = none ∧ o = .frz oS (.lst (ns.map V.int)) := fun {b o} e => by
    by_cases c : b = a ∧ K.lookup a = none
    · have e' := (if_pos c).symm.trans e
      exact ⟨c.1, c.2, (Option.some.inj e').symm⟩
    · have e' := (if_neg c).symm.trans e
      cases e'
  have free : ∀ {b : Addr}, (∀ z : b = a, K.lookup a ≠ none) → H b = none := fun {b} n => if_neg fun c => n c.1 c.2
  have hS : SqL K H a (ns.map V.int) := by
    cases hk : K.lookup a with
    | none => exact .inl (.inr ⟨oS, if_pos ⟨rfl, hk⟩⟩)
    | some o =>
      have e := (KX a o hk).symm.trans ha
      cases e
      exact .inr ⟨_, vs.toArray, _, hk, rfl, rfl, rfl, by rw [List.size_toArray, hi.length]; exact hl, by simpa using rv⟩
  have hok : HOk P w H s₁.heap := fun b o e => by
    obtain ⟨rfl, _, rfl⟩ := Hsome e
    exact ⟨ha, by rw [List.length_map]; exact hl, vs, _, rv, ha⟩
  have noDict : ∀ {b : Addr} {o : Obj} {es : Array DictEntry} {ep : Nat}, s₁.heap.get? b = some o → o.data = .dict es ep → H b = none := fun {b o es ep} e d => free fun z => by
    subst z
    rw [ha] at e
    cases e
    cases d
  have ns_hid : ∀ {b : Addr} {m : Str → Option Value}, s₁.heap.Ns b m → (hidT s₁.heap H).Ns b m := fun {b m} ⟨o, es, ep, e, d, r⟩ => ⟨o, es, ep, hidT_get e (noDict e d), d, r⟩
  have hKb : K.In (hidT s₁.heap H) := fun b o e => hidT_get (KX b o e) (free fun z => by subst z; rw [e]; exact fun y => nomatch y)
  have hM : Mod K mg (hidT s₁.heap H) := ⟨hKb, ns_hid hns, ⟨mb, ns_hid hb, hbb⟩, let ⟨mc, h1, h2⟩ := hlim; ⟨mc, ns_hid h1, h2⟩⟩
  have e0 : Env0 P w K mg (hidT s₁.heap H) callerA [] s₁ H := ⟨rfl, hM, fun b o e => of_hidT e, Nat.le_of_eq (hidT_size _ _), trivial, (fun b hb => absurd (show b ∈ ([] : List Addr) from hb) (by simp)), hok, .of_eq hg⟩
  refine codeAny_mono ((F _ hKb (ns_hid hns)).run callerA rfl hr [] s₁ H ⟨[.ref a], []⟩ [.ref a] [.ref a] _ _ e0 (hbind s₁ (.ref a)) (.cons rfl .nil) (hsp H hS)) fun r s' h => ?_
  rcases r with e | fl
  · exact False.elim h
  rcases fl with _ | _ | _ | u
  · exact False.elim h
  · exact False.elim h
  · exact False.elim h
  obtain ⟨v, H', os, bare, un, hok', r', q⟩ := h
  have q' : v = .bl true := q
  subst q'
  obtain rfl : u = Value.bool true := r'
  refine ⟨rfl, OldK.of_keep fun b o e => ?_, os, bare⟩
  cases hb' : H b with
  | none => exact un.keep b o e hb' (fun z => absurd (show b ∈ ([] : List Addr) from z) (by simp)) (by simp)
  | some u =>
    obtain ⟨rfl, hk, rfl⟩ := Hsome hb'
    have e2 := (hok' _ _ (un.frzs _ oS _ hb')).1
    rw [ha] at e
    cases e
    exact e2
theorem walk_ofG {l : PySem.W.OpenLaw} {n k : Nat} {q : Program} {loose : List Str} {XP : (Str → Option Value) → Heap → Prop} {YP : World → Heap → Prop} {d : DefRec} {K : Params → PySem.W.Frag} {sp : PySem.W.Frag → Sp} {x : Str}
    (hn : l.most = some n) (hn2 : n ≤ sizeLine) (hdf : d.params.defaults = []) (hr : Room k callerA)
    (hY : ∀ (w : World) (h : Heap), YP w h → (K w.params).In h)
    (F : ∀ (w : World) (mg : Str → Option Value) (fa : Addr) (h : Heap), (K w.params).In h → h.Ns mainGlobals mg → mg d.name = some (.ref fa) →
      ∃ fd : FuncData, (∀ (s : Shared) (u : Value), BindsTo s fd ⟨[u], []⟩ [(x, u)]) ∧
        ∀ base : Heap, (K w.params).In base → base.Ns mainGlobals mg → FnG l.prog w (K w.params) mg base CX0 k fa fd [x] (sp (K w.params)))
    (hsp : ∀ (K : PySem.W.Frag) (H : Hp) (a : Addr) (ns : List Int), ns.length ≤ n → SqL K H a (ns.map V.int) → sp K [.ref a] H (fun v _ => v = .bl true) fun _ _ _ => False) :
    PySem.W.WalkO q loose XP YP l.row.toRowW d [] (fun f vs => PySem.call f vs) :=
  Att.attach_call hn hdf fun w s₀ s₁ mg mb fa o pm cd doc a vs ns G Y ho hd hcd hmg hobj hints hlen hg =>
    have KX := hY w _ Y
    let ⟨fd, hb, hF⟩ := F w mg fa _ KX G.T.g hmg
    law_callG KX G.T.g G.T.b G.T.builtins G.T.nolimit hg hobj hints (Nat.le_trans hlen hn2) hr hF hb fun H hS => hsp _ H a ns hlen hS
end MB

set_option maxHeartbeats 4000000
namespace MB
open PySem PySem.Spec PyProof.Rows L2
/-- data whose repr is asked: levels, size -/
structure Rp (k n : Nat) (d : PyData) : Prop where
  sh : Sh k d
  shw : d.showable = true
  short : d.leavesShort 13 = true
  bulk : d.bulk ≤ n
theorem Rp.mono {k n m : Nat} {d : PyData} (h : Rp k n d) (e : n ≤ m) : Rp k m d := ⟨h.sh, h.shw, h.short, Nat.le_trans h.bulk e⟩
theorem Rp.int {i : Int} {k : Nat} (h : i.natAbs < 1000000) : Rp k 0 (.int i) := by
  refine ⟨.int i, ?_, ?_, by simp [PyData.bulk]⟩
  · simp only [PyData.showable]
    refine decide_eq_true ?_
    by_cases h0 : i.natAbs = 0
    · rw [h0]; decide
    · exact Nat.lt_trans ((Nat.log2_lt h0).mpr (show i.natAbs < 2 ^ 20 by omega)) (by decide)
  · simp only [PyData.leavesShort]
    refine decide_eq_true ?_
    have e := int_text_length_le10 (a := i) (k := 6) (by decide) h
    have e2 : (PyData.shown (.int i)).length = (toString i).length := by
      simp only [PyData.shown]
      exact PySem.ofString_length _
    omega
theorem rp_all {k n : Nat} : ∀ {ds : List PyData}, (∀ d, d ∈ ds → Rp k n d) → PyData.showableAll ds = true ∧ PyData.leavesShortAll 13 ds = true ∧ PyData.bulkAll ds ≤ (n + 1) * ds.length
  | [], _ => ⟨by simp [PyData.showableAll], by simp [PyData.leavesShortAll], by simp [PyData.bulkAll]⟩
  | d :: ds, h => by
    have h1 := h d (List.mem_cons_self ..)
    obtain ⟨a, b, c⟩ := rp_all fun e he => h e (List.mem_cons_of_mem _ he)
    refine ⟨by simp only [PyData.showableAll, h1.shw, a, Bool.and_self], by simp only [PyData.leavesShortAll, h1.short, b, Bool.and_self], ?_⟩
    simp only [PyData.bulkAll, List.length_cons]
    have := h1.bulk
    rw [Nat.mul_add]
    omega
theorem Rp.tup {k n m : Nat} {ds : List PyData} (h : ∀ d, d ∈ ds → Rp k n d) (hm : (n + 1) * ds.length ≤ m) : Rp (k + 1) m (.tuple ds) := by
  obtain ⟨a, b, c⟩ := rp_all h
  exact ⟨Sh.tup fun d hd => (h d hd).sh, by simp only [PyData.showable]; exact a, by simp only [PyData.leavesShort]; exact b, by simp only [PyData.bulk]; omega⟩
theorem Rp.lst {k n m : Nat} {ds : List PyData} (h : ∀ d, d ∈ ds → Rp k n d) (hm : (n + 1) * ds.length ≤ m) : Rp (k + 1) m (.list ds) := by
  obtain ⟨a, b, c⟩ := rp_all h
  exact ⟨Sh.lst fun d hd => (h d hd).sh, by simp only [PyData.showable]; exact a, by simp only [PyData.leavesShort]; exact b, by simp only [PyData.bulk]; omega⟩
theorem Rp.ints {ns : List Int} {k m : Nat} (h : ∀ i, i ∈ ns → i.natAbs < 1000000) (hm : ns.length ≤ m) : Rp (k + 1) m (.tuple (ns.map PyData.int)) :=
  Rp.tup (n := 0) (fun d hd => by obtain ⟨i, hi, rfl⟩ := List.mem_map.mp hd; exact .int (h i hi)) (by rw [List.length_map]; omega)
theorem Rp.bool {b : Bool} {k : Nat} : Rp k 0 (.bool b) := ⟨⟨by simp [PyData.canLay0], by simp [PyData.depth]⟩, by simp [PyData.showable], by simp [PyData.leavesShort], by simp [PyData.bulk]⟩
/-- repr(x), by data -/
theorem repr_read {K : PySem.W.Frag} {H : Hp} {x : V} {d : PyData} {Q : VK} {k n : Nat} (hd : Dp K H x d) (hs : Rp k n d) (hk : k ≤ 60) (hn : n ≤ 1048576) (q : Q (.str d.shown) H) : rReprD K [x] H Q :=
  ⟨x, d, rfl, hd, hs.sh.1, hs.shw, Nat.le_trans hs.sh.2 hk, PyData.shown_fits_bulk (B := 13) (by decide) (by decide) hs.short (Nat.le_trans hs.bulk (by omega)), q⟩
theorem Rp.all {k n : Nat} {d : PyData} (hs : Rp k n d) (hk : k ≤ 60) (hn : n ≤ 1048576) : d.canLay0 = true ∧ d.showable = true ∧ d.depth ≤ 60 ∧ d.shown.length ≤ sizeLine :=
  ⟨hs.sh.1, hs.shw, Nat.le_trans hs.sh.2 hk, PyData.shown_fits_bulk (B := 13) (by decide) (by decide) hs.short (Nat.le_trans hs.bulk (by omega))⟩
end MB

set_option maxHeartbeats 4000000
namespace MB
open PySem PySem.Spec PyProof.Rows L2

/-! ### f(p = v), no value by position -/
def gK {α : Type} (us ws : List α) : List α := match us with
  | [] => ws
  | _ :: _ => []
section
variable {X : Cx} {CX : CXT} {k : Nat} {f : Addr} {fd : FuncData} {ps ks : List Str} {sp : Sp} {E : XK} {x : Str} {p pos : Pos} {kws : List Keyword} {tk : TA} {g : List Value → List Value → List Value} {gV : List V → List V → List V}
theorem pe_callK0 (F : FnOk X.prog X.w X.K X.mg X.base CX k f fd ps sp) (hr : Room k X.A) (hg : Gl X x) (hm : X.mg x = some (.ref f)) (hk : PySem.W.keepIn X.K (.ref f) = true) (hb : KBinds X.K fd ps ks g gV) (hx : Passes CX X E)
    (hkw : PK X kws tk) (hall : (backToKw pos (keywordEach kws X.env)).all (·.1.isSome) = true := by rfl) (hks : (backToKw pos (keywordEach kws X.env)).filterMap (·.1) = ks := by rfl)
    (hdb : (x == ("__debug__" : Str)) = false := by decide)
    (hpl : ((backTo pos (starEach [] X.env)).any (·.1) || (backToKw pos (keywordEach kws X.env)).any (·.1.isNone)) = false := by rfl) :
    PE X (.Call (.Name x p) [] kws pos) (tCallK sp gV E tNil tk) := by
  refine ⟨fun pins s σ H Q I h => ?_⟩
  refine wpAny_Call_Name_kw (ld_glob I hg hm ?_ hdb)
  refine PySem.W.callWith_KW0 (h₀ := X.base) I.ok.mod.kin hk hall ?_ hpl
  refine thn (hkw.run pos pins s σ H _ I h) fun ws s2 ⟨zs, H2, I2, rz, q2⟩ => ⟨I2.kIn, ?_⟩
  rw [hks]
  exact run_fnk (us := []) (vs := []) F hr hb hx I2 .nil rz q2
end
theorem kb1 {K : PySem.W.Frag} {x qual : Str} {st : Stmt} {f : Addr} {fd : FuncData} {q : Str} (F : L2.Fun K x qual st f fd)
    (h : ∀ (kV doc pm : Value) (an : Option Addr) (cdv ct u : Value), bindArgs (PySem.W.fnOf x qual (defArgs st) (defBody st) (defScope st) .none kV doc pm an cdv ct) ⟨[], [(q, u)]⟩ = pure [(q, u)]) : KBinds K fd [q] [q] gK gK := by
  obtain ⟨oc, od, kV, doc, pm, an, cdv, ct, osl, rfl, lk, hcd⟩ := F.ex
  refine ⟨fun s us ws _ hl => ?_, fun {vs us zs ws} r1 r2 => ?_⟩
  · cases us with
    | cons u us => exact nomatch hl
    | nil =>
      match ws, hl with
      | [u], _ => exact .of_eq (h kV doc pm an cdv ct u)
  · cases r1 with
    | nil => exact r2
    | cons _ _ => exact .nil

/-! ### a comprehension with a test -/
theorem lc_sel {K : PySem.W.Frag} {J : It} {n : Nat} {G : Hp → Prop} {Y : Nat → Hp → V → Hp → Prop} (w : Walk J n G Y) {g : TG} {tt : TT} {te : TE} {vs : List Nat} {σ : L2.St} {H1 : Hp} {D : Addr} {Qd : Hp → Prop}
    (f : Nat → Bool) (d : Nat → PyData) (ht : ∀ i, i < n → Tf (d i)) (hn : n ≤ 1000) (hD : H1 D = none) (hG : ∀ H, Same H1 H → G H)
    (hs : ∀ i x H H', i < n → Same H1 H → Y i H x H' → ∀ R : V → Hp → Prop, (∀ y H4, Same H H4 → Dp K H4 y (d i) → R y H4) →
      g x (wipe σ vs) H' fun σ2 H2 => wipe σ2 vs = wipe σ vs ∧ tt σ2 H2 fun b H3 => b = f i ∧ Same H H3 ∧ (b = true → te σ2 H3 R))
    (hd : ∀ H acc, Same H1 H → H D = some (.lst acc) → DpAll K H acc (((List.range n).filter f).map d) → Qd H)
    (mg : ∀ x σ' H' (Q Q' : L2.St → Hp → Prop), (∀ a b, Q a b → Q' a b) → g x σ' H' Q → g x σ' H' Q') (mt : ∀ σ' H' (Q Q' : Bool → Hp → Prop), (∀ a b, Q a b → Q' a b) → tt σ' H' Q → tt σ' H' Q') :
    ∃ W : Nat → Nat → Hp → Prop, (∃ m, W 0 m (upd H1 D (.lst []))) ∧ ∀ i m H, W i m H →
      (J.stop i H ∧ Qd H) ∨ (J.go i H ∧ ∃ Nx : Hp → Prop, (∀ H', Nx H' → ∃ m', m' < m ∧ W (i + 1) m' H') ∧ ∀ x H', J.yld i H x H' → g x (wipe σ vs) H' fun σ2 H2 => wipe σ2 vs = wipe σ vs ∧ tt σ2 H2 fun b H3 =>
        if b = true then te σ2 H3 fun y H4 => ∃ acc, H4 D = some (.lst acc) ∧ acc.length < sizeLine ∧ Nx (upd H4 D (.lst (acc ++ [y]))) else Nx H3) := by
  refine lc_it w (fun i H => Same H1 H ∧ ∃ acc, H D = some (.lst acc) ∧ DpAll K H acc (((List.range i).filter f).map d)) ⟨same_upd hD, [], upd_same, .nil⟩ (fun i H _ h => hG H h.1) ?_ ?_
  · rintro i x H H' hi ⟨s1, acc, ha, hA⟩ hy
    have hlen := DpAll.len hA
    have hle : acc.length ≤ i := by
      rw [hlen, List.length_map]
      have := List.length_filter_le f (List.range i)
      rw [List.length_range] at this
      exact this
    refine mg _ _ _ _ _ ?_ (hs i x H H' hi s1 hy (fun y H4 => ∃ acc, H4 D = some (.lst acc) ∧ acc.length < sizeLine ∧ (f i = true → Same H1 (upd H4 D (.lst (acc ++ [y]))) ∧ ∃ acc', (upd H4 D (.lst (acc ++ [y]))) D = some (.lst acc') ∧ DpAll K (upd H4 D (.lst (acc ++ [y]))) acc' (((List.range (i + 1)).filter f).map d))) ?_)
    · rintro σ2 H2 ⟨h1, h2⟩
      refine ⟨h1, mt _ _ _ _ ?_ h2⟩
      rintro b H3 ⟨hb, s3, h3⟩
      cases b with
      | true =>
        refine iteT ?_
        have h4 := h3 rfl
        have hb' := hb.symm
        simp only [hb', true_implies] at h4
        exact h4
      | false =>
        refine iteF ⟨s1.trans s3, acc, s3 _ _ ha, ?_⟩
        rw [List.range_succ, List.filter_append, List.map_append]
        have e : List.filter f [i] = [] := by rw [List.filter_cons, if_neg (by rw [← hb]; decide)]; rfl
        rw [e, List.map_nil, List.append_nil]
        exact DpAll.same s3 hA
    · intro y H4 s4 hy4
      refine ⟨acc, s4 _ _ ha, sz61 (by omega), fun hf => ⟨Same.mut (s1.trans s4) hD, acc ++ [y], upd_same, ?_⟩⟩
      have kp : Keep K H4 (upd H4 D (.lst (acc ++ [y]))) := But.keep But.upd (s4 _ _ ha)
      have e : List.filter f [i] = [i] := by rw [List.filter_cons, if_pos hf]; rfl
      rw [List.range_succ, List.filter_append, List.map_append, e]
      refine DpAll.keep kp (fun d' h => ?_) (DpAll.append (DpAll.same s4 hA) (.cons hy4 .nil))
      rcases List.mem_append.mp h with h | h
      · obtain ⟨j, hj, rfl⟩ := List.mem_map.mp h
        have := List.mem_range.mp (List.mem_filter.mp hj).1
        exact ht j (by omega)
      · have e : d' = d i := by simpa using h
        rw [e]; exact ht i hi
  · rintro H ⟨s1, acc, ha, hA⟩
    exact hd H acc s1 ha hA
end MB

set_option maxHeartbeats 4000000
namespace MB
open PySem PySem.Spec PyProof.Rows L2
/-! ### x *= e -/
theorem ip_mulW {X : Cx} : PIp X .Mult (fun x y H Q => ∃ i j, x = .int i ∧ y = .int j ∧ CMulW i j ∧ Q (.int (i * j)) H) := by
  intro pins s σ H x y v u Q I r1 r2 h
  obtain ⟨i, j, e1, e2, hc, q⟩ := h
  subst e1; subst e2
  obtain ⟨t, rfl⟩ := r1
  obtain ⟨t', rfl⟩ := r2
  exact imul_int ⟨.int _, H, I.tok _, ⟨_, rfl⟩, q⟩ hc.ok
/-! ### f(q = v, p = w): by keywords in any order -/
def gP {α : Type} (idx : List Nat) (us ws : List α) : List α := match us with
  | [] => idx.filterMap fun i => ws[i]?
  | _ :: _ => []
theorem gP_take {α : Type} {n : Nat} {ws : List α} : ∀ {idx : List Nat}, (∀ i, i ∈ idx → i < n) → (idx.filterMap fun i => (ws.take n)[i]?) = idx.filterMap fun i => ws[i]?
  | [], _ => rfl
  | i :: idx, h => by
    have h1 := h i (List.mem_cons_self ..)
    have h2 := gP_take (α := α) (n := n) (ws := ws) (idx := idx) fun j hj => h j (List.mem_cons_of_mem _ hj)
    rw [List.filterMap_cons, List.filterMap_cons, h2, List.getElem?_take, if_pos h1]
theorem gP_len {α : Type} {ws : List α} : ∀ {idx : List Nat}, (idx.filterMap fun i => ws[i]?).length = idx.length → ∀ i, i ∈ idx → i < ws.length
  | [], _, i, h => nomatch h
  | j :: idx, hl, i, h => by
    cases e : ws[j]? with
    | none =>
      simp only [List.filterMap_cons, e] at hl
      have := List.length_filterMap_le (fun i => ws[i]?) idx
      simp only [List.length_cons] at hl
      omega
    | some x =>
      simp only [List.filterMap_cons, e, List.length_cons, Nat.add_right_cancel_iff] at hl
      rcases List.mem_cons.mp h with h | h
      · subst h
        exact (List.getElem?_eq_some_iff.mp e).1
      · exact gP_len hl i h
theorem gP_rel {zs : List V} {ws : List Value} (r : Vals zs ws) : ∀ idx : List Nat, Vals (idx.filterMap fun i => zs[i]?) (idx.filterMap fun i => ws[i]?)
  | [] => .nil
  | i :: idx => by
    have ih := gP_rel r idx
    cases e : zs[i]? with
    | none =>
      have e2 : ws[i]? = none := List.getElem?_eq_none (by rw [← r.length]; exact List.getElem?_eq_none_iff.mp e)
      simp only [List.filterMap_cons, e, e2]; exact ih
    | some x =>
      obtain ⟨u, e2, ru⟩ := r.get e
      simp only [List.filterMap_cons, e, e2]; exact .cons ru ih
theorem zip_take {α β : Type} : ∀ (ks : List α) (ws : List β), ks.zip (ws.take ks.length) = ks.zip ws
  | [], _ => rfl
  | _ :: _, [] => rfl
  | k :: ks, w :: ws => by simp [zip_take ks ws]
theorem kbP {K : PySem.W.Frag} {x qual : Str} {st : Stmt} {f : Addr} {fd : FuncData} {ps ks : List Str} {idx : List Nat} (F : L2.Fun K x qual st f fd) (hi : idx.length = ps.length) (hk : ks.length = ps.length) (hp : 0 < ps.length)
    (hall : (∀ i, i ∈ idx → i < ps.length) ∧ ps.length - 1 ∈ idx)
    (h : ∀ (kV doc pm : Value) (an : Option Addr) (cdv ct : Value) (ws : List Value), ws.length = ps.length → bindArgs (PySem.W.fnOf x qual (defArgs st) (defBody st) (defScope st) .none kV doc pm an cdv ct) ⟨[], ks.zip ws⟩ = pure (ps.zip (gP idx [] ws))) : KBinds K fd ps ks (gP idx) (gP idx) := by
  obtain ⟨oc, od, kV, doc, pm, an, cdv, ct, osl, rfl, lk, hcd⟩ := F.ex
  refine ⟨fun s us ws _ hl => ?_, fun {vs us zs ws} r1 r2 => ?_⟩
  · cases us with
    | cons u us =>
      have : 0 = ps.length := hl
      omega
    | nil =>
      have hl' : (idx.filterMap fun i => ws[i]?).length = idx.length := by rw [hi]; exact hl
      have h2 := gP_len hl' _ hall.2
      have h3 := h kV doc pm an cdv ct (ws.take ps.length) (by rw [List.length_take]; omega)
      have e1 : gP idx [] (ws.take ps.length) = gP idx [] ws := gP_take hall.1
      have e2 : ks.zip (ws.take ps.length) = ks.zip ws := by
        rw [← hk]
        exact zip_take ks ws
      rw [e1, e2] at h3
      exact .of_eq h3
  · cases r1 with
    | nil => exact gP_rel r2 idx
    | cons _ _ => exact .nil
section
variable {X : Cx} {CX : CXT} {k : Nat} {f : Addr} {fd : FuncData} {ps ks : List Str} {sp : Sp} {E : XK} {x : Str} {p pos : Pos} {kws : List Keyword} {tk : TA} {g : List Value → List Value → List Value} {gV : List V → List V → List V}
end
end MB

set_option maxHeartbeats 4000000
namespace MB
open PySem PySem.Spec PyProof.Rows L2
/-! ### data of any kind, dicts among them -/
def kD : Key → PyData
  | .inl i => .int i
  | .inr x => .str x
mutual
inductive Dq (K : PySem.W.Frag) (H : Hp) : V → PyData → Prop
  | nonq : Dq K H .non .none
  | blq (b : Bool) : Dq K H (.bl b) (.bool b)
  | intq (i : Int) : Dq K H (.int i) (.int i)
  | strq (x : Str) : Dq K H (.str x) (.str x)
  | lstq {a : Addr} {xs : List V} {ds : List PyData} : SqL K H a xs → a ≠ sysModules → DqAll K H xs ds → Dq K H (.ref a) (.list ds)
  | tupq {a : Addr} {xs : List V} {ds : List PyData} : SqT K H a xs → DqAll K H xs ds → Dq K H (.ref a) (.tuple ds)
  | dctq {a : Addr} {kvs : List (Key × V)} {des : List (PyData × PyData)} : H a = some (.dK kvs) → des.map (·.1) = kvs.map (fun p => kD p.1) → DqAll K H (kvs.map (·.2)) (des.map (·.2)) → Dq K H (.ref a) (.dict des)
inductive DqAll (K : PySem.W.Frag) (H : Hp) : List V → List PyData → Prop
  | nil : DqAll K H [] []
  | cons {v : V} {vs : List V} {d : PyData} {ds : List PyData} : Dq K H v d → DqAll K H vs ds → DqAll K H (v :: vs) (d :: ds)
end
section
variable {X : Cx} {pins : List (Addr × Obj)} {σ : L2.St} {H : Hp} {s : Shared}
theorem keys_read {h : Heap} {P : Program} {w : World} {es : List DictEntry} {vs : List (Key × Value)} (hp : Pairs (mixKind P w) es vs) : ∀ {kvs : List (Key × V)}, KV kvs vs →
    ReadsAll h (es.map (·.key)) (kvs.map fun p => kD p.1) [] ∧ Vals (kvs.map (·.2)) (es.map (·.val)) := by
  induction hp with
  | nil => intro kvs r; cases r; exact ⟨.nil, .nil⟩
  | @cons e kv es vs a b c ih =>
    intro kvs r
    cases r with
    | @cons p _ ps _ r t =>
      obtain ⟨h1, h2⟩ := ih t
      obtain ⟨r1, r2⟩ := r
      have r3 : RelV p.2 e.val := by rw [b]; exact r2
      refine ⟨?_, .cons r3 h2⟩
      have e1 : keyIs kv.1 e.key = true := a
      rw [List.map_cons, List.map_cons, r1]
      rcases keyIs_shape e1 with ⟨i, t, h3, h4⟩ | ⟨x, t, h3, h4⟩
      · rw [h3, h4]; exact ReadsAll.cons (as := []) (bs := []) (.int i t) h1
      · rw [h3, h4]; exact ReadsAll.cons (as := []) (bs := []) (.str x t) h1
theorem Dq.reads (I : Inv X pins σ H s) {d : PyData} {v : V} (hq : Dq X.K H v d) : ∀ u : Value, RelV v u → ∃ as, Reads s.heap u d as ∧ sysModules ∉ as := by
  refine Dq.rec (motive_1 := fun v d _ => ∀ u : Value, RelV v u → ∃ as, Reads s.heap u d as ∧ sysModules ∉ as) (motive_2 := fun vs ds _ => ∀ us : List Value, Vals vs us → ∃ as, ReadsAll s.heap us ds as ∧ sysModules ∉ as) ?_ ?_ ?_ ?_ ?_ ?_ ?_ ?_ ?_ hq
  · intro u r; cases r; exact ⟨_, .none, by simp⟩
  · intro b u r; cases r; exact ⟨_, .bool b, by simp⟩
  · intro i u r; obtain ⟨t, rfl⟩ := r; exact ⟨_, .int i t, by simp⟩
  · intro x u r; obtain ⟨t, rfl⟩ := r; exact ⟨_, .str x t, by simp⟩
  · intro a xs ds hs hne _ ih u r
    cases r
    obtain ⟨its, rv, ⟨o, n, h1, h2, h3, h4⟩, _⟩ := I.list hs
    obtain ⟨as, ra, na⟩ := ih _ rv
    refine ⟨_, .list h1 h2 h4 (by simpa using ra), ?_⟩
    intro hm
    rcases List.mem_cons.mp hm with e | e
    · exact hne e.symm
    · exact na e
  · intro a xs ds hs _ ih u r
    cases r
    obtain ⟨its, rv, ⟨o, h1, h2, n, h3⟩, _⟩ := I.tuple hs
    obtain ⟨as, ra, na⟩ := ih _ rv
    exact ⟨_, .tuple h1 h2 h3 (by simpa using ra), na⟩
  · intro a kvs des he hk _ ih u r
    cases r
    obtain ⟨_, hsys, vs, kv, o, es, ep, h1, h2, h3, _, h5, _⟩ := dk_of I.hok he
    obtain ⟨g1, g2⟩ := keys_read (h := s.heap) h5 kv
    obtain ⟨bs, rb, nb⟩ := ih _ g2
    refine ⟨_, .dict h1 h2.1 h3 (by rw [hk]; exact g1) rb, ?_⟩
    intro hm
    rcases List.mem_cons.mp hm with e | e
    · rw [← e] at hsys; simp at hsys
    · exact nb (by simpa using e)
  · intro us t; cases t; exact ⟨_, .nil, by simp⟩
  · intro v vs d ds _ _ h1 h2 us t
    cases t with
    | cons r t =>
      obtain ⟨as, g1, n1⟩ := h1 _ r
      obtain ⟨bs, g2, n2⟩ := h2 _ t
      exact ⟨_, .cons g1 g2, by simp [n1, n2]⟩
end
theorem Dq.same {K : PySem.W.Frag} {H H' : Hp} (e : Same H H') {v : V} {d : PyData} (h : Dq K H v d) : Dq K H' v d := by
  refine Dq.rec (motive_1 := fun v d _ => Dq K H' v d) (motive_2 := fun vs ds _ => DqAll K H' vs ds) ?_ ?_ ?_ ?_ ?_ ?_ ?_ ?_ ?_ h
  · exact .nonq
  · intro b; exact .blq b
  · intro i; exact .intq i
  · intro x; exact .strq x
  · intro a xs ds hs hne _ ih; exact .lstq (e.seq hs) hne ih
  · intro a xs ds hs _ ih; exact .tupq (Same.tup e hs) ih
  · intro a kvs des he hk _ ih; exact .dctq (e _ _ he) hk ih
  · exact .nil
  · intro v vs d ds _ _ h1 h2; exact .cons h1 h2
theorem DqAll.same {K : PySem.W.Frag} {H H' : Hp} (e : Same H H') : ∀ {vs : List V} {ds : List PyData}, DqAll K H vs ds → DqAll K H' vs ds
  | _, _, .nil => .nil
  | _, _, .cons a b => .cons (Dq.same e a) (DqAll.same e b)
/-! ### repr -/
def rReprQ (K : PySem.W.Frag) : List V → Hp → VK → Prop := fun xs H Q => ∃ (x : V) (d : PyData), xs = [x] ∧ Dq K H x d ∧ d.showable = true ∧ d.depth ≤ 60 ∧ d.shown.length ≤ sizeLine ∧ Q (.str d.shown) H
theorem call_reprQ {X : Cx} (hgd : X.A.guards = some []) (hu : X.A.units + 64 < cLine) : CallR X (.builtin "repr") (rReprQ X.K) := by
  intro pins s σ H xs us Q I r h
  obtain ⟨x, d, rfl, hd, hs, hdep, hz, q⟩ := h
  obtain ⟨u, rfl, rx⟩ := vals1 r
  obtain ⟨as, rd, nsys⟩ := Dq.reads I hd u rx
  have fin : ∀ (h' : Heap) (v tk : Tok), (∀ b o, s.heap.get? b = some o → h'.get? b = some o) → EP X pins σ Q (.str d.shown v) { s with heap := h', toks := tk } := fun h' v tk hk => ⟨.str d.shown, H, I.kept hk, ⟨_, rfl⟩, q⟩
  cases rd with
  | none => exact PySem.P.repr_of_none (fin _ _ _ fun _ _ e => e)
  | bool b =>
    refine PySem.P.repr_of_bool ?_
    cases b <;> exact fin s.heap s.toks (s.toks + 1) fun _ _ e => e
  | int i t => exact PySem.P.repr_of_int (by simpa [PyData.showable] using hs) (fin s.heap s.toks (s.toks + 1) fun _ _ e => e)
  | str y t => exact PySem.P.repr_of_str (fin s.heap s.toks (s.toks + 1) fun _ _ e => e) hz
  | list h1 h2 h3 h4 => exact repr_of_reads' (.list h1 h2 h3 h4) hs (fun _ => nsys) hgd (by omega) (fun _ _ e => e) fin hz
  | tuple h1 h2 h3 h4 => exact repr_of_reads' (.tuple h1 h2 h3 h4) hs (fun _ => nsys) hgd (by omega) (fun _ _ e => e) fin hz
  | dict h1 h2 h3 h4 h5 => exact repr_of_reads' (.dict h1 h2 h3 h4 h5) hs (fun _ => nsys) hgd (by omega) (fun _ _ e => e) fin hz
end MB

set_option maxHeartbeats 4000000
namespace MB
open PySem PySem.Spec PyProof.Rows L2
def clsDef (s : Stmt) : Stmt := match s with
  | .ClassDef _ _ _ b _ _ _ _ _ _ _ => b.getD 0 (.Pass ⟨0, 0, 0, 0⟩)
  | t => t
/-! ### own exceptions as values -/
/-- at a: an own exception of the class at C; with a dict that holds fs, or with none -/
inductive XAt (H : Hp) (a C : Addr) : Option (List (Str × V)) → Prop
  | full {d : Addr} {fs : List (Str × V)} : H a = some (exo a C (some d)) → H d = some (exd d fs) → XAt H a C (some fs)
  | bare : H a = some (ExO (.ref C) a) → XAt H a C none
theorem XAt.same {H H' : Hp} {a C : Addr} {o : Option (List (Str × V))} (e : Same H H') (h : XAt H a C o) : XAt H' a C o := by
  cases h with
  | full h1 h2 => exact .full (e _ _ h1) (e _ _ h2)
  | bare h1 => exact .bare (e _ _ h1)
section
variable {X : Cx} {pins : List (Addr × Obj)} {σ : L2.St} {H : Hp} {s : Shared}
/-- x.f -/
def tXv (K : PySem.W.Frag) (f : Str) (te : TE) : TE := fun σ H Q => te σ H fun x H1 => ∃ (a C : Addr) (fs : List (Str × V)) (v : V), x = .ref a ∧ XAt H1 a C (some fs) ∧ XfC K C ∧ PySem.W.findIn K (.ref C) f = some none ∧ fs.lookup f = some v ∧ Q v H1
theorem pe_xv {e : Expr} {te : TE} {pos : Pos} {n : Str} (he : PE X e te) (hb : attributeBase e n X.env (eval e X.env) = eval e X.env := by rfl) : PE X (.Attribute e n pos) (tXv X.K n te) := by
  refine ⟨fun pins s σ H Q I h => ?_⟩
  refine attr_of hb (thn (he.run pins s σ H _ I h) fun u s1 hh => ?_)
  obtain ⟨x, H1, I1, rx, a, C, fs, v, ex, hx, T, hno, l, q⟩ := hh
  subst ex
  obtain rfl : u = Value.ref a := rx
  cases hx with
  | @full d _ ea ed =>
    obtain ⟨t1, ho⟩ := exo_at I1.hok ea
    obtain ⟨mA, hns, hr⟩ := exd_at I1.hok ed
    obtain ⟨od, hod, hl⟩ := lookIn_ns hns
    obtain ⟨z, hz, rz⟩ := RelO.some_of (v := v) (o := mA n) (by rw [← l]; exact hr n)
    have J : PySem.W.InstAt s1.heap a _ C (some od) := ⟨ho, rfl, rfl, hod⟩
    exact HandSPX.exc_get I1.kIn J T.ga T.gg T.exC (PySem.W.findObj_own T.hdC hno rfl (by rw [hl, hz])) (handed_of rz) ⟨v, H1, I1.tok _, rz, q⟩
/-- isinstance(x, c) -/
def rIsX (K : PySem.W.Frag) : List V → Hp → VK → Prop := fun xs H Q => ∃ (a C : Addr) (o : Option (List (Str × V))) (c : V) (u : Value) (b : Bool), xs = [.ref a, c] ∧ ClsV c u ∧ XAt H a C o ∧ ExcC K C ∧ PySem.W.kitOne K (.ref C) u = some b ∧ Q (.bl b) H
theorem call_isX : CallR X (.builtin "isinstance") (rIsX X.K) := by
  intro pins s σ H xs us Q I r h
  obtain ⟨a, C, o, c, u, b, rfl, k, hx, T, e, q⟩ := h
  obtain ⟨u1, u2, rfl, r1, r2⟩ := vals2 r
  have e2 := k.eq r2
  subst e2
  cases r1
  have hcl : (PySem.W.clsIn X.K C).isSome = true := by
    obtain ⟨cd, hc, _⟩ := PySem.W.any_some T.hd
    rw [hc]; rfl
  have fin : ∀ tk, EP X pins σ Q (.bool b) { s with toks := tk } := fun tk => ⟨.bl b, H, I.tok tk, rfl, q⟩
  cases hx with
  | @full d fs ea ed =>
    obtain ⟨t1, ho⟩ := exo_at I.hok ea
    obtain ⟨mA, hns, hr⟩ := exd_at I.hok ed
    obtain ⟨od, hod, hl⟩ := lookIn_ns hns
    have J : PySem.W.InstAt s.heap a _ C (some od) := ⟨ho, rfl, rfl, hod⟩
    exact PySem.W.kia_one (PySem.W.kitx_exc hcl T.hg T.hk T.hs T.ha T.hn T.ht T.hm) I.kIn J e (fun z => nomatch z) fin
  | bare ea =>
    obtain ⟨⟨oe, vs, ho, hz, hd, _⟩, _⟩ := I.hok a _ ea
    have J : PySem.W.InstAt s.heap a oe C none := by
      obtain ⟨oc, od, oda, osl⟩ := oe
      obtain ⟨z1, z2⟩ := hz
      dsimp only at z1 z2 hd
      subst z1 z2 hd
      exact ⟨ho, rfl, rfl, trivial⟩
    exact PySem.W.kia_one (PySem.W.kitx_exc hcl T.hg T.hk T.hs T.ha T.hn T.ht T.hm) I.kIn J e (fun z => nomatch z) fin
/-- C(e), the class's own __init__ keeping sp: the object stands -/
def tMkX (C : Addr) (sp : Sp) (ta : TA) : TE := fun σ H Q => ta σ H fun vs H1 => vs.length ≤ 1000 ∧ ∀ a, H1 a = none → sp (.ref a :: vs) (upd H1 a (exo a C none)) (fun v H2 => v = .non ∧ Q (.ref a) H2) E0
theorem pe_mkX {x : Str} {C fI : Addr} {k : Nat} {fd : FuncData} {ps : List Str} {sp : Sp} {e : Expr} {es : List Expr} {ta : TA} {p pos : Pos} (T : OexC X.K C) (iC : PySem.W.findIn X.K (.ref C) "__init__" = some (some (.ref fI))) (tI : PySem.W.typeIn X.K (.ref fI) = some (.type "function"))
    (F1 : FnOk X.prog X.w X.K X.mg X.base CX0 k fI fd ps sp) (hr : Room (k + 1) X.A) (hb : Binds X.K fd ps []) (hg : Gl X x) (hm : X.mg x = some (.ref C)) (ha : PA X (e :: es) ta) (hx : Passes CX0 X E0)
    (hdb : (x == ("__debug__" : Str)) = false := by decide) (he : starEach (e :: es) X.env = (false, eval e X.env) :: starEach es X.env := by rfl) (hpl : (backTo pos (starEach es X.env)).any (·.1) = false := by rfl) :
    PE X (.Call (.Name x p) (e :: es) [] pos) (tMkX C sp ta) := by
  refine ⟨fun pins s σ H Q I h => ?_⟩
  obtain ⟨nm, qn, N, bs, bm, sn, sub, ab, col, dd, k0, k1, k2, k3, k5, hC, hbm⟩ := T.cls
  refine wpAny_Call_Name_kw (ld_glob I hg hm ?_ hdb)
  refine PySem.W.callWith_K (h₀ := X.base) I.ok.mod.kin T.kC (thn (ha.run pos pins s σ H _ I h) fun us s1 ⟨vs, H1, I1, r1, hz, q1⟩ => ⟨I1.kIn, ?_⟩) he hpl
  show wpAny _ _ (call (.ref C) us) _ _ _
  obtain ⟨hp, gs, dr, tk, os⟩ := s1
  have fresh : H1 (hp.objs.size + 1) = none := I1.hok.fresh (Nat.le_succ _)
  have hq := q1 _ fresh
  have there : ((hp.push (PySem.W.kdv_tup us)).push (PySem.HandSPX.excO C hp.objs.size)).get? (hp.objs.size + 1) = some (PySem.HandSPX.excO C hp.objs.size) := by heap_get
  have J : Inv X pins σ (upd H1 (hp.objs.size + 1) (exo (hp.objs.size + 1) C none)) ⟨(hp.push (PySem.W.kdv_tup us)).push (PySem.HandSPX.excO C hp.objs.size), gs, dr, tk, os⟩ :=
    I1.laid (t' := tk) (fun b o z => Heap.get?_push_of_some _ (Heap.get?_push_of_some _ z)) (Nat.le_succ _) (exo_ok there)
  have r2 : Vals (V.ref (hp.objs.size + 1) :: vs) (Value.ref (hp.objs.size + 1) :: us) := .cons rfl r1
  have hl : (Value.ref (hp.objs.size + 1) :: us).length = ps.length := r2.length.symm.trans (F1.len _ _ _ _ hq)
  have hus : us.length ≤ sizeLine := by rw [← Paired.length r1, sizeLine_eq]; omega
  have bnd := hb ⟨(hp.push (PySem.W.kdv_tup us)).push (PySem.HandSPX.excO C hp.objs.size), gs, dr, tk, os⟩ (Value.ref (hp.objs.size + 1) :: us) J.kIn (by rw [List.append_nil]; exact hl)
  rw [List.append_nil] at bnd
  refine wpAny_call (PySem.HandSPX.call_own F.excBase_ValueError (fun Y => PySem.HandSPX.refsVE_contains Y bm hbm) (I1.kIn _ _ hC) (PySem.W.looks_findIn I1.kIn iC) (fun self => PySem.W.bind_fn I1.kIn self tI) hus
    (codeAny_mono (F1.run _ X.stack _ _ ⟨Value.ref (hp.objs.size + 1) :: us, []⟩ (Value.ref (hp.objs.size + 1) :: us) _ _ E0 (hr.make C us []) (J.env0.make C us []) bnd r2 hq) fun res s' back => ?_))
  rcases res with er | fl
  · exact hx pins σ _ _ er s' J back
  · rcases fl with _ | _ | _ | u
    · exact False.elim back
    · exact False.elim back
    · exact False.elim back
    · obtain ⟨v, H2, J2, rv, ev, q2⟩ := J.after back
      subst ev
      exact ⟨rv, ⟨V.ref (hp.objs.size + 1), H2, J2, rfl, q2⟩⟩
/-- C(), a class without own __init__ -/
theorem pe_exc0 {C : Addr} {bmB : List Value} {B newId initId : String} {x : Str} {p pos : Pos} (F : ExcBaseFacts B newId initId bmB) (hi : PySem.W.excIn X.K C bmB newId = true) (gC : X.mg x = some (.ref C)) (kC : PySem.W.keepIn X.K (.ref C) = true) (hg : Gl X x) (hdb : (x == ("__debug__" : Str)) = false := by decide) :
    PE X (.Call (.Name x p) [] [] pos) (fun _ H Q => ∀ a, H a = none → Q (.ref a) (upd H a (ExO (.ref C) a))) := by
  refine ⟨fun pins s σ H Q I h => ?_⟩
  refine wpAny_Call_Name_kw (ld_glob I hg gC ?_ hdb)
  refine PySem.W.callWith_K0 I.kIn kC ?_
  show wpAny _ _ (call (.ref C) []) _ _ _
  obtain ⟨bm, N, nm, qn, bs, hdct, sn, sub, ab, col, dd, k0, k1, k2, k3, k5, mN, hC, hN, hni, T⟩ := exc_obj I.kIn hi
  refine wpAny_call_exc_subT F T hC hN hni (fun h' a hm => ?_) (by show 0 ≤ sizeLine; exact Nat.zero_le _)
  have gone : H a = none := I.hok.gone hm.new
  obtain ⟨t, ht, _, _⟩ := hm.there
  exact ⟨.ref a, upd H a (ExO (.ref C) a), I.laidN hm.keeps hm.new gone (exO_ok ht ⟨rfl, rfl⟩ rfl rfl rfl (by simp)), rfl, h a gone⟩
/-- self.value = value, the whole of an __init__ -/
def sp_init (K : PySem.W.Frag) (C : Addr) (f : Str) : Sp := fun vs H Q _ => ∃ (a : Addr) (y : V), vs = [.ref a, y] ∧ H a = some (exo a C none) ∧ ∀ dx, H dx = none → dx ≠ a → Q .non (upd (upd H dx (exd dx [(f, y)])) a (exo a C (some dx)))
/-- C(e) read by what stands behind it -/
theorem mkX_read {K : PySem.W.Frag} {C : Addr} {f : Str} {ta : TA} {σ : L2.St} {H : Hp} {Q : VK} (h : ta σ H fun vs H1 => ∃ y, vs = [y] ∧ ∀ a H2, Same H1 H2 → H1 a = none → XAt H2 a C (some [(f, y)]) → Q (.ref a) H2)
    (mono : ∀ (R R' : List V → Hp → Prop), (∀ vs H1, R vs H1 → R' vs H1) → ta σ H R → ta σ H R') : tMkX C (sp_init K C f) ta σ H Q := by
  refine mono _ _ ?_ h
  rintro vs H1 ⟨y, rfl, q⟩
  refine ⟨by simp, fun a na => ⟨a, y, rfl, upd_same, fun dx ndx ne => ⟨rfl, q a _ ?_ na (.full upd_same ?_)⟩⟩⟩
  · intro b o eb
    have h1 : b ≠ a := ne_of_none eb na
    have h2 : (upd H1 a (exo a C none)) b = some o := by rw [upd_ne h1]; exact eb
    rw [upd_ne h1, upd_ne (ne_of_none h2 ndx), upd_ne h1]
    exact eb
  · rw [upd_ne ne]; exact upd_same
end
end MB

set_option maxHeartbeats 4000000
namespace MB
open PySem PySem.Spec PyProof.Rows L2
/-- the thing at sysModules, tracked as it stands: a new thing then stands elsewhere -/
def sysO (oY : Obj) : HO := .frz oY (.ext fun h => h.get? sysModules = some oY)
theorem law_callS {P : Program} {w : World} {K : PySem.W.Frag} {mg mb : Str → Option Value} {k : Nat} {fa a : Addr} {fd : FuncData} {x : Str} {sp : Sp} {s₁ : Shared} {vs : List Value} {ns : List Int} {oY : Obj}
    (hKs : K.lookup sysModules = none) (hsy : s₁.heap.get? sysModules = some oY) (hna : a ≠ sysModules) (KX : K.In s₁.heap) (hns : s₁.heap.Ns mainGlobals mg) (hb : s₁.heap.Ns builtinsNs mb)
    (hbb : ∀ x : Str, x ≠ "__name__" → mb x = bootBuiltins x) (hlim : s₁.heap.NoLimit) (hg : s₁.gens = #[])
    (ha : s₁.heap.get? a = some { cls := .type "list", data := .seq vs.toArray }) (hi : IntsAre vs ns) (hl : ns.length ≤ sizeLine) (hr : Room k callerA)
    (F : ∀ base : Heap, K.In base → base.Ns mainGlobals mg → FnG P w K mg base CX0 k fa fd [x] sp) (hbind : ∀ (s : Shared) (u : Value), BindsTo s fd ⟨[u], []⟩ [(x, u)])
    (hsp : ∀ (H : Hp) (o : HO), SqL K H a (ns.map V.int) → H sysModules = some o → sp [.ref a] H (fun v _ => v = .bl true) fun _ _ _ => False) :
    codeAny (model P w) callerA (.call (.ref fa) ⟨[.ref a], []⟩) (fun r s' => r = .ok (.ret (.bool true)) ∧ OldK s₁.heap s'.heap ∧ s'.os = s₁.os ∧ AllBare s'.gens) s₁ := by
  let oS : Obj := { cls := .type "list", data := .seq vs.toArray }
  let H : Hp := fun b => if b = a ∧ K.lookup a = none then some (.frz oS (.lst (ns.map V.int))) else if b = sysModules then some (sysO oY) else none
  have Ha : K.lookup a = none → H a = some (.frz oS (.lst (ns.map V.int))) := fun hk => if_pos ⟨rfl, hk⟩
  have Hy : H sysModules = some (sysO oY) := (if_neg fun z => hna z.1.symm).trans (if_pos rfl)
  have rv := vals_ints hi
  have Hsome : ∀ {b : Addr} {o : HO}, H b = some o → (b = a ∧ o = .frz oS (.lst (ns.map V.int))) ∨ (b = sysModules ∧ o = sysO oY) := fun {b o} e => by
    by_cases c : b = a ∧ K.lookup a = none
    · have e' := (if_pos c).symm.trans e
      exact .inl ⟨c.1, (Option.some.inj e').symm⟩
    · by_cases c2 : b = sysModules
      · rw [c2, Hy] at e; exact .inr ⟨c2, (Option.some.inj e).symm⟩
      · have e' : H b = none := (if_neg c).trans (if_neg c2)
        rw [e'] at e; cases e
  have hfree : ∀ {b : Addr}, (b = a → K.lookup a ≠ none) → b ≠ sysModules → H b = none := fun {b} c c2 => (if_neg fun z => c z.1 z.2).trans (if_neg c2)
  have hS : SqL K H a (ns.map V.int) := by
    cases hk : K.lookup a with
    | none => exact .inl (.inr ⟨oS, Ha hk⟩)
    | some o =>
      have e := (KX a o hk).symm.trans ha
      cases e
      exact .inr ⟨_, vs.toArray, _, hk, rfl, rfl, rfl, by rw [List.size_toArray, hi.length]; exact hl, by simpa using rv⟩
  have hok : HOk P w H s₁.heap := fun b o e => by
    rcases Hsome e with ⟨rfl, rfl⟩ | ⟨rfl, rfl⟩
    · exact ⟨ha, by rw [List.length_map]; exact hl, vs, _, rv, ha⟩
    · exact ⟨hsy, hsy, ⟨_, hsy⟩, fun h1 h2 z kk => kk _ z⟩
  have notA : ∀ {b : Addr} {m : Str → Option Value}, s₁.heap.Ns b m → b ≠ a := fun {b m} ⟨o, es, ep, e, d, r⟩ z => by
    rw [z, ha] at e; cases e; cases d
  have ns_hid : ∀ {b : Addr} {m : Str → Option Value}, b ≠ sysModules → s₁.heap.Ns b m → (hidT s₁.heap H).Ns b m := fun {b m} hb x => by
    have h1 := notA x
    obtain ⟨o, es, ep, e, d, r⟩ := x
    exact ⟨o, es, ep, hidT_get e (hfree (fun z => absurd z h1) hb), d, r⟩
  have hKb : K.In (hidT s₁.heap H) := fun b o e => hidT_get (KX b o e) (hfree (fun z => by rw [z] at e; rw [e]; exact fun y => nomatch y) (fun z => by rw [z, hKs] at e; cases e))
  have hM : Mod K mg (hidT s₁.heap H) := ⟨hKb, ns_hid (by decide) hns, ⟨mb, ns_hid (by decide) hb, hbb⟩, let ⟨mc, h1, h2⟩ := hlim; ⟨mc, ns_hid (by decide) h1, h2⟩⟩
  have e0 : Env0 P w K mg (hidT s₁.heap H) callerA [] s₁ H := ⟨rfl, hM, fun b o e => of_hidT e, Nat.le_of_eq (hidT_size _ _), trivial, (fun b hb => absurd (show b ∈ ([] : List Addr) from hb) (by simp)), hok, .of_eq hg⟩
  refine codeAny_mono ((F _ hKb (ns_hid (by decide) hns)).run callerA rfl hr [] s₁ H ⟨[.ref a], []⟩ [.ref a] [.ref a] _ _ e0 (hbind s₁ (.ref a)) (.cons rfl .nil) (hsp H _ hS Hy)) fun r s' h => ?_
  rcases r with e | fl
  · exact False.elim h
  rcases fl with _ | _ | _ | u
  · exact False.elim h
  · exact False.elim h
  · exact False.elim h
  obtain ⟨v, H', os, bare, un, hok', r', q⟩ := h
  have q' : v = .bl true := q
  subst q'
  obtain rfl : u = Value.bool true := r'
  refine ⟨rfl, OldK.of_keep fun b o e => ?_, os, bare⟩
  cases hb' : H b with
  | none => exact un.keep b o e hb' (fun z => absurd (show b ∈ ([] : List Addr) from z) (by simp)) (by simp)
  | some u =>
    rcases Hsome hb' with ⟨rfl, rfl⟩ | ⟨rfl, rfl⟩
    · have e2 := (hok' _ _ (un.frzs _ oS _ hb')).1
      rw [ha] at e
      cases e
      exact e2
    · have e2 := (hok' _ _ (un.frzs _ oY _ hb')).1
      rw [hsy] at e
      cases e
      exact e2
theorem walk_ofS {l : PySem.W.OpenLaw} {n k : Nat} {q : Program} {loose : List Str} {XP : (Str → Option Value) → Heap → Prop} {YP : World → Heap → Prop} {d : DefRec} {K : Params → PySem.W.Frag} {sp : PySem.W.Frag → Sp} {x : Str}
    (hn : l.most = some n) (hn2 : n ≤ sizeLine) (hdf : d.params.defaults = []) (hr : Room k callerA) (him : importsNone q = true) (hKs : ∀ p, (K p).lookup sysModules = none)
    (hY : ∀ (w : World) (h : Heap), YP w h → (K w.params).In h)
    (F : ∀ (w : World) (mg : Str → Option Value) (fa : Addr) (h : Heap), (K w.params).In h → h.Ns mainGlobals mg → mg d.name = some (.ref fa) →
      ∃ fd : FuncData, (∀ (s : Shared) (u : Value), BindsTo s fd ⟨[u], []⟩ [(x, u)]) ∧
        ∀ base : Heap, (K w.params).In base → base.Ns mainGlobals mg → FnG l.prog w (K w.params) mg base CX0 k fa fd [x] (sp (K w.params)))
    (hsp : ∀ (K : PySem.W.Frag) (H : Hp) (a : Addr) (ns : List Int) (o : HO), ns.length ≤ n → SqL K H a (ns.map V.int) → H sysModules = some o → sp K [.ref a] H (fun v _ => v = .bl true) fun _ _ _ => False) :
    PySem.W.WalkO q loose XP YP l.row.toRowW d [] (fun f vs => PySem.call f vs) :=
  Att.attach_call hn hdf fun w s₀ s₁ mg mb fa o pm cd doc a vs ns G Y ho hd hcd hmg hobj hints hlen hg =>
    have KX := hY w _ Y
    let ⟨fd, hb, hF⟩ := F w mg fa _ KX G.T.g hmg
    let ⟨mm, hmm, _⟩ := (G.T.seer him).mods
    let ⟨oY, es, ep, eY, dY, _⟩ := hmm
    law_callS (hKs w.params) eY (fun z => by rw [z, eY] at hobj; cases hobj; cases dY) KX G.T.g G.T.b G.T.builtins G.T.nolimit hg hobj hints (Nat.le_trans hlen hn2) hr hF hb fun H o hS hy => hsp _ H a ns o hlen hS hy
end MB

set_option maxHeartbeats 4000000
namespace MB
open PySem PySem.Spec PyProof.Rows L2
/-! ### facts of own exception classes, each as one truth value -/
def excB (K : PySem.W.Frag) (D : Addr) : Bool :=
  decide (PySem.W.findIn K (.ref D) "__getattribute__" = some (some (.builtin "BaseException.__getattribute__"))) && (decide (PySem.W.findIn K (.ref D) "__getattr__" = some none) && (decide (PySem.W.subIn K (.ref D) (.type "BaseException") = some true) && (PySem.W.hasDictIn K D &&
  (decide (PySem.W.findIn K (.ref D) "__class__" = some (some (.builtin "object.__class__"))) && (decide (PySem.W.specialIn K (.builtin "object.__class__") "__get__" = some (some (.builtin "getset_descriptor.__get__"))) && (decide (PySem.W.takesIn K (.builtin "object.__class__") = some true) && decide (PySem.W.mroIn K D (.type "object") = some true)))))))
theorem excB_ok {K : PySem.W.Frag} {D : Addr} (h : excB K D = true) : ExcC K D ∧ XfC K D := by
  unfold excB at h
  simp only [Bool.and_eq_true, decide_eq_true_eq] at h
  obtain ⟨h1, h2, h3, h4, h5, h6, h7, h8⟩ := h
  exact ⟨⟨h1, h2, h3, h4, h5, h6, h7, h8⟩, ⟨h1, h2, h3, h4⟩⟩
def oexB (K : PySem.W.Frag) (C fI : Addr) (f : Str) : Bool :=
  decide (PySem.W.findIn K (.ref C) "__setattr__" = some (some (.builtin "object.__setattr__"))) && (decide (PySem.W.subIn K (.ref C) (.type "BaseException") = some true) && (decide (PySem.W.typeIn K (.ref C) = some (.type "type")) && (PySem.W.keepIn K (.ref C) &&
  (decide (PySem.W.findIn K (.ref C) f = some none) && (decide (PySem.W.typeIn K (.ref fI) = some (.type "function")))))))
theorem oexB_ok {K : PySem.W.Frag} {C fI : Addr} {f : Str} (h : oexB K C fI f = true) : PySem.W.findIn K (.ref C) "__setattr__" = some (some (.builtin "object.__setattr__")) ∧ PySem.W.subIn K (.ref C) (.type "BaseException") = some true ∧ PySem.W.typeIn K (.ref C) = some (.type "type") ∧ PySem.W.keepIn K (.ref C) = true ∧ PySem.W.findIn K (.ref C) f = some none ∧ PySem.W.typeIn K (.ref fI) = some (.type "function") := by
  unfold oexB at h
  simpa only [Bool.and_eq_true, decide_eq_true_eq] using h
/-- each is an instance of itself alone among them, of the base m, and of ValueError -/
def kitB (K : PySem.W.Frag) (cs : List Addr) (m : Addr) : Bool :=
  cs.all fun c => (cs.all fun d => decide (PySem.W.kitOne K (.ref c) (.ref d) = some (c == d))) && (decide (PySem.W.kitOne K (.ref c) (.ref m) = some true) && decide (PySem.W.kitOne K (.ref c) (.type "ValueError") = some true))
theorem kitB_ok {K : PySem.W.Frag} {cs : List Addr} {m : Addr} (h : kitB K cs m = true) {c : Addr} (hc : c ∈ cs) : (∀ d, d ∈ cs → PySem.W.kitOne K (.ref c) (.ref d) = some (c == d)) ∧ PySem.W.kitOne K (.ref c) (.ref m) = some true ∧ PySem.W.kitOne K (.ref c) (.type "ValueError") = some true := by
  unfold kitB at h
  have h1 := List.all_eq_true.mp h c hc
  simp only [Bool.and_eq_true, decide_eq_true_eq, List.all_eq_true] at h1
  exact h1
def nodupB (cs : List Addr) : Bool := decide cs.Nodup

/-- the same from the lines of ancestors alone -/
def kitT (l : List (Addr × List Value)) (m : Addr) : Bool :=
  l.all fun c => !c.2.isEmpty && ((l.all fun d => decide ((c.1 = d.1 ∨ c.2.contains (.ref d.1) = false))) && (c.2.contains (.ref m) && c.2.contains (.type "ValueError")))
theorem kitOne_self {K : PySem.W.Frag} {v : Value} : PySem.W.kitOne K v v = some true := by
  unfold PySem.W.kitOne
  rw [if_pos (beq_self_eq_true v)]
theorem kitOne_ref {K : PySem.W.Frag} {c d : Addr} {cd dd : ClassData} (hn : c ≠ d) (h : PySem.W.clsIn K c = some cd) (he : cd.mro.isEmpty = false) (g : PySem.W.clsIn K d = some dd) (gt : PySem.W.typeIn K (.ref d) = some (.type "type")) :
    PySem.W.kitOne K (.ref c) (.ref d) = some (cd.mro.contains (.ref d)) := by
  unfold PySem.W.kitOne
  have e : ¬ ((Value.ref c == Value.ref d) = true) := fun z => by
    have z2 : Value.ref c = Value.ref d := beq_iff_eq.mp z
    cases z2; exact hn rfl
  rw [if_neg e]
  unfold PySem.W.kitCls
  dsimp only
  rw [g, gt, if_pos (by simp)]
  show PySem.W.mroIn K c (.ref d) = _
  unfold PySem.W.mroIn
  rw [h]
  show (if cd.mro.isEmpty = true then none else some (cd.mro.contains (.ref d))) = _
  rw [he]; rfl
theorem kitOne_ve {K : PySem.W.Frag} {c : Addr} {cd : ClassData} (h : PySem.W.clsIn K c = some cd) (he : cd.mro.isEmpty = false) :
    PySem.W.kitOne K (.ref c) (.type "ValueError") = some (cd.mro.contains (.type "ValueError")) := by
  unfold PySem.W.kitOne
  have e : ¬ ((Value.ref c == Value.type "ValueError") = true) := fun z => by
    have z2 : Value.ref c = Value.type "ValueError" := beq_iff_eq.mp z
    cases z2
  rw [if_neg e]
  unfold PySem.W.kitCls
  dsimp only
  rw [if_pos (by decide +kernel)]
  show PySem.W.mroIn K c (.type "ValueError") = _
  unfold PySem.W.mroIn
  rw [h]
  show (if cd.mro.isEmpty = true then none else some (cd.mro.contains (.type "ValueError"))) = _
  rw [he]; rfl
theorem kitB_mk {K : PySem.W.Frag} {m : Addr} {md : ClassData} (l : List (Addr × ClassData)) (h : ∀ p, p ∈ l → PySem.W.clsIn K p.1 = some p.2 ∧ PySem.W.typeIn K (.ref p.1) = some (.type "type"))
    (hm : PySem.W.clsIn K m = some md) (tm : PySem.W.typeIn K (.ref m) = some (.type "type")) (t : kitT (l.map fun p => (p.1, p.2.mro)) m = true) : kitB K (l.map (·.1)) m = true := by
  unfold kitB
  unfold kitT at t
  rw [List.all_eq_true] at t ⊢
  intro c hc
  obtain ⟨p, hp, rfl⟩ := List.mem_map.mp hc
  have tp := t _ (List.mem_map.mpr ⟨p, hp, rfl⟩)
  simp only [Bool.and_eq_true, decide_eq_true_eq, List.all_eq_true] at tp
  obtain ⟨t1, t2, t3, t4⟩ := tp
  have t1' : p.2.mro.isEmpty = false := by simpa using t1
  simp only [Bool.and_eq_true, decide_eq_true_eq, List.all_eq_true]
  refine ⟨fun d hd => ?_, ?_, ?_⟩
  · obtain ⟨q, hq, rfl⟩ := List.mem_map.mp hd
    by_cases z : p.1 = q.1
    · rw [z, kitOne_self]; simp
    · have := t2 _ (List.mem_map.mpr ⟨q, hq, rfl⟩)
      rcases this with e | e
      · exact absurd e z
      · rw [kitOne_ref z (h p hp).1 t1' (h q hq).1 (h q hq).2, e]
        have : (p.1 == q.1) = false := by simpa using z
        rw [this]
  · by_cases z : p.1 = m
    · rw [z, kitOne_self]
    · rw [kitOne_ref z (h p hp).1 t1' hm tm, t3]
  · rw [kitOne_ve (h p hp).1 t1', t4]
end MB

set_option maxHeartbeats 4000000
namespace MB
open PySem PySem.Spec PyProof.Rows L2
def topS (i : Nat) : Stmt := PySem.Challenge.pw_mergebudget_k69_exceptions_alone.main.body.getD i (.Pass ⟨0, 0, 0, 0⟩)
abbrev s_L_start_draws : Stmt := topS 21
abbrev N_L_start_draws : List Str := ["_law_script", "_law_nth", "_law_cell", "_law_great"]
theorem sc_L_start_draws : FnScope N_L_start_draws ["_law_script", "_law_nth"] (defScope s_L_start_draws) := ⟨rfl, rfl, rfl, by decide +kernel, rfl, by decide +kernel, by decide +kernel⟩
abbrev s_L_next : Stmt := topS 22
abbrev N_L_next : List Str := ["_law_deal", "_law_upto", "_law_digit", "_law_primes", "_law_prime", "_law_drawn"]
theorem sc_L_next : FnScope N_L_next ["_law_deal", "_law_upto"] (defScope s_L_next) := ⟨rfl, rfl, rfl, by decide +kernel, rfl, by decide +kernel, by decide +kernel⟩
abbrev s_L_pick : Stmt := topS 23
abbrev N_L_pick : List Str := ["_law_deal", "_law_some"]
theorem sc_L_pick : FnScope N_L_pick ["_law_deal", "_law_some"] (defScope s_L_pick) := ⟨rfl, rfl, rfl, by decide +kernel, rfl, by decide +kernel, by decide +kernel⟩
abbrev s_L_odd : Stmt := topS 24
abbrev N_L_odd : List Str := ["_law_deal", "_law_some", "_law_thing", "_law_turn"]
theorem sc_L_odd : FnScope N_L_odd ["_law_deal"] (defScope s_L_odd) := ⟨rfl, rfl, rfl, by decide +kernel, rfl, by decide +kernel, by decide +kernel⟩
abbrev s_L_kinds : Stmt := topS 25
abbrev N_L_kinds : List Str := ["_law_e", "_law_some", "_law_k", "_law_good"]
theorem sc_L_kinds : FnScope N_L_kinds ["_law_e"] (defScope s_L_kinds) := ⟨rfl, rfl, rfl, by decide +kernel, rfl, by decide +kernel, by decide +kernel⟩
abbrev s_L_made : Stmt := topS 26
abbrev N_L_made : List Str := ["_law_some", "_law_found"]
theorem sc_L_made : FnScope N_L_made ["_law_some"] (defScope s_L_made) := ⟨rfl, rfl, rfl, by decide +kernel, rfl, by decide +kernel, by decide +kernel⟩
abbrev s_law : Stmt := topS 27
abbrev N_law : List Str := ["_law_script", "_law_nth", "_law_deal", "_law_some", "_law_made_here", "_law_k", "_law_one", "_law_first", "_law_second", "_law_turn"]
theorem sc_law : FnScope N_law ["_law_script"] (defScope s_law) := ⟨rfl, rfl, rfl, by decide +kernel, rfl, by decide +kernel, by decide +kernel⟩
abbrev s_init_InvalidSchedule : Stmt := clsDef (topS 2)
abbrev N_init_InvalidSchedule : List Str := ["self", "value"]
theorem sc_init_InvalidSchedule : FnScope N_init_InvalidSchedule ["self", "value"] (defScope s_init_InvalidSchedule) := ⟨rfl, rfl, rfl, by decide +kernel, rfl, by decide +kernel, by decide +kernel⟩
abbrev s_init_InvalidTree : Stmt := clsDef (topS 3)
abbrev N_init_InvalidTree : List Str := ["self", "value"]
theorem sc_init_InvalidTree : FnScope N_init_InvalidTree ["self", "value"] (defScope s_init_InvalidTree) := ⟨rfl, rfl, rfl, by decide +kernel, rfl, by decide +kernel, by decide +kernel⟩
abbrev s_init_InvalidCount : Stmt := clsDef (topS 4)
abbrev N_init_InvalidCount : List Str := ["self", "value"]
theorem sc_init_InvalidCount : FnScope N_init_InvalidCount ["self", "value"] (defScope s_init_InvalidCount) := ⟨rfl, rfl, rfl, by decide +kernel, rfl, by decide +kernel, by decide +kernel⟩
abbrev s_init_InvalidIndex : Stmt := clsDef (topS 5)
abbrev N_init_InvalidIndex : List Str := ["self", "value"]
theorem sc_init_InvalidIndex : FnScope N_init_InvalidIndex ["self", "value"] (defScope s_init_InvalidIndex) := ⟨rfl, rfl, rfl, by decide +kernel, rfl, by decide +kernel, by decide +kernel⟩
abbrev s_init_InvalidBudget : Stmt := clsDef (topS 6)
abbrev N_init_InvalidBudget : List Str := ["self", "value"]
theorem sc_init_InvalidBudget : FnScope N_init_InvalidBudget ["self", "value"] (defScope s_init_InvalidBudget) := ⟨rfl, rfl, rfl, by decide +kernel, rfl, by decide +kernel, by decide +kernel⟩
abbrev s_init_OutsideBudget : Stmt := clsDef (topS 7)
abbrev N_init_OutsideBudget : List Str := ["self", "value"]
theorem sc_init_OutsideBudget : FnScope N_init_OutsideBudget ["self", "value"] (defScope s_init_OutsideBudget) := ⟨rfl, rfl, rfl, by decide +kernel, rfl, by decide +kernel, by decide +kernel⟩
abbrev s_init_InvalidSizes : Stmt := clsDef (topS 8)
abbrev N_init_InvalidSizes : List Str := ["self", "value"]
theorem sc_init_InvalidSizes : FnScope N_init_InvalidSizes ["self", "value"] (defScope s_init_InvalidSizes) := ⟨rfl, rfl, rfl, by decide +kernel, rfl, by decide +kernel, by decide +kernel⟩
abbrev s_init_InvalidReads : Stmt := clsDef (topS 9)
abbrev N_init_InvalidReads : List Str := ["self", "value"]
theorem sc_init_InvalidReads : FnScope N_init_InvalidReads ["self", "value"] (defScope s_init_InvalidReads) := ⟨rfl, rfl, rfl, by decide +kernel, rfl, by decide +kernel, by decide +kernel⟩
abbrev s_init_InvalidState : Stmt := clsDef (topS 10)
abbrev N_init_InvalidState : List Str := ["self", "value"]
theorem sc_init_InvalidState : FnScope N_init_InvalidState ["self", "value"] (defScope s_init_InvalidState) := ⟨rfl, rfl, rfl, by decide +kernel, rfl, by decide +kernel, by decide +kernel⟩
abbrev s_init_InvalidMerge : Stmt := clsDef (topS 11)
abbrev N_init_InvalidMerge : List Str := ["self", "value"]
theorem sc_init_InvalidMerge : FnScope N_init_InvalidMerge ["self", "value"] (defScope s_init_InvalidMerge) := ⟨rfl, rfl, rfl, by decide +kernel, rfl, by decide +kernel, by decide +kernel⟩
abbrev s_init_InvalidPolicy : Stmt := clsDef (topS 12)
abbrev N_init_InvalidPolicy : List Str := ["self", "value"]
theorem sc_init_InvalidPolicy : FnScope N_init_InvalidPolicy ["self", "value"] (defScope s_init_InvalidPolicy) := ⟨rfl, rfl, rfl, by decide +kernel, rfl, by decide +kernel, by decide +kernel⟩
abbrev s_init_InvalidKey : Stmt := clsDef (topS 13)
abbrev N_init_InvalidKey : List Str := ["self", "value"]
theorem sc_init_InvalidKey : FnScope N_init_InvalidKey ["self", "value"] (defScope s_init_InvalidKey) := ⟨rfl, rfl, rfl, by decide +kernel, rfl, by decide +kernel, by decide +kernel⟩
abbrev s_init_InvalidValue : Stmt := clsDef (topS 14)
abbrev N_init_InvalidValue : List Str := ["self", "value"]
theorem sc_init_InvalidValue : FnScope N_init_InvalidValue ["self", "value"] (defScope s_init_InvalidValue) := ⟨rfl, rfl, rfl, by decide +kernel, rfl, by decide +kernel, by decide +kernel⟩
abbrev s_init_InvalidMoment : Stmt := clsDef (topS 15)
abbrev N_init_InvalidMoment : List Str := ["self", "value"]
theorem sc_init_InvalidMoment : FnScope N_init_InvalidMoment ["self", "value"] (defScope s_init_InvalidMoment) := ⟨rfl, rfl, rfl, by decide +kernel, rfl, by decide +kernel, by decide +kernel⟩
abbrev s_init_InvalidText : Stmt := clsDef (topS 16)
abbrev N_init_InvalidText : List Str := ["self", "value"]
theorem sc_init_InvalidText : FnScope N_init_InvalidText ["self", "value"] (defScope s_init_InvalidText) := ⟨rfl, rfl, rfl, by decide +kernel, rfl, by decide +kernel, by decide +kernel⟩
abbrev s_init_InvalidLine : Stmt := clsDef (topS 17)
abbrev N_init_InvalidLine : List Str := ["self", "value"]
theorem sc_init_InvalidLine : FnScope N_init_InvalidLine ["self", "value"] (defScope s_init_InvalidLine) := ⟨rfl, rfl, rfl, by decide +kernel, rfl, by decide +kernel, by decide +kernel⟩
structure Tx (K : PySem.W.Frag) (mg : Str → Option Value) where
  a_L_start_draws : Addr
  fd_L_start_draws : FuncData
  f_L_start_draws : Fun K "_law_start_draws" "_law_start_draws" s_L_start_draws a_L_start_draws fd_L_start_draws
  g_L_start_draws : mg "_law_start_draws" = some (.ref a_L_start_draws)
  bd_L_start_draws : Binds K fd_L_start_draws ["_law_script", "_law_nth"] []
  a_L_next : Addr
  fd_L_next : FuncData
  f_L_next : Fun K "_law_next" "_law_next" s_L_next a_L_next fd_L_next
  g_L_next : mg "_law_next" = some (.ref a_L_next)
  bd_L_next : Binds K fd_L_next ["_law_deal", "_law_upto"] []
  a_L_pick : Addr
  fd_L_pick : FuncData
  f_L_pick : Fun K "_law_pick" "_law_pick" s_L_pick a_L_pick fd_L_pick
  g_L_pick : mg "_law_pick" = some (.ref a_L_pick)
  bd_L_pick : Binds K fd_L_pick ["_law_deal", "_law_some"] []
  a_L_odd : Addr
  fd_L_odd : FuncData
  f_L_odd : Fun K "_law_odd" "_law_odd" s_L_odd a_L_odd fd_L_odd
  g_L_odd : mg "_law_odd" = some (.ref a_L_odd)
  bd_L_odd : Binds K fd_L_odd ["_law_deal"] []
  a_L_kinds : Addr
  fd_L_kinds : FuncData
  f_L_kinds : Fun K "_law_kinds" "_law_kinds" s_L_kinds a_L_kinds fd_L_kinds
  g_L_kinds : mg "_law_kinds" = some (.ref a_L_kinds)
  bd_L_kinds : Binds K fd_L_kinds ["_law_e"] []
  a_L_made : Addr
  fd_L_made : FuncData
  f_L_made : Fun K "_law_made" "_law_made" s_L_made a_L_made fd_L_made
  g_L_made : mg "_law_made" = some (.ref a_L_made)
  bd_L_made : Binds K fd_L_made ["_law_some"] []
  a_law : Addr
  fd_law : FuncData
  f_law : Fun K "law" "law" s_law a_law fd_law
  g_law : mg "law" = some (.ref a_law)
  bd_law : Binds K fd_law ["_law_script"] []
  b_int : mg "int" = none
  b_len : mg "len" = none
  b_abs : mg "abs" = none
  b_range : mg "range" = none
  b_isinstance : mg "isinstance" = none
  b_enumerate : mg "enumerate" = none
  b_max : mg "max" = none
  b_min : mg "min" = none
  b_repr : mg "repr" = none
  b_ValueError : mg "ValueError" = none
  c_MergeBudgetError : Addr
  gc_MergeBudgetError : mg "MergeBudgetError" = some (.ref c_MergeBudgetError)
  kc_MergeBudgetError : PySem.W.keepIn K (.ref c_MergeBudgetError) = true
  xe_MergeBudgetError : ExcC K c_MergeBudgetError
  xf_MergeBudgetError : XfC K c_MergeBudgetError
  xi_MergeBudgetError : PySem.W.excIn K c_MergeBudgetError PySem.HandSPX.veTail "ValueError.__new__" = true
  c_InvalidSchedule : Addr
  gc_InvalidSchedule : mg "InvalidSchedule" = some (.ref c_InvalidSchedule)
  kc_InvalidSchedule : PySem.W.keepIn K (.ref c_InvalidSchedule) = true
  xe_InvalidSchedule : ExcC K c_InvalidSchedule
  xf_InvalidSchedule : XfC K c_InvalidSchedule
  ox_InvalidSchedule : OexC K c_InvalidSchedule
  no_InvalidSchedule : PySem.W.findIn K (.ref c_InvalidSchedule) "value" = some none
  fi_InvalidSchedule : Addr
  fdi_InvalidSchedule : FuncData
  ic_InvalidSchedule : PySem.W.findIn K (.ref c_InvalidSchedule) "__init__" = some (some (.ref fi_InvalidSchedule))
  ti_InvalidSchedule : PySem.W.typeIn K (.ref fi_InvalidSchedule) = some (.type "function")
  ui_InvalidSchedule : L2.Fun K "__init__" "InvalidSchedule.__init__" s_init_InvalidSchedule fi_InvalidSchedule fdi_InvalidSchedule
  bi_InvalidSchedule : Binds K fdi_InvalidSchedule ["self", "value"] []
  c_InvalidTree : Addr
  gc_InvalidTree : mg "InvalidTree" = some (.ref c_InvalidTree)
  kc_InvalidTree : PySem.W.keepIn K (.ref c_InvalidTree) = true
  xe_InvalidTree : ExcC K c_InvalidTree
  xf_InvalidTree : XfC K c_InvalidTree
  ox_InvalidTree : OexC K c_InvalidTree
  no_InvalidTree : PySem.W.findIn K (.ref c_InvalidTree) "value" = some none
  fi_InvalidTree : Addr
  fdi_InvalidTree : FuncData
  ic_InvalidTree : PySem.W.findIn K (.ref c_InvalidTree) "__init__" = some (some (.ref fi_InvalidTree))
  ti_InvalidTree : PySem.W.typeIn K (.ref fi_InvalidTree) = some (.type "function")
  ui_InvalidTree : L2.Fun K "__init__" "InvalidTree.__init__" s_init_InvalidTree fi_InvalidTree fdi_InvalidTree
  bi_InvalidTree : Binds K fdi_InvalidTree ["self", "value"] []
  c_InvalidCount : Addr
  gc_InvalidCount : mg "InvalidCount" = some (.ref c_InvalidCount)
  kc_InvalidCount : PySem.W.keepIn K (.ref c_InvalidCount) = true
  xe_InvalidCount : ExcC K c_InvalidCount
  xf_InvalidCount : XfC K c_InvalidCount
  ox_InvalidCount : OexC K c_InvalidCount
  no_InvalidCount : PySem.W.findIn K (.ref c_InvalidCount) "value" = some none
  fi_InvalidCount : Addr
  fdi_InvalidCount : FuncData
  ic_InvalidCount : PySem.W.findIn K (.ref c_InvalidCount) "__init__" = some (some (.ref fi_InvalidCount))
  ti_InvalidCount : PySem.W.typeIn K (.ref fi_InvalidCount) = some (.type "function")
  ui_InvalidCount : L2.Fun K "__init__" "InvalidCount.__init__" s_init_InvalidCount fi_InvalidCount fdi_InvalidCount
  bi_InvalidCount : Binds K fdi_InvalidCount ["self", "value"] []
  c_InvalidIndex : Addr
  gc_InvalidIndex : mg "InvalidIndex" = some (.ref c_InvalidIndex)
  kc_InvalidIndex : PySem.W.keepIn K (.ref c_InvalidIndex) = true
  xe_InvalidIndex : ExcC K c_InvalidIndex
  xf_InvalidIndex : XfC K c_InvalidIndex
  ox_InvalidIndex : OexC K c_InvalidIndex
  no_InvalidIndex : PySem.W.findIn K (.ref c_InvalidIndex) "value" = some none
  fi_InvalidIndex : Addr
  fdi_InvalidIndex : FuncData
  ic_InvalidIndex : PySem.W.findIn K (.ref c_InvalidIndex) "__init__" = some (some (.ref fi_InvalidIndex))
  ti_InvalidIndex : PySem.W.typeIn K (.ref fi_InvalidIndex) = some (.type "function")
  ui_InvalidIndex : L2.Fun K "__init__" "InvalidIndex.__init__" s_init_InvalidIndex fi_InvalidIndex fdi_InvalidIndex
  bi_InvalidIndex : Binds K fdi_InvalidIndex ["self", "value"] []
  c_InvalidBudget : Addr
  gc_InvalidBudget : mg "InvalidBudget" = some (.ref c_InvalidBudget)
  kc_InvalidBudget : PySem.W.keepIn K (.ref c_InvalidBudget) = true
  xe_InvalidBudget : ExcC K c_InvalidBudget
  xf_InvalidBudget : XfC K c_InvalidBudget
  ox_InvalidBudget : OexC K c_InvalidBudget
  no_InvalidBudget : PySem.W.findIn K (.ref c_InvalidBudget) "value" = some none
  fi_InvalidBudget : Addr
  fdi_InvalidBudget : FuncData
  ic_InvalidBudget : PySem.W.findIn K (.ref c_InvalidBudget) "__init__" = some (some (.ref fi_InvalidBudget))
  ti_InvalidBudget : PySem.W.typeIn K (.ref fi_InvalidBudget) = some (.type "function")
  ui_InvalidBudget : L2.Fun K "__init__" "InvalidBudget.__init__" s_init_InvalidBudget fi_InvalidBudget fdi_InvalidBudget
  bi_InvalidBudget : Binds K fdi_InvalidBudget ["self", "value"] []
  c_OutsideBudget : Addr
  gc_OutsideBudget : mg "OutsideBudget" = some (.ref c_OutsideBudget)
  kc_OutsideBudget : PySem.W.keepIn K (.ref c_OutsideBudget) = true
  xe_OutsideBudget : ExcC K c_OutsideBudget
  xf_OutsideBudget : XfC K c_OutsideBudget
  ox_OutsideBudget : OexC K c_OutsideBudget
  no_OutsideBudget : PySem.W.findIn K (.ref c_OutsideBudget) "value" = some none
  fi_OutsideBudget : Addr
  fdi_OutsideBudget : FuncData
  ic_OutsideBudget : PySem.W.findIn K (.ref c_OutsideBudget) "__init__" = some (some (.ref fi_OutsideBudget))
  ti_OutsideBudget : PySem.W.typeIn K (.ref fi_OutsideBudget) = some (.type "function")
  ui_OutsideBudget : L2.Fun K "__init__" "OutsideBudget.__init__" s_init_OutsideBudget fi_OutsideBudget fdi_OutsideBudget
  bi_OutsideBudget : Binds K fdi_OutsideBudget ["self", "value"] []
  c_InvalidSizes : Addr
  gc_InvalidSizes : mg "InvalidSizes" = some (.ref c_InvalidSizes)
  kc_InvalidSizes : PySem.W.keepIn K (.ref c_InvalidSizes) = true
  xe_InvalidSizes : ExcC K c_InvalidSizes
  xf_InvalidSizes : XfC K c_InvalidSizes
  ox_InvalidSizes : OexC K c_InvalidSizes
  no_InvalidSizes : PySem.W.findIn K (.ref c_InvalidSizes) "value" = some none
  fi_InvalidSizes : Addr
  fdi_InvalidSizes : FuncData
  ic_InvalidSizes : PySem.W.findIn K (.ref c_InvalidSizes) "__init__" = some (some (.ref fi_InvalidSizes))
  ti_InvalidSizes : PySem.W.typeIn K (.ref fi_InvalidSizes) = some (.type "function")
  ui_InvalidSizes : L2.Fun K "__init__" "InvalidSizes.__init__" s_init_InvalidSizes fi_InvalidSizes fdi_InvalidSizes
  bi_InvalidSizes : Binds K fdi_InvalidSizes ["self", "value"] []
  c_InvalidReads : Addr
  gc_InvalidReads : mg "InvalidReads" = some (.ref c_InvalidReads)
  kc_InvalidReads : PySem.W.keepIn K (.ref c_InvalidReads) = true
  xe_InvalidReads : ExcC K c_InvalidReads
  xf_InvalidReads : XfC K c_InvalidReads
  ox_InvalidReads : OexC K c_InvalidReads
  no_InvalidReads : PySem.W.findIn K (.ref c_InvalidReads) "value" = some none
  fi_InvalidReads : Addr
  fdi_InvalidReads : FuncData
  ic_InvalidReads : PySem.W.findIn K (.ref c_InvalidReads) "__init__" = some (some (.ref fi_InvalidReads))
  ti_InvalidReads : PySem.W.typeIn K (.ref fi_InvalidReads) = some (.type "function")
  ui_InvalidReads : L2.Fun K "__init__" "InvalidReads.__init__" s_init_InvalidReads fi_InvalidReads fdi_InvalidReads
  bi_InvalidReads : Binds K fdi_InvalidReads ["self", "value"] []
  c_InvalidState : Addr
  gc_InvalidState : mg "InvalidState" = some (.ref c_InvalidState)
  kc_InvalidState : PySem.W.keepIn K (.ref c_InvalidState) = true
  xe_InvalidState : ExcC K c_InvalidState
  xf_InvalidState : XfC K c_InvalidState
  ox_InvalidState : OexC K c_InvalidState
  no_InvalidState : PySem.W.findIn K (.ref c_InvalidState) "value" = some none
  fi_InvalidState : Addr
  fdi_InvalidState : FuncData
  ic_InvalidState : PySem.W.findIn K (.ref c_InvalidState) "__init__" = some (some (.ref fi_InvalidState))
  ti_InvalidState : PySem.W.typeIn K (.ref fi_InvalidState) = some (.type "function")
  ui_InvalidState : L2.Fun K "__init__" "InvalidState.__init__" s_init_InvalidState fi_InvalidState fdi_InvalidState
  bi_InvalidState : Binds K fdi_InvalidState ["self", "value"] []
  c_InvalidMerge : Addr
  gc_InvalidMerge : mg "InvalidMerge" = some (.ref c_InvalidMerge)
  kc_InvalidMerge : PySem.W.keepIn K (.ref c_InvalidMerge) = true
  xe_InvalidMerge : ExcC K c_InvalidMerge
  xf_InvalidMerge : XfC K c_InvalidMerge
  ox_InvalidMerge : OexC K c_InvalidMerge
  no_InvalidMerge : PySem.W.findIn K (.ref c_InvalidMerge) "value" = some none
  fi_InvalidMerge : Addr
  fdi_InvalidMerge : FuncData
  ic_InvalidMerge : PySem.W.findIn K (.ref c_InvalidMerge) "__init__" = some (some (.ref fi_InvalidMerge))
  ti_InvalidMerge : PySem.W.typeIn K (.ref fi_InvalidMerge) = some (.type "function")
  ui_InvalidMerge : L2.Fun K "__init__" "InvalidMerge.__init__" s_init_InvalidMerge fi_InvalidMerge fdi_InvalidMerge
  bi_InvalidMerge : Binds K fdi_InvalidMerge ["self", "value"] []
  c_InvalidPolicy : Addr
  gc_InvalidPolicy : mg "InvalidPolicy" = some (.ref c_InvalidPolicy)
  kc_InvalidPolicy : PySem.W.keepIn K (.ref c_InvalidPolicy) = true
  xe_InvalidPolicy : ExcC K c_InvalidPolicy
  xf_InvalidPolicy : XfC K c_InvalidPolicy
  ox_InvalidPolicy : OexC K c_InvalidPolicy
  no_InvalidPolicy : PySem.W.findIn K (.ref c_InvalidPolicy) "value" = some none
  fi_InvalidPolicy : Addr
  fdi_InvalidPolicy : FuncData
  ic_InvalidPolicy : PySem.W.findIn K (.ref c_InvalidPolicy) "__init__" = some (some (.ref fi_InvalidPolicy))
  ti_InvalidPolicy : PySem.W.typeIn K (.ref fi_InvalidPolicy) = some (.type "function")
  ui_InvalidPolicy : L2.Fun K "__init__" "InvalidPolicy.__init__" s_init_InvalidPolicy fi_InvalidPolicy fdi_InvalidPolicy
  bi_InvalidPolicy : Binds K fdi_InvalidPolicy ["self", "value"] []
  c_InvalidKey : Addr
  gc_InvalidKey : mg "InvalidKey" = some (.ref c_InvalidKey)
  kc_InvalidKey : PySem.W.keepIn K (.ref c_InvalidKey) = true
  xe_InvalidKey : ExcC K c_InvalidKey
  xf_InvalidKey : XfC K c_InvalidKey
  ox_InvalidKey : OexC K c_InvalidKey
  no_InvalidKey : PySem.W.findIn K (.ref c_InvalidKey) "value" = some none
  fi_InvalidKey : Addr
  fdi_InvalidKey : FuncData
  ic_InvalidKey : PySem.W.findIn K (.ref c_InvalidKey) "__init__" = some (some (.ref fi_InvalidKey))
  ti_InvalidKey : PySem.W.typeIn K (.ref fi_InvalidKey) = some (.type "function")
  ui_InvalidKey : L2.Fun K "__init__" "InvalidKey.__init__" s_init_InvalidKey fi_InvalidKey fdi_InvalidKey
  bi_InvalidKey : Binds K fdi_InvalidKey ["self", "value"] []
  c_InvalidValue : Addr
  gc_InvalidValue : mg "InvalidValue" = some (.ref c_InvalidValue)
  kc_InvalidValue : PySem.W.keepIn K (.ref c_InvalidValue) = true
  xe_InvalidValue : ExcC K c_InvalidValue
  xf_InvalidValue : XfC K c_InvalidValue
  ox_InvalidValue : OexC K c_InvalidValue
  no_InvalidValue : PySem.W.findIn K (.ref c_InvalidValue) "value" = some none
  fi_InvalidValue : Addr
  fdi_InvalidValue : FuncData
  ic_InvalidValue : PySem.W.findIn K (.ref c_InvalidValue) "__init__" = some (some (.ref fi_InvalidValue))
  ti_InvalidValue : PySem.W.typeIn K (.ref fi_InvalidValue) = some (.type "function")
  ui_InvalidValue : L2.Fun K "__init__" "InvalidValue.__init__" s_init_InvalidValue fi_InvalidValue fdi_InvalidValue
  bi_InvalidValue : Binds K fdi_InvalidValue ["self", "value"] []
  c_InvalidMoment : Addr
  gc_InvalidMoment : mg "InvalidMoment" = some (.ref c_InvalidMoment)
  kc_InvalidMoment : PySem.W.keepIn K (.ref c_InvalidMoment) = true
  xe_InvalidMoment : ExcC K c_InvalidMoment
  xf_InvalidMoment : XfC K c_InvalidMoment
  ox_InvalidMoment : OexC K c_InvalidMoment
  no_InvalidMoment : PySem.W.findIn K (.ref c_InvalidMoment) "value" = some none
  fi_InvalidMoment : Addr
  fdi_InvalidMoment : FuncData
  ic_InvalidMoment : PySem.W.findIn K (.ref c_InvalidMoment) "__init__" = some (some (.ref fi_InvalidMoment))
  ti_InvalidMoment : PySem.W.typeIn K (.ref fi_InvalidMoment) = some (.type "function")
  ui_InvalidMoment : L2.Fun K "__init__" "InvalidMoment.__init__" s_init_InvalidMoment fi_InvalidMoment fdi_InvalidMoment
  bi_InvalidMoment : Binds K fdi_InvalidMoment ["self", "value"] []
  c_InvalidText : Addr
  gc_InvalidText : mg "InvalidText" = some (.ref c_InvalidText)
  kc_InvalidText : PySem.W.keepIn K (.ref c_InvalidText) = true
  xe_InvalidText : ExcC K c_InvalidText
  xf_InvalidText : XfC K c_InvalidText
  ox_InvalidText : OexC K c_InvalidText
  no_InvalidText : PySem.W.findIn K (.ref c_InvalidText) "value" = some none
  fi_InvalidText : Addr
  fdi_InvalidText : FuncData
  ic_InvalidText : PySem.W.findIn K (.ref c_InvalidText) "__init__" = some (some (.ref fi_InvalidText))
  ti_InvalidText : PySem.W.typeIn K (.ref fi_InvalidText) = some (.type "function")
  ui_InvalidText : L2.Fun K "__init__" "InvalidText.__init__" s_init_InvalidText fi_InvalidText fdi_InvalidText
  bi_InvalidText : Binds K fdi_InvalidText ["self", "value"] []
  c_InvalidLine : Addr
  gc_InvalidLine : mg "InvalidLine" = some (.ref c_InvalidLine)
  kc_InvalidLine : PySem.W.keepIn K (.ref c_InvalidLine) = true
  xe_InvalidLine : ExcC K c_InvalidLine
  xf_InvalidLine : XfC K c_InvalidLine
  ox_InvalidLine : OexC K c_InvalidLine
  no_InvalidLine : PySem.W.findIn K (.ref c_InvalidLine) "value" = some none
  fi_InvalidLine : Addr
  fdi_InvalidLine : FuncData
  ic_InvalidLine : PySem.W.findIn K (.ref c_InvalidLine) "__init__" = some (some (.ref fi_InvalidLine))
  ti_InvalidLine : PySem.W.typeIn K (.ref fi_InvalidLine) = some (.type "function")
  ui_InvalidLine : L2.Fun K "__init__" "InvalidLine.__init__" s_init_InvalidLine fi_InvalidLine fdi_InvalidLine
  bi_InvalidLine : Binds K fdi_InvalidLine ["self", "value"] []
  c_Exhausted : Addr
  gc_Exhausted : mg "Exhausted" = some (.ref c_Exhausted)
  kc_Exhausted : PySem.W.keepIn K (.ref c_Exhausted) = true
  xe_Exhausted : ExcC K c_Exhausted
  xf_Exhausted : XfC K c_Exhausted
  xi_Exhausted : PySem.W.excIn K c_Exhausted PySem.HandSPX.veTail "ValueError.__new__" = true
  c_NothingToUndo : Addr
  gc_NothingToUndo : mg "NothingToUndo" = some (.ref c_NothingToUndo)
  kc_NothingToUndo : PySem.W.keepIn K (.ref c_NothingToUndo) = true
  xe_NothingToUndo : ExcC K c_NothingToUndo
  xf_NothingToUndo : XfC K c_NothingToUndo
  xi_NothingToUndo : PySem.W.excIn K c_NothingToUndo PySem.HandSPX.veTail "ValueError.__new__" = true
  kits : kitB K [c_InvalidSchedule, c_InvalidTree, c_InvalidCount, c_InvalidIndex, c_InvalidBudget, c_OutsideBudget, c_InvalidSizes, c_InvalidReads, c_InvalidState, c_InvalidMerge, c_InvalidPolicy, c_InvalidKey, c_InvalidValue, c_InvalidMoment, c_InvalidText, c_InvalidLine, c_Exhausted, c_NothingToUndo] c_MergeBudgetError = true
  kitn : [c_InvalidSchedule, c_InvalidTree, c_InvalidCount, c_InvalidIndex, c_InvalidBudget, c_OutsideBudget, c_InvalidSizes, c_InvalidReads, c_InvalidState, c_InvalidMerge, c_InvalidPolicy, c_InvalidKey, c_InvalidValue, c_InvalidMoment, c_InvalidText, c_InvalidLine, c_Exhausted, c_NothingToUndo].Nodup
/-- the deal: a number not below 0, a seed, a count of at most n -/
def Deal (H : Hp) (a : Addr) (n : Int) : Prop := ∃ d s m : Int, H a = some (.lst [.int d, .int s, .int m]) ∧ 0 ≤ d ∧ 0 ≤ s ∧ s < 2 ^ 62 ∧ 0 ≤ m ∧ m ≤ n
theorem Deal.mono {H : Hp} {a : Addr} {n k : Int} (h : Deal H a n) (e : n ≤ k) : Deal H a k := by
  obtain ⟨d, s, m, h1, h2, h3, h4, h5, h6⟩ := h
  exact ⟨d, s, m, h1, h2, h3, h4, h5, by omega⟩
theorem Deal.same {H H' : Hp} {a : Addr} {n : Int} (h : Deal H a n) (e : Same H H') : Deal H' a n := by
  obtain ⟨d, s, m, h1, r⟩ := h
  exact ⟨d, s, m, e _ _ h1, r⟩
theorem Deal.ne {H : Hp} {a b : Addr} {n : Int} (h : Deal H a n) (e : H b = none) : b ≠ a := fun z => by
  obtain ⟨d, s, m, h1, r⟩ := h
  rw [z, h1] at e; cases e
theorem dl_nat {x : Int} {n : Nat} (h0 : 0 ≤ x) (h1 : x < ((2 ^ n : Nat) : Int)) : x.natAbs < 2 ^ n := by omega
theorem dl_bit (b : Bool) : (if b = true then (1 : Int) else 0).natAbs < 2 ^ 2 ∧ (0 : Int) ≤ (if b = true then (1 : Int) else 0) := by cases b <;> exact ⟨by decide, by decide⟩
theorem dl_prime {m : Int} (h0 : 0 ≤ m) : ∃ v : Int, atI [V.int 2147483647, V.int 2147483629, V.int 2147483587, V.int 2147483579, V.int 2147483563, V.int 2147483549, V.int 2147483543, V.int 2147483497] (m % 8) = some (.int v) ∧ 0 < v ∧ v < 2 ^ 31 := by
  have h : m % 8 = 0 ∨ m % 8 = 1 ∨ m % 8 = 2 ∨ m % 8 = 3 ∨ m % 8 = 4 ∨ m % 8 = 5 ∨ m % 8 = 6 ∨ m % 8 = 7 := by omega
  rcases h with h | h | h | h | h | h | h | h <;> rw [h] <;> exact ⟨_, rfl, by decide, by decide⟩
set_option exponentiation.threshold 2000
section
variable {P : Program} {w : World} {K : PySem.W.Frag} {mg : Str → Option Value} {base : Heap}
def sp_L_start_draws (K : PySem.W.Frag) : Sp := fun vs H Q _ => ∃ (a : Addr) (ns : List Int) (pl : Nat), vs = [.ref a, .int (pl : Int)] ∧ SqL K H a (ns.map V.int) ∧ pl ≤ 62 ∧ ∀ H' p, Same H H' → H p = none → Deal H' p 0 → Q (.ref p) H'
theorem ok_L_start_draws (TX : Tx K mg) : FnOk P w K mg base CX0 1 TX.a_L_start_draws TX.fd_L_start_draws ["_law_script", "_law_nth"] (sp_L_start_draws K) := by
  refine TX.f_L_start_draws.ok sc_L_start_draws (fun vs H Q E h => ?_) (fun cdv A outer s H vs Q E hr h => ?_)
  · obtain ⟨a, ns, pl, rfl, _⟩ := h; rfl
  · obtain ⟨a, ns, pl, rfl, hS, hpl, q⟩ := h
    refine ⟨_, (pss_cons (ps_set (i := 2) sc_L_start_draws.nd rfl (.inl rfl) (pe_ifExp (pt_cmpR op_lt (pv 1) (pe_callB (id := "len") (k_len (K := K) rfl) (by rfl) TX.b_len (by decide +kernel) (pa_cons (pv 0) pa_nil)) (nomark _)) (pe_ix (k_ixL (K := K) rfl) (pv 0) (pv 1) (fun _ _ => rfl)) pe_int))
      (pss_cons (ps_set (i := 3) sc_L_start_draws.nd rfl (.inl rfl) (pe_op op_mulW (pe_op op_mod (pe_callB (id := "abs") call_abs (by rfl) TX.b_abs (by decide +kernel) (pa_cons (pv 2) pa_nil)) (pe_op op_powW (pe_op op_powW pe_int pe_int) pe_int)) (pe_callTy (T := "int") call_int1 (by rfl) TX.b_int (by decide +kernel) (pa_cons (pe_cmpR op_ge (pe_callB (id := "abs") call_abs (by rfl) TX.b_abs (by decide +kernel) (pa_cons (pv 2) pa_nil)) (pe_op op_powW pe_int pe_int) (nomark _)) pa_nil))))
      (pss_one (ps_ret (pe_lst (pa_cons (pv 3) (pa_cons (pe_op op_add (pe_op op_add (pe_op op_mod (pv 2) pe_int) (pe_op op_mulW pe_int (pv 1))) pe_int) (pa_cons pe_int pa_nil)))))))), ?_⟩
    have P0 : (0 : Int) < (10 ^ (60 : Int).toNat) ^ (5 : Int).toNat := by decide +kernel
    have P1 : ((10 ^ (60 : Int).toNat) ^ (5 : Int).toNat : Int) < ((2 ^ 1000 : Nat) : Int) := by decide +kernel
    refine ⟨_, rfl, .ref a, rfl, a, _, rfl, .inl hS, _, _, rfl, rfl, _, rfl, ite2 (fun h => ?_) (fun h => ?_)⟩
    · have hlt : pl < ns.length := by
        have := of_decide_eq_true h
        rw [List.length_map] at this
        omega
      refine ⟨.ref a, rfl, _, rfl, a, _, _, .int ns[pl], rfl, rfl, hS, atI_nat (by rw [List.getElem?_map, List.getElem?_eq_getElem hlt]; rfl), ?_⟩
      have c0 := Int.emod_nonneg (ns[pl]) (show (2305843009213693951 : Int) ≠ 0 by decide)
      have c1 := Int.emod_lt_of_pos (ns[pl]) (show (0 : Int) < 2305843009213693951 by decide)
      refine ⟨_, rfl, _, rfl, _, _, rfl, rfl, ⟨by decide, by decide +kernel⟩, _, _, rfl, rfl, ⟨by decide, by decide +kernel⟩, _, _, rfl, rfl, P0, _, rfl, _, rfl, _, _, rfl, rfl, ⟨by decide, by decide +kernel⟩, _, _, rfl, rfl, .inr ⟨_, rfl, _, _, rfl, rfl, ?_, ?_⟩⟩
      · exact wide_mul (a := 1000) (b := 2) (dl_nat (Int.emod_nonneg _ (Int.ne_of_gt P0)) (Int.lt_trans (Int.emod_lt_of_pos _ P0) P1)) (dl_bit _).1 (by decide) (by decide) (by decide)
      · refine ⟨_, rfl, _, rfl, _, _, rfl, rfl, (show (0 : Int) < 2305843009213693951 by decide), _, rfl, _, _, rfl, rfl, wide_mul (a := 17) (b := 7) (by decide) (by omega) (by decide) (by decide) (by decide), _, _, rfl, rfl, _, _, rfl, rfl, sz60 (by simp), fun p np => q _ p (same_upd np) np ⟨_, _, _, upd_same, Int.mul_nonneg (Int.emod_nonneg _ (Int.ne_of_gt P0)) (dl_bit _).2, by omega, by omega, by decide, by decide⟩⟩
    · show tSeq _ _ _ _ _
      have c0 := Int.emod_nonneg (0) (show (2305843009213693951 : Int) ≠ 0 by decide)
      refine ⟨_, rfl, _, rfl, _, _, rfl, rfl, ⟨by decide, by decide +kernel⟩, _, _, rfl, rfl, ⟨by decide, by decide +kernel⟩, _, _, rfl, rfl, P0, _, rfl, _, rfl, _, _, rfl, rfl, ⟨by decide, by decide +kernel⟩, _, _, rfl, rfl, .inr ⟨_, rfl, _, _, rfl, rfl, ?_, ?_⟩⟩
      · exact wide_mul (a := 1000) (b := 2) (dl_nat (Int.emod_nonneg _ (Int.ne_of_gt P0)) (Int.lt_trans (Int.emod_lt_of_pos _ P0) P1)) (dl_bit _).1 (by decide) (by decide) (by decide)
      · refine ⟨_, rfl, _, rfl, _, _, rfl, rfl, (show (0 : Int) < 2305843009213693951 by decide), _, rfl, _, _, rfl, rfl, wide_mul (a := 17) (b := 7) (by decide) (by omega) (by decide) (by decide) (by decide), _, _, rfl, rfl, _, _, rfl, rfl, sz60 (by simp), fun p np => q _ p (same_upd np) np ⟨_, _, _, upd_same, Int.mul_nonneg (Int.emod_nonneg _ (Int.ne_of_gt P0)) (dl_bit _).2, by omega, by omega, by decide, by decide⟩⟩
def sp_L_next (K : PySem.W.Frag) : Sp := fun vs H Q _ => ∃ (a : Addr) (z n : Int), vs = [.ref a, .int z] ∧ Deal H a n ∧ n ≤ 100000 ∧ 1 ≤ z ∧ z ≤ 1000000 ∧ ∀ H' r, But a H H' → Deal H' a (n + 1) → 0 ≤ r → r < z → Q (.int r) H'
theorem ok_L_next (TX : Tx K mg) : FnOk P w K mg base CX0 1 TX.a_L_next TX.fd_L_next ["_law_deal", "_law_upto"] (sp_L_next K) := by
  refine TX.f_L_next.ok sc_L_next (fun vs H Q E h => ?_) (fun cdv A outer s H vs Q E hr h => ?_)
  · obtain ⟨a, z, n, rfl, _⟩ := h; rfl
  · obtain ⟨a, z, n, rfl, ⟨d, sd, m, hp, hd, hs0, hs1, hm0, hm1⟩, hn, hz1, hz2, q⟩ := h
    refine ⟨_, (pss_cons (ps_if (pt_cmpR op_gt (pe_ix (k_ixL (K := K) rfl) (pv 0) pe_int (fun _ _ => rfl)) pe_int (nomark _))
        (pss_cons (ps_set (i := 2) sc_L_next.nd rfl (.inl rfl) (pe_op op_mod (pe_ix (k_ixL (K := K) rfl) (pv 0) pe_int (fun _ _ => rfl)) (pv 1)))
        (pss_cons (ps_asg (pe_op op_fdivW (pe_ix (k_ixL (K := K) rfl) (pv 0) pe_int (fun _ _ => rfl)) (pv 1)) (pg_sub (pv 0) pe_int set_list))
        (pss_one (ps_ret (pv 2)))))
        pss_nil)
      (pss_cons (ps_asg (pe_op op_add (pe_ix (k_ixL (K := K) rfl) (pv 0) pe_int (fun _ _ => rfl)) pe_int) (pg_sub (pv 0) pe_int set_list))
      (pss_cons (ps_set (i := 3) sc_L_next.nd rfl (.inl rfl) (pe_lst (pa_cons pe_int (pa_cons pe_int (pa_cons pe_int (pa_cons pe_int (pa_cons pe_int (pa_cons pe_int (pa_cons pe_int (pa_cons pe_int pa_nil))))))))))
      (pss_cons (ps_set (i := 4) sc_L_next.nd rfl (.inl rfl) (pe_ix (k_ixL (K := K) rfl) (pv 3) (pe_op op_mod (pe_ix (k_ixL (K := K) rfl) (pv 0) pe_int (fun _ _ => rfl)) pe_int) (fun _ _ => rfl)))
      (pss_cons (ps_set (i := 5) sc_L_next.nd rfl (.inl rfl) (pe_op op_add (pe_op op_mod (pe_op op_mod (pe_op op_add (pe_ix (k_ixL (K := K) rfl) (pv 0) pe_int (fun _ _ => rfl)) (pe_op op_mulW (pe_op op_mulW pe_int (pe_ix (k_ixL (K := K) rfl) (pv 0) pe_int (fun _ _ => rfl))) (pe_ix (k_ixL (K := K) rfl) (pv 0) pe_int (fun _ _ => rfl)))) (pe_op op_pow (pv 4) pe_int)) (pv 4)) pe_int))
      (pss_one (ps_ret (pe_op op_mod (pe_op op_fdivW (pe_op op_mod (pe_op op_mulW (pv 5) (pe_op op_add (pe_op op_mod (pv 5) pe_int) (pe_ix (k_ixL (K := K) rfl) (pv 0) pe_int (fun _ _ => rfl)))) (pv 4)) pe_int) (pv 1))))))))), ?_⟩
    refine ⟨.ref a, rfl, a, _, _, .int d, rfl, rfl, .inl (.inl hp), rfl, _, _, rfl, rfl, _, rfl, ite2 (fun h => ?_) (fun h => ?_)⟩
    · refine ⟨.ref a, rfl, a, _, _, .int d, rfl, rfl, .inl (.inl hp), rfl, _, rfl, _, _, rfl, rfl, (show 0 < z by omega), ?_⟩
      refine ⟨.ref a, rfl, a, _, _, .int d, rfl, rfl, .inl (.inl hp), rfl, _, rfl, _, _, rfl, rfl, wide_div (b := 20) (by omega) (by omega) (by decide) (by decide), .ref a, rfl, a, _, 0, 0, rfl, rfl, hp, rfl, ?_⟩
      refine ⟨_, rfl, q _ _ But.upd ⟨d / z, sd, m, upd_same, Int.ediv_nonneg hd (by omega), hs0, hs1, hm0, by omega⟩ (Int.emod_nonneg _ (by omega)) (Int.emod_lt_of_pos _ (by omega))⟩
    · refine ⟨.ref a, rfl, a, _, _, .int m, rfl, rfl, .inl (.inl hp), rfl, _, _, rfl, rfl, .ref a, rfl, a, _, 2, 2, rfl, rfl, hp, rfl, ?_⟩
      have hp1 : (upd H a (.lst (List.set [V.int d, V.int sd, V.int m] 2 (V.int (m + 1))))) a = some (.lst [V.int d, V.int sd, V.int (m + 1)]) := upd_same
      have b1 : But a H (upd H a (.lst (List.set [V.int d, V.int sd, V.int m] 2 (V.int (m + 1))))) := But.upd
      generalize upd H a (.lst (List.set [V.int d, V.int sd, V.int m] 2 (V.int (m + 1)))) = H1 at hp1 b1 ⊢
      refine ⟨sz60 (by simp), fun pl npl => ?_⟩
      have s2 := same_upd (o := .lst [V.int 2147483647, V.int 2147483629, V.int 2147483587, V.int 2147483579, V.int 2147483563, V.int 2147483549, V.int 2147483543, V.int 2147483497]) npl
      have hp2 := s2 _ _ hp1
      obtain ⟨pr, hpr, pr0, pr1⟩ := dl_prime (m := m + 1) (by omega)
      refine ⟨_, rfl, .ref a, rfl, a, _, _, .int (m + 1), rfl, rfl, .inl (.inl hp2), rfl, _, _, rfl, rfl, (show (0 : Int) < 8 by decide), pl, _, _, .int pr, rfl, rfl, .inl (.inl upd_same), hpr, ?_⟩
      have k1 : (m + 1) * (m + 1) ≤ 100001 * 100001 := Int.mul_le_mul (by omega) (by omega) (by omega) (by omega)
      have k2 : (0 : Int) ≤ (m + 1) * (m + 1) := Int.mul_nonneg (by omega) (by omega)
      have p20 : (0 : Int) < pr ^ (2 : Int).toNat := Int.pow_pos pr0
      refine ⟨.ref a, rfl, a, _, _, .int sd, rfl, rfl, .inl (.inl hp2), rfl, .ref a, rfl, a, _, _, .int (m + 1), rfl, rfl, .inl (.inl hp2), rfl, _, _, rfl, rfl, wide_mul (a := 17) (b := 18) (by decide) (by omega) (by decide) (by decide) (by decide), .ref a, rfl, a, _, _, .int (m + 1), rfl, rfl, .inl (.inl hp2), rfl, _, _, rfl, rfl, wide_mul (a := 36) (b := 18) (by omega) (by omega) (by decide) (by decide) (by decide), _, _, rfl, rfl, _, rfl, _, _, rfl, rfl, ⟨by decide, by decide, by omega⟩, _, _, rfl, rfl, p20, _, rfl, _, _, rfl, rfl, pr0, _, _, rfl, rfl, ?_⟩
      generalize hmx : (sd + 69621 * (m + 1) * (m + 1)) % pr ^ (2 : Int).toNat % pr + 1 = mx
      have mx0 : 0 ≤ mx := by
        have := Int.emod_nonneg ((sd + 69621 * (m + 1) * (m + 1)) % pr ^ (2 : Int).toNat) (show pr ≠ 0 by omega)
        omega
      have mx1 : mx ≤ pr := by
        have := Int.emod_lt_of_pos ((sd + 69621 * (m + 1) * (m + 1)) % pr ^ (2 : Int).toNat) pr0
        omega
      refine ⟨_, rfl, _, rfl, _, _, rfl, rfl, (show (0 : Int) < 1009 by decide), .ref a, rfl, a, _, _, .int (m + 1), rfl, rfl, .inl (.inl hp2), rfl, _, _, rfl, rfl, _, _, rfl, rfl, wide_mul (a := 32) (b := 18) (by omega) (by omega) (by decide) (by decide) (by decide), _, rfl, _, _, rfl, rfl, pr0, _, _, rfl, rfl, wide_div (b := 3) (by decide) (by decide) (by decide) (by decide), _, rfl, _, _, rfl, rfl, (show 0 < z by omega), ?_⟩
      exact q _ _ (b1.trans (But.of s2)) ⟨d, sd, m + 1, hp2, hd, hs0, hs1, by omega, by omega⟩ (Int.emod_nonneg _ (by omega)) (Int.emod_lt_of_pos _ (by omega))
def sp_L_pick (K : PySem.W.Frag) : Sp := fun vs H Q _ => ∃ (a l : Addr) (xs : List V) (n : Int), vs = [.ref a, .ref l] ∧ Deal H a n ∧ n ≤ 100000 ∧ H l = some (.lst xs) ∧ l ≠ a ∧ xs ≠ [] ∧ xs.length ≤ 1000 ∧ ∀ H' v, But a H H' → Deal H' a (n + 1) → v ∈ xs → Q v H'
theorem ok_L_pick (TX : Tx K mg) : FnOk P w K mg base CX0 2 TX.a_L_pick TX.fd_L_pick ["_law_deal", "_law_some"] (sp_L_pick K) := by
  refine TX.f_L_pick.ok sc_L_pick (fun vs H Q E h => ?_) (fun cdv A outer s H vs Q E hr h => ?_)
  · obtain ⟨a, l, xs, n, rfl, _⟩ := h; rfl
  · obtain ⟨a, l, xs, n, rfl, hp, hn, hl, nla, hne, hlen, q⟩ := h
    refine ⟨_, (pss_one (ps_ret (pe_ix (k_ixL (K := K) rfl) (pv 1) (pe_call (ok_L_next TX) (hr.mono (by decide)) (by rfl) TX.g_L_next TX.f_L_next.kp TX.bd_L_next .nil pass0 (pa_cons (pv 0) (pa_cons (pe_callB (id := "len") (k_len (K := K) rfl) (by rfl) TX.b_len (by decide +kernel) (pa_cons (pv 1) pa_nil)) pa_nil))) (fun _ _ => rfl)))), ?_⟩
    have h0 : 0 < xs.length := List.length_pos_iff.mpr hne
    refine ⟨.ref l, rfl, .ref a, rfl, .ref l, rfl, l, _, rfl, .inl (.inl (.inl hl)), a, _, n, rfl, hp, hn, by omega, by omega, fun H' r b1 p1 r0 r1 => ?_⟩
    have er : r = ((r.toNat : Nat) : Int) := by omega
    have hr1 : r.toNat < xs.length := by omega
    have hat : atI xs r = some xs[r.toNat] := by
      have := atI_nat (List.getElem?_eq_getElem hr1)
      rwa [← er] at this
    exact ⟨l, xs, r, xs[r.toNat], rfl, rfl, .inl (.inl (b1 _ _ nla hl)), hat, q _ _ b1 p1 (List.getElem_mem ..)⟩
end
/-- data whose repr is short -/
structure Sm (k n : Nat) (d : PyData) : Prop where
  dep : d.depth ≤ k
  shw : d.showable = true
  short : d.leavesShort 40 = true
  bulk : d.bulk ≤ n
theorem Sm.mono {k n k' n' : Nat} {d : PyData} (h : Sm k n d) (e : k ≤ k') (e' : n ≤ n') : Sm k' n' d := ⟨Nat.le_trans h.dep e, h.shw, h.short, Nat.le_trans h.bulk e'⟩
theorem Sm.t1 {k n : Nat} {d : PyData} (h : Sm k n d) : Sm (k + 1) (n + 4) (.tuple [d]) := by
  obtain ⟨a, b, c, e⟩ := h
  refine ⟨?_, ?_, ?_, ?_⟩
  · simp [PyData.depth, PyData.depthAll]; omega
  · simp [PyData.showable, PyData.showableAll, b]
  · simp [PyData.leavesShort, PyData.leavesShortAll, c]
  · simp [PyData.bulk, PyData.bulkAll]; omega
theorem Sm.l1 {k n : Nat} {d : PyData} (h : Sm k n d) : Sm (k + 1) (n + 4) (.list [d]) := by
  obtain ⟨a, b, c, e⟩ := h
  refine ⟨?_, ?_, ?_, ?_⟩
  · simp [PyData.depth, PyData.depthAll]; omega
  · simp [PyData.showable, PyData.showableAll, b]
  · simp [PyData.leavesShort, PyData.leavesShortAll, c]
  · simp [PyData.bulk, PyData.bulkAll]; omega
theorem Sm.d1 {k n : Nat} {d : PyData} (h : Sm k n d) : Sm (k + 1) (n + 4) (.dict [(.str "a", d)]) := by
  obtain ⟨a, b, c, e⟩ := h
  have z : (Str.ofString "a").cps.size = 1 := by decide +kernel
  refine ⟨?_, ?_, ?_, ?_⟩
  · simp [PyData.depth, PyData.depthKv]; omega
  · simp [PyData.showable, PyData.showableKv, b]
  · simp only [PyData.leavesShort, PyData.leavesShortKv, c, Bool.and_true]
    decide +kernel
  · simp [PyData.bulk, PyData.bulkKv]; omega
theorem But.free {a l : Addr} {H H' : Hp} (b : But a H H') (h : H' l = none) (n : l ≠ a) : H l = none := by
  cases e : H l with
  | none => rfl
  | some o => rw [b _ _ n e] at h; cases h
/-- what is new behind H -/
def nw (H G : Hp) : Hp := fun b => match H b with
  | none => G b
  | some _ => none
theorem nw_at {H G : Hp} {b : Addr} (h : H b = none) : nw H G b = G b := by unfold nw; rw [h]
theorem nw_old {H G : Hp} {b : Addr} {o : HO} (h : H b = some o) : nw H G b = none := by unfold nw; rw [h]
theorem nw_but {a : Addr} {H G G' : Hp} {o : HO} (ha : H a = some o) (b : But a G G') : Same (nw H G) (nw H G') := fun c u e => by
  cases h : H c with
  | some x => rw [nw_old h] at e; cases e
  | none =>
    rw [nw_at h] at e ⊢
    exact b _ _ (fun z => by rw [z, ha] at h; cases h) e
theorem nw_sub {H G : Hp} : Same (nw H G) G := fun c u e => by
  cases h : H c with
  | some x => rw [nw_old h] at e; cases e
  | none => rwa [nw_at h] at e
section
variable {P : Program} {w : World} {K : PySem.W.Frag} {mg : Str → Option Value} {base : Heap}
def sp_L_odd (K : PySem.W.Frag) : Sp := fun vs H Q _ => ∃ (a : Addr) (n : Int) (o : HO), vs = [.ref a] ∧ Deal H a n ∧ n ≤ 90000 ∧ H sysModules = some o ∧ a ≠ sysModules ∧ ∀ H' x d, But a H H' → Deal H' a (n + 30) → Dq K (nw H H') x d → Sm 30 200 d → Q x H'
theorem ok_L_odd (TX : Tx K mg) : FnOk P w K mg base CX0 3 TX.a_L_odd TX.fd_L_odd ["_law_deal"] (sp_L_odd K) := by
  refine TX.f_L_odd.ok sc_L_odd (fun vs H Q E h => ?_) (fun cdv A outer s H vs Q E hr h => ?_)
  · obtain ⟨a, n, o, rfl, _⟩ := h; rfl
  · obtain ⟨a, n, o, rfl, hd, hn, hsys, nas, q⟩ := h
    refine ⟨_, (pss_cons (ps_set (i := 1) sc_L_odd.nd rfl (.inl rfl) (pe_lst (pa_cons pe_non (pa_cons pe_bl (pa_cons pe_bl (pa_cons pe_str (pa_cons pe_str (pa_cons pe_str (pa_cons (pe_tup pa_nil) (pa_cons (pe_lst pa_nil) (pa_cons pe_dnewK (pa_cons (pe_tup (pa_cons pe_int pa_nil)) (pa_cons (pe_lst (pa_cons pe_int pa_nil)) (pa_cons (pe_un un_neg pe_int) (pa_cons (pe_op op_powW pe_int pe_int) (pa_cons (pe_tup (pa_cons pe_str (pa_cons pe_int pa_nil))) (pa_cons (pe_tup (pa_cons pe_str pa_nil)) (pa_cons (pe_tup (pa_cons pe_str (pa_cons pe_int pa_nil))) pa_nil))))))))))))))))))
      (pss_cons (ps_set (i := 2) sc_L_odd.nd rfl (.inl rfl) (pe_call (ok_L_pick TX) (hr.mono (by decide)) (by rfl) TX.g_L_pick TX.f_L_pick.kp TX.bd_L_pick .nil pass0 (pa_cons (pv 0) (pa_cons (pv 1) pa_nil))))
      (pss_cons (ps_for PassesOwn.never rfl (pi_range1 (by rfl) TX.b_range (pa_cons (pe_ix (k_ixL (K := K) rfl) (pe_lst (pa_cons pe_int (pa_cons pe_int (pa_cons pe_int (pa_cons pe_int pa_nil))))) (pe_call (ok_L_next TX) (hr.mono (by decide)) (by rfl) TX.g_L_next TX.f_L_next.kp TX.bd_L_next .nil pass0 (pa_cons (pv 0) (pa_cons pe_int pa_nil))) (fun _ _ => rfl)) pa_nil)) (pg_name (i := 3) sc_L_odd.nd rfl (.inl rfl))
        (pss_one (ps_set (i := 2) sc_L_odd.nd rfl (.inl rfl) (pe_ix (k_ixL (K := K) rfl) (pe_lst (pa_cons (pe_tup (pa_cons (pv 2) pa_nil)) (pa_cons (pe_lst (pa_cons (pv 2) pa_nil)) (pa_cons (pe_disp (pps_cons pe_str (pv 2) pps_nil) (by rfl) (by rfl) (by simp) (by decide)) pa_nil)))) (pe_call (ok_L_next TX) (hr.mono (by decide)) (by rfl) TX.g_L_next TX.f_L_next.kp TX.bd_L_next .nil pass0 (pa_cons (pv 0) (pa_cons pe_int pa_nil))) (fun _ _ => rfl)))))
      (pss_one (ps_ret (pv 2)))))), ?_⟩
    refine ⟨sz60 (by simp), fun p1 n1 => ⟨sz60 (by simp), fun p2 n2 p3 n3 => ⟨sz60 (by simp), fun p4 n4 => ⟨sz60 (by simp), fun p5 n5 => ⟨1, rfl, _, _, rfl, rfl, ⟨by decide, by decide +kernel⟩, sz60 (by simp), fun p6 n6 => ⟨sz60 (by simp), fun p7 n7 => ⟨sz60 (by simp), fun p8 n8 => ⟨sz60 (by simp), fun l nl => ?_⟩⟩⟩⟩⟩⟩⟩⟩
    have s1 := same_upd (o := .tup []) n1
    have s2 := same_upd (o := .lst []) n2
    have s3 := same_upd (o := .dK []) n3
    have s4 := same_upd (o := .tup [V.int 0]) n4
    have s5 := same_upd (o := .lst [V.int 0]) n5
    have s6 := same_upd (o := .tup [V.str "a", V.int 1]) n6
    have s7 := same_upd (o := .tup [V.str "runs"]) n7
    have s8 := same_upd (o := .tup [V.str "manual", V.int 1]) n8
    have s9 := same_upd (o := .lst [V.non, V.bl true, V.bl false, V.str "", V.str "a", V.str "1", V.ref p1, V.ref p2, V.ref p3, V.ref p4, V.ref p5, V.int (-1), V.int (10 ^ (30 : Int).toNat), V.ref p6, V.ref p7, V.ref p8]) nl
    have t8 := s8.trans s9
    have t7 := s7.trans t8
    have t6 := s6.trans t7
    have t5 := s5.trans t6
    have t4 := s4.trans t5
    have t3 := s3.trans t4
    have t2 := s2.trans t3
    have sH := s1.trans t2
    have e1 := t2 _ _ (upd_same (H := H) (a := p1) (o := .tup []))
    have e2 := t3 _ _ (upd_same (a := p2) (o := .lst []))
    have e3 := t4 _ _ (upd_same (a := p3) (o := .dK []))
    have e4 := t5 _ _ (upd_same (a := p4) (o := .tup [V.int 0]))
    have e5 := t6 _ _ (upd_same (a := p5) (o := .lst [V.int 0]))
    have e6 := t7 _ _ (upd_same (a := p6) (o := .tup [V.str "a", V.int 1]))
    have e7 := t8 _ _ (upd_same (a := p7) (o := .tup [V.str "runs"]))
    have e8 := s9 _ _ (upd_same (a := p8) (o := .tup [V.str "manual", V.int 1]))
    have el := upd_same (H := upd (upd (upd (upd (upd (upd (upd (upd H p1 (.tup [])) p2 (.lst [])) p3 (.dK [])) p4 (.tup [V.int 0])) p5 (.lst [V.int 0])) p6 (.tup [V.str "a", V.int 1])) p7 (.tup [V.str "runs"])) p8 (.tup [V.str "manual", V.int 1])) (a := l) (o := .lst [V.non, V.bl true, V.bl false, V.str "", V.str "a", V.str "1", V.ref p1, V.ref p2, V.ref p3, V.ref p4, V.ref p5, V.int (-1), V.int (10 ^ (30 : Int).toNat), V.ref p6, V.ref p7, V.ref p8])
    have hda := hd
    obtain ⟨dd, ds, dm, hda', _⟩ := hda
    have fa : ∀ {b : Addr} {G : Hp}, Same H G → G b = none → b ≠ a := fun {b G} sg nb z => by rw [z, sg _ _ hda'] at nb; cases nb
    have fs : ∀ {b : Addr} {G : Hp}, Same H G → G b = none → b ≠ sysModules := fun {b G} sg nb z => by rw [z, sg _ _ hsys] at nb; cases nb
    have g1 : p1 ≠ a := fa (Same.refl H) n1
    have f1 : H p1 = none := n1
    have u2 := s1
    have g2 : p2 ≠ a := fa u2 n2
    have f2 : H p2 = none := u2.free n2
    have y2 : p2 ≠ sysModules := fs u2 n2
    have u3 := u2.trans s2
    have g3 : p3 ≠ a := fa u3 n3
    have f3 : H p3 = none := u3.free n3
    have u4 := u3.trans s3
    have g4 : p4 ≠ a := fa u4 n4
    have f4 : H p4 = none := u4.free n4
    have u5 := u4.trans s4
    have g5 : p5 ≠ a := fa u5 n5
    have f5 : H p5 = none := u5.free n5
    have y5 : p5 ≠ sysModules := fs u5 n5
    have u6 := u5.trans s5
    have g6 : p6 ≠ a := fa u6 n6
    have f6 : H p6 = none := u6.free n6
    have u7 := u6.trans s6
    have g7 : p7 ≠ a := fa u7 n7
    have f7 : H p7 = none := u7.free n7
    have u8 := u7.trans s7
    have g8 : p8 ≠ a := fa u8 n8
    have f8 : H p8 = none := u8.free n8
    have u9 := u8.trans s8
    have gl : l ≠ a := fa u9 nl
    generalize upd (upd (upd (upd (upd (upd (upd (upd (upd H p1 (.tup [])) p2 (.lst [])) p3 (.dK [])) p4 (.tup [V.int 0])) p5 (.lst [V.int 0])) p6 (.tup [V.str "a", V.int 1])) p7 (.tup [V.str "runs"])) p8 (.tup [V.str "manual", V.int 1])) l (.lst [V.non, V.bl true, V.bl false, V.str "", V.str "a", V.str "1", V.ref p1, V.ref p2, V.ref p3, V.ref p4, V.ref p5, V.int (-1), V.int (10 ^ (30 : Int).toNat), V.ref p6, V.ref p7, V.ref p8]) = H9 at sH e1 e2 e3 e4 e5 e6 e7 e8 el ⊢
    have hall : ∀ v, v ∈ [V.non, V.bl true, V.bl false, V.str "", V.str "a", V.str "1", V.ref p1, V.ref p2, V.ref p3, V.ref p4, V.ref p5, V.int (-1), V.int (10 ^ (30 : Int).toNat), V.ref p6, V.ref p7, V.ref p8] → ∃ d, Dq K (nw H H9) v d ∧ Sm 1 20 d := by
      intro v hv
      simp only [List.mem_cons, List.not_mem_nil, or_false] at hv
      rcases hv with rfl | rfl | rfl | rfl | rfl | rfl | rfl | rfl | rfl | rfl | rfl | rfl | rfl | rfl | rfl | rfl
      · exact ⟨_, .nonq, by constructor <;> decide +kernel⟩
      · exact ⟨_, .blq _, by constructor <;> decide +kernel⟩
      · exact ⟨_, .blq _, by constructor <;> decide +kernel⟩
      · exact ⟨_, .strq _, by constructor <;> decide +kernel⟩
      · exact ⟨_, .strq _, by constructor <;> decide +kernel⟩
      · exact ⟨_, .strq _, by constructor <;> decide +kernel⟩
      · exact ⟨.tuple [], .tupq (.inl (.inl (by rw [nw_at f1]; exact e1))) .nil, by constructor <;> decide +kernel⟩
      · exact ⟨.list [], .lstq (.inl (.inl (by rw [nw_at f2]; exact e2))) y2 .nil, by constructor <;> decide +kernel⟩
      · exact ⟨.dict [], .dctq (kvs := []) (by rw [nw_at f3]; exact e3) rfl .nil, by constructor <;> decide +kernel⟩
      · exact ⟨.tuple [.int 0], .tupq (.inl (.inl (by rw [nw_at f4]; exact e4))) (.cons (.intq _) .nil), by constructor <;> decide +kernel⟩
      · exact ⟨.list [.int 0], .lstq (.inl (.inl (by rw [nw_at f5]; exact e5))) y5 (.cons (.intq _) .nil), by constructor <;> decide +kernel⟩
      · exact ⟨_, .intq _, by constructor <;> decide +kernel⟩
      · exact ⟨_, .intq _, by constructor <;> decide +kernel⟩
      · exact ⟨.tuple [.str "a", .int 1], .tupq (.inl (.inl (by rw [nw_at f6]; exact e6))) (.cons (.strq _) (.cons (.intq _) .nil)), by constructor <;> decide +kernel⟩
      · exact ⟨.tuple [.str "runs"], .tupq (.inl (.inl (by rw [nw_at f7]; exact e7))) (.cons (.strq _) .nil), by constructor <;> decide +kernel⟩
      · exact ⟨.tuple [.str "manual", .int 1], .tupq (.inl (.inl (by rw [nw_at f8]; exact e8))) (.cons (.strq _) (.cons (.intq _) .nil)), by constructor <;> decide +kernel⟩
    refine ⟨.ref a, rfl, .ref l, rfl, a, l, _, n, rfl, hd.same sH, by omega, el, gl, by simp, by simp, fun H10 v b10 d10 hv => ?_⟩
    obtain ⟨d0, hq0, hs0⟩ := hall v hv
    have b1 : But a H H10 := (But.of sH).trans b10
    have hq1 := Dq.same (nw_but hda' b10) hq0
    clear e1 e2 e3 e4 e5 e6 e7 e8 el s1 s2 s3 s4 s5 s6 s7 s8 s9 t2 t3 t4 t5 t6 t7 t8 u2 u3 u4 u5 u6 u7 u8 u9 hall hq0 hv
    refine ⟨sz60 (by simp), fun z nz => ⟨.ref a, rfl, a, 4, n + 1, rfl, d10.same (same_upd nz), by omega, by decide, by decide, fun H11 r b11 d11 r0 r1 => ?_⟩⟩
    have sz := same_upd (o := .lst [V.int 0, V.int 0, V.int 1, V.int 20]) nz
    have nza : z ≠ a := d10.ne nz
    obtain ⟨k, hk, hk2⟩ : ∃ k : Nat, atI [V.int 0, V.int 0, V.int 1, V.int 20] r = some (.int (k : Int)) ∧ k ≤ 20 := by
      have h : r = 0 ∨ r = 1 ∨ r = 2 ∨ r = 3 := by omega
      rcases h with rfl | rfl | rfl | rfl
      · exact ⟨0, rfl, by decide⟩
      · exact ⟨0, rfl, by decide⟩
      · exact ⟨1, rfl, by decide⟩
      · exact ⟨20, rfl, by decide⟩
    have b2 : But a H H11 := (b1.trans (But.of sz)).trans b11
    have hq2 := Dq.same (nw_but hda' ((But.of sz).trans b11)) hq1
    refine ⟨z, _, r, .int (k : Int), rfl, rfl, .inl (.inl (b11 _ _ nza upd_same)), hk, _, rfl, by omega, by omega, ?_⟩
    rw [show ((k : Int)).toNat = k by omega]
    refine for_range (lo := 0) (n := k) (fun i σ H' => ∃ x d y3, σ = [some (.ref a), some (.ref l), some x, y3] ∧ But a H H' ∧ Deal H' a (n + 2 + (i : Int)) ∧ Dq K (nw H H') x d ∧ Sm (1 + i) (20 + 4 * i) d) ⟨v, d0, none, rfl, b2, d11.mono (by omega), hq2, hs0⟩ ?_ ?_
    · rintro i σ H1 hi ⟨x, d, y3, rfl, b3, d3, hq3, hs3⟩
      have hi' : i < k := hi
      have hsys1 : H1 sysModules = some o := b3 _ _ (Ne.symm nas) hsys
      refine ⟨x, rfl, sz60 (by simp), fun q1 m1 => ⟨x, rfl, sz60 (by simp), fun q2 m2 q3 m3 => ⟨x, rfl, upd_same, [(.inr "a", x)], rfl, by simp, ?_⟩⟩⟩
      rw [upd_upd]
      refine ⟨sz60 (by simp), fun q4 m4 => ?_⟩
      have w1 := same_upd (o := .tup [x]) m1
      have w2 := same_upd (o := .lst [x]) m2
      have w3 := same_upd (o := .dK [(.inr "a", x)]) m3
      have w4 := same_upd (o := .lst [V.ref q1, V.ref q2, V.ref q3]) m4
      have v3 := w3.trans w4
      have v2 := w2.trans v3
      have v1 := w1.trans v2
      have e1 := v2 _ _ (upd_same (a := q1) (o := .tup [x]))
      have e2 := v3 _ _ (upd_same (a := q2) (o := .lst [x]))
      have e3 := w4 _ _ (upd_same (a := q3) (o := .dK [(.inr "a", x)]))
      have g1 : q1 ≠ a := d3.ne m1
      have k1 : H q1 = none := b3.free m1 g1
      have g2 : q2 ≠ a := (d3.same w1).ne m2
      have k2 : H q2 = none := b3.free (w1.free m2) g2
      have y2 : q2 ≠ sysModules := fun z => by rw [z, w1 _ _ hsys1] at m2; cases m2
      have g3 : q3 ≠ a := (d3.same (w1.trans w2)).ne m3
      have k3 : H q3 = none := b3.free ((w1.trans w2).free m3) g3
      have g4 : q4 ≠ a := (d3.same ((w1.trans w2).trans w3)).ne m4
      refine ⟨.ref a, rfl, a, 3, _, rfl, d3.same v1, by omega, by decide, by decide, fun H5 r5 b5 d5 r50 r51 => ?_⟩
      have bb : But a H1 H5 := (But.of v1).trans b5
      have hx := Dq.same (nw_but hda' bb) hq3
      have hat : ∃ y d', atI [V.ref q1, V.ref q2, V.ref q3] r5 = some y ∧ Dq K (nw H H5) y d' ∧ Sm (1 + (i + 1)) (20 + 4 * (i + 1)) d' := by
        have h : r5 = 0 ∨ r5 = 1 ∨ r5 = 2 := by omega
        rcases h with rfl | rfl | rfl
        · exact ⟨_, .tuple [d], rfl, .tupq (.inl (.inl (by rw [nw_at k1]; exact b5 _ _ g1 e1))) (.cons hx .nil), hs3.t1⟩
        · exact ⟨_, .list [d], rfl, .lstq (.inl (.inl (by rw [nw_at k2]; exact b5 _ _ g2 e2))) y2 (.cons hx .nil), hs3.l1⟩
        · exact ⟨_, .dict [(.str "a", d)], rfl, .dctq (kvs := [(.inr "a", x)]) (by rw [nw_at k3]; exact b5 _ _ g3 e3) rfl (.cons hx .nil), hs3.d1⟩
      obtain ⟨y, d', hy, hyq, hys⟩ := hat
      refine ⟨q4, _, r5, y, rfl, rfl, .inl (.inl (b5 _ _ g4 upd_same)), hy, y, d', _, rfl, b3.trans bb, d5.mono ?_, hyq, hys⟩
      omega
    · rintro σ H1 ⟨x, d, y3, rfl, b3, d3, hq3, hs3⟩
      exact ⟨x, rfl, q _ x d b3 (d3.mono (by omega)) hq3 (hs3.mono (by omega) (by omega))⟩
end
section
variable {P : Program} {w : World} {K : PySem.W.Frag} {mg : Str → Option Value} {base : Heap}
theorem ok_init_InvalidSchedule (TX : Tx K mg) : FnOk P w K mg base CX0 1 TX.fi_InvalidSchedule TX.fdi_InvalidSchedule ["self", "value"] (sp_init K TX.c_InvalidSchedule "value") := by
  refine TX.ui_InvalidSchedule.ok sc_init_InvalidSchedule (fun vs H Q E h => ?_) (fun cdv A outer s H vs Q E hr h => ?_)
  · obtain ⟨a, y, rfl, _⟩ := h; rfl
  · obtain ⟨a, y, rfl, ha, q⟩ := h
    exact ⟨_, (pss_one (ps_ost (pv 0) (pv 1))), y, rfl, .ref a, rfl, a, TX.c_InvalidSchedule, rfl, TX.ox_InvalidSchedule, TX.no_InvalidSchedule, .inl ⟨ha, fun dx n ne => q dx n ne⟩⟩
theorem ok_init_InvalidTree (TX : Tx K mg) : FnOk P w K mg base CX0 1 TX.fi_InvalidTree TX.fdi_InvalidTree ["self", "value"] (sp_init K TX.c_InvalidTree "value") := by
  refine TX.ui_InvalidTree.ok sc_init_InvalidTree (fun vs H Q E h => ?_) (fun cdv A outer s H vs Q E hr h => ?_)
  · obtain ⟨a, y, rfl, _⟩ := h; rfl
  · obtain ⟨a, y, rfl, ha, q⟩ := h
    exact ⟨_, (pss_one (ps_ost (pv 0) (pv 1))), y, rfl, .ref a, rfl, a, TX.c_InvalidTree, rfl, TX.ox_InvalidTree, TX.no_InvalidTree, .inl ⟨ha, fun dx n ne => q dx n ne⟩⟩
theorem ok_init_InvalidCount (TX : Tx K mg) : FnOk P w K mg base CX0 1 TX.fi_InvalidCount TX.fdi_InvalidCount ["self", "value"] (sp_init K TX.c_InvalidCount "value") := by
  refine TX.ui_InvalidCount.ok sc_init_InvalidCount (fun vs H Q E h => ?_) (fun cdv A outer s H vs Q E hr h => ?_)
  · obtain ⟨a, y, rfl, _⟩ := h; rfl
  · obtain ⟨a, y, rfl, ha, q⟩ := h
    exact ⟨_, (pss_one (ps_ost (pv 0) (pv 1))), y, rfl, .ref a, rfl, a, TX.c_InvalidCount, rfl, TX.ox_InvalidCount, TX.no_InvalidCount, .inl ⟨ha, fun dx n ne => q dx n ne⟩⟩
theorem ok_init_InvalidIndex (TX : Tx K mg) : FnOk P w K mg base CX0 1 TX.fi_InvalidIndex TX.fdi_InvalidIndex ["self", "value"] (sp_init K TX.c_InvalidIndex "value") := by
  refine TX.ui_InvalidIndex.ok sc_init_InvalidIndex (fun vs H Q E h => ?_) (fun cdv A outer s H vs Q E hr h => ?_)
  · obtain ⟨a, y, rfl, _⟩ := h; rfl
  · obtain ⟨a, y, rfl, ha, q⟩ := h
    exact ⟨_, (pss_one (ps_ost (pv 0) (pv 1))), y, rfl, .ref a, rfl, a, TX.c_InvalidIndex, rfl, TX.ox_InvalidIndex, TX.no_InvalidIndex, .inl ⟨ha, fun dx n ne => q dx n ne⟩⟩
theorem ok_init_InvalidBudget (TX : Tx K mg) : FnOk P w K mg base CX0 1 TX.fi_InvalidBudget TX.fdi_InvalidBudget ["self", "value"] (sp_init K TX.c_InvalidBudget "value") := by
  refine TX.ui_InvalidBudget.ok sc_init_InvalidBudget (fun vs H Q E h => ?_) (fun cdv A outer s H vs Q E hr h => ?_)
  · obtain ⟨a, y, rfl, _⟩ := h; rfl
  · obtain ⟨a, y, rfl, ha, q⟩ := h
    exact ⟨_, (pss_one (ps_ost (pv 0) (pv 1))), y, rfl, .ref a, rfl, a, TX.c_InvalidBudget, rfl, TX.ox_InvalidBudget, TX.no_InvalidBudget, .inl ⟨ha, fun dx n ne => q dx n ne⟩⟩
theorem ok_init_OutsideBudget (TX : Tx K mg) : FnOk P w K mg base CX0 1 TX.fi_OutsideBudget TX.fdi_OutsideBudget ["self", "value"] (sp_init K TX.c_OutsideBudget "value") := by
  refine TX.ui_OutsideBudget.ok sc_init_OutsideBudget (fun vs H Q E h => ?_) (fun cdv A outer s H vs Q E hr h => ?_)
  · obtain ⟨a, y, rfl, _⟩ := h; rfl
  · obtain ⟨a, y, rfl, ha, q⟩ := h
    exact ⟨_, (pss_one (ps_ost (pv 0) (pv 1))), y, rfl, .ref a, rfl, a, TX.c_OutsideBudget, rfl, TX.ox_OutsideBudget, TX.no_OutsideBudget, .inl ⟨ha, fun dx n ne => q dx n ne⟩⟩
theorem ok_init_InvalidSizes (TX : Tx K mg) : FnOk P w K mg base CX0 1 TX.fi_InvalidSizes TX.fdi_InvalidSizes ["self", "value"] (sp_init K TX.c_InvalidSizes "value") := by
  refine TX.ui_InvalidSizes.ok sc_init_InvalidSizes (fun vs H Q E h => ?_) (fun cdv A outer s H vs Q E hr h => ?_)
  · obtain ⟨a, y, rfl, _⟩ := h; rfl
  · obtain ⟨a, y, rfl, ha, q⟩ := h
    exact ⟨_, (pss_one (ps_ost (pv 0) (pv 1))), y, rfl, .ref a, rfl, a, TX.c_InvalidSizes, rfl, TX.ox_InvalidSizes, TX.no_InvalidSizes, .inl ⟨ha, fun dx n ne => q dx n ne⟩⟩
theorem ok_init_InvalidReads (TX : Tx K mg) : FnOk P w K mg base CX0 1 TX.fi_InvalidReads TX.fdi_InvalidReads ["self", "value"] (sp_init K TX.c_InvalidReads "value") := by
  refine TX.ui_InvalidReads.ok sc_init_InvalidReads (fun vs H Q E h => ?_) (fun cdv A outer s H vs Q E hr h => ?_)
  · obtain ⟨a, y, rfl, _⟩ := h; rfl
  · obtain ⟨a, y, rfl, ha, q⟩ := h
    exact ⟨_, (pss_one (ps_ost (pv 0) (pv 1))), y, rfl, .ref a, rfl, a, TX.c_InvalidReads, rfl, TX.ox_InvalidReads, TX.no_InvalidReads, .inl ⟨ha, fun dx n ne => q dx n ne⟩⟩
theorem ok_init_InvalidState (TX : Tx K mg) : FnOk P w K mg base CX0 1 TX.fi_InvalidState TX.fdi_InvalidState ["self", "value"] (sp_init K TX.c_InvalidState "value") := by
  refine TX.ui_InvalidState.ok sc_init_InvalidState (fun vs H Q E h => ?_) (fun cdv A outer s H vs Q E hr h => ?_)
  · obtain ⟨a, y, rfl, _⟩ := h; rfl
  · obtain ⟨a, y, rfl, ha, q⟩ := h
    exact ⟨_, (pss_one (ps_ost (pv 0) (pv 1))), y, rfl, .ref a, rfl, a, TX.c_InvalidState, rfl, TX.ox_InvalidState, TX.no_InvalidState, .inl ⟨ha, fun dx n ne => q dx n ne⟩⟩
theorem ok_init_InvalidMerge (TX : Tx K mg) : FnOk P w K mg base CX0 1 TX.fi_InvalidMerge TX.fdi_InvalidMerge ["self", "value"] (sp_init K TX.c_InvalidMerge "value") := by
  refine TX.ui_InvalidMerge.ok sc_init_InvalidMerge (fun vs H Q E h => ?_) (fun cdv A outer s H vs Q E hr h => ?_)
  · obtain ⟨a, y, rfl, _⟩ := h; rfl
  · obtain ⟨a, y, rfl, ha, q⟩ := h
    exact ⟨_, (pss_one (ps_ost (pv 0) (pv 1))), y, rfl, .ref a, rfl, a, TX.c_InvalidMerge, rfl, TX.ox_InvalidMerge, TX.no_InvalidMerge, .inl ⟨ha, fun dx n ne => q dx n ne⟩⟩
theorem ok_init_InvalidPolicy (TX : Tx K mg) : FnOk P w K mg base CX0 1 TX.fi_InvalidPolicy TX.fdi_InvalidPolicy ["self", "value"] (sp_init K TX.c_InvalidPolicy "value") := by
  refine TX.ui_InvalidPolicy.ok sc_init_InvalidPolicy (fun vs H Q E h => ?_) (fun cdv A outer s H vs Q E hr h => ?_)
  · obtain ⟨a, y, rfl, _⟩ := h; rfl
  · obtain ⟨a, y, rfl, ha, q⟩ := h
    exact ⟨_, (pss_one (ps_ost (pv 0) (pv 1))), y, rfl, .ref a, rfl, a, TX.c_InvalidPolicy, rfl, TX.ox_InvalidPolicy, TX.no_InvalidPolicy, .inl ⟨ha, fun dx n ne => q dx n ne⟩⟩
theorem ok_init_InvalidKey (TX : Tx K mg) : FnOk P w K mg base CX0 1 TX.fi_InvalidKey TX.fdi_InvalidKey ["self", "value"] (sp_init K TX.c_InvalidKey "value") := by
  refine TX.ui_InvalidKey.ok sc_init_InvalidKey (fun vs H Q E h => ?_) (fun cdv A outer s H vs Q E hr h => ?_)
  · obtain ⟨a, y, rfl, _⟩ := h; rfl
  · obtain ⟨a, y, rfl, ha, q⟩ := h
    exact ⟨_, (pss_one (ps_ost (pv 0) (pv 1))), y, rfl, .ref a, rfl, a, TX.c_InvalidKey, rfl, TX.ox_InvalidKey, TX.no_InvalidKey, .inl ⟨ha, fun dx n ne => q dx n ne⟩⟩
theorem ok_init_InvalidValue (TX : Tx K mg) : FnOk P w K mg base CX0 1 TX.fi_InvalidValue TX.fdi_InvalidValue ["self", "value"] (sp_init K TX.c_InvalidValue "value") := by
  refine TX.ui_InvalidValue.ok sc_init_InvalidValue (fun vs H Q E h => ?_) (fun cdv A outer s H vs Q E hr h => ?_)
  · obtain ⟨a, y, rfl, _⟩ := h; rfl
  · obtain ⟨a, y, rfl, ha, q⟩ := h
    exact ⟨_, (pss_one (ps_ost (pv 0) (pv 1))), y, rfl, .ref a, rfl, a, TX.c_InvalidValue, rfl, TX.ox_InvalidValue, TX.no_InvalidValue, .inl ⟨ha, fun dx n ne => q dx n ne⟩⟩
theorem ok_init_InvalidMoment (TX : Tx K mg) : FnOk P w K mg base CX0 1 TX.fi_InvalidMoment TX.fdi_InvalidMoment ["self", "value"] (sp_init K TX.c_InvalidMoment "value") := by
  refine TX.ui_InvalidMoment.ok sc_init_InvalidMoment (fun vs H Q E h => ?_) (fun cdv A outer s H vs Q E hr h => ?_)
  · obtain ⟨a, y, rfl, _⟩ := h; rfl
  · obtain ⟨a, y, rfl, ha, q⟩ := h
    exact ⟨_, (pss_one (ps_ost (pv 0) (pv 1))), y, rfl, .ref a, rfl, a, TX.c_InvalidMoment, rfl, TX.ox_InvalidMoment, TX.no_InvalidMoment, .inl ⟨ha, fun dx n ne => q dx n ne⟩⟩
theorem ok_init_InvalidText (TX : Tx K mg) : FnOk P w K mg base CX0 1 TX.fi_InvalidText TX.fdi_InvalidText ["self", "value"] (sp_init K TX.c_InvalidText "value") := by
  refine TX.ui_InvalidText.ok sc_init_InvalidText (fun vs H Q E h => ?_) (fun cdv A outer s H vs Q E hr h => ?_)
  · obtain ⟨a, y, rfl, _⟩ := h; rfl
  · obtain ⟨a, y, rfl, ha, q⟩ := h
    exact ⟨_, (pss_one (ps_ost (pv 0) (pv 1))), y, rfl, .ref a, rfl, a, TX.c_InvalidText, rfl, TX.ox_InvalidText, TX.no_InvalidText, .inl ⟨ha, fun dx n ne => q dx n ne⟩⟩
theorem ok_init_InvalidLine (TX : Tx K mg) : FnOk P w K mg base CX0 1 TX.fi_InvalidLine TX.fdi_InvalidLine ["self", "value"] (sp_init K TX.c_InvalidLine "value") := by
  refine TX.ui_InvalidLine.ok sc_init_InvalidLine (fun vs H Q E h => ?_) (fun cdv A outer s H vs Q E hr h => ?_)
  · obtain ⟨a, y, rfl, _⟩ := h; rfl
  · obtain ⟨a, y, rfl, ha, q⟩ := h
    exact ⟨_, (pss_one (ps_ost (pv 0) (pv 1))), y, rfl, .ref a, rfl, a, TX.c_InvalidLine, rfl, TX.ox_InvalidLine, TX.no_InvalidLine, .inl ⟨ha, fun dx n ne => q dx n ne⟩⟩
end
section
variable {P : Program} {w : World} {K : PySem.W.Frag} {mg : Str → Option Value} {base : Heap}
def clss (TX : Tx K mg) : List Addr := [TX.c_InvalidSchedule, TX.c_InvalidTree, TX.c_InvalidCount, TX.c_InvalidIndex, TX.c_InvalidBudget, TX.c_OutsideBudget, TX.c_InvalidSizes, TX.c_InvalidReads, TX.c_InvalidState, TX.c_InvalidMerge, TX.c_InvalidPolicy, TX.c_InvalidKey, TX.c_InvalidValue, TX.c_InvalidMoment, TX.c_InvalidText, TX.c_InvalidLine, TX.c_Exhausted, TX.c_NothingToUndo]
def sp_L_kinds (K : PySem.W.Frag) (ds : List Addr) : Sp := fun vs H Q _ => ∃ (a C : Addr) (o : Option (List (Str × V))) (f : Nat → Bool), vs = [.ref a] ∧ XAt H a C o ∧ ExcC K C ∧ (∀ i d, ds[i]? = some d → PySem.W.kitOne K (.ref C) (.ref d) = some (f i)) ∧ ∀ H' p, Same H H' → H' p = some (.lst (((List.range 18).filter f).map fun (i : Nat) => V.int (i : Int))) → Q (.ref p) H'
theorem ok_L_kinds (TX : Tx K mg) : FnOk P w K mg base CX0 3 TX.a_L_kinds TX.fd_L_kinds ["_law_e"] (sp_L_kinds K (clss TX)) := by
  refine TX.f_L_kinds.ok sc_L_kinds (fun vs H Q E h => ?_) (fun cdv A outer s H vs Q E hr h => ?_)
  · obtain ⟨a, C, o, f, rfl, _⟩ := h; rfl
  · obtain ⟨a, C, o, f, rfl, hx, hc, hk, q⟩ := h
    refine ⟨_, (pss_cons (ps_set (i := 1) sc_L_kinds.nd rfl (.inl rfl) (pe_lst (pa_cons (pe_callB (id := "isinstance") call_isX (by rfl) TX.b_isinstance (by decide +kernel) (pa_cons (pv 0) (pa_cons (pe_glob (v := .ref TX.c_InvalidSchedule) (by rfl) TX.gc_InvalidSchedule rfl) pa_nil))) (pa_cons (pe_callB (id := "isinstance") call_isX (by rfl) TX.b_isinstance (by decide +kernel) (pa_cons (pv 0) (pa_cons (pe_glob (v := .ref TX.c_InvalidTree) (by rfl) TX.gc_InvalidTree rfl) pa_nil))) (pa_cons (pe_callB (id := "isinstance") call_isX (by rfl) TX.b_isinstance (by decide +kernel) (pa_cons (pv 0) (pa_cons (pe_glob (v := .ref TX.c_InvalidCount) (by rfl) TX.gc_InvalidCount rfl) pa_nil))) pa_nil)))))
      (pss_cons (ps_set (i := 1) sc_L_kinds.nd rfl (.inl rfl) (pe_op op_cat (pv 1) (pe_lst (pa_cons (pe_callB (id := "isinstance") call_isX (by rfl) TX.b_isinstance (by decide +kernel) (pa_cons (pv 0) (pa_cons (pe_glob (v := .ref TX.c_InvalidIndex) (by rfl) TX.gc_InvalidIndex rfl) pa_nil))) (pa_cons (pe_callB (id := "isinstance") call_isX (by rfl) TX.b_isinstance (by decide +kernel) (pa_cons (pv 0) (pa_cons (pe_glob (v := .ref TX.c_InvalidBudget) (by rfl) TX.gc_InvalidBudget rfl) pa_nil))) (pa_cons (pe_callB (id := "isinstance") call_isX (by rfl) TX.b_isinstance (by decide +kernel) (pa_cons (pv 0) (pa_cons (pe_glob (v := .ref TX.c_OutsideBudget) (by rfl) TX.gc_OutsideBudget rfl) pa_nil))) pa_nil))))))
      (pss_cons (ps_set (i := 1) sc_L_kinds.nd rfl (.inl rfl) (pe_op op_cat (pv 1) (pe_lst (pa_cons (pe_callB (id := "isinstance") call_isX (by rfl) TX.b_isinstance (by decide +kernel) (pa_cons (pv 0) (pa_cons (pe_glob (v := .ref TX.c_InvalidSizes) (by rfl) TX.gc_InvalidSizes rfl) pa_nil))) (pa_cons (pe_callB (id := "isinstance") call_isX (by rfl) TX.b_isinstance (by decide +kernel) (pa_cons (pv 0) (pa_cons (pe_glob (v := .ref TX.c_InvalidReads) (by rfl) TX.gc_InvalidReads rfl) pa_nil))) (pa_cons (pe_callB (id := "isinstance") call_isX (by rfl) TX.b_isinstance (by decide +kernel) (pa_cons (pv 0) (pa_cons (pe_glob (v := .ref TX.c_InvalidState) (by rfl) TX.gc_InvalidState rfl) pa_nil))) pa_nil))))))
      (pss_cons (ps_set (i := 1) sc_L_kinds.nd rfl (.inl rfl) (pe_op op_cat (pv 1) (pe_lst (pa_cons (pe_callB (id := "isinstance") call_isX (by rfl) TX.b_isinstance (by decide +kernel) (pa_cons (pv 0) (pa_cons (pe_glob (v := .ref TX.c_InvalidMerge) (by rfl) TX.gc_InvalidMerge rfl) pa_nil))) (pa_cons (pe_callB (id := "isinstance") call_isX (by rfl) TX.b_isinstance (by decide +kernel) (pa_cons (pv 0) (pa_cons (pe_glob (v := .ref TX.c_InvalidPolicy) (by rfl) TX.gc_InvalidPolicy rfl) pa_nil))) (pa_cons (pe_callB (id := "isinstance") call_isX (by rfl) TX.b_isinstance (by decide +kernel) (pa_cons (pv 0) (pa_cons (pe_glob (v := .ref TX.c_InvalidKey) (by rfl) TX.gc_InvalidKey rfl) pa_nil))) pa_nil))))))
      (pss_cons (ps_set (i := 1) sc_L_kinds.nd rfl (.inl rfl) (pe_op op_cat (pv 1) (pe_lst (pa_cons (pe_callB (id := "isinstance") call_isX (by rfl) TX.b_isinstance (by decide +kernel) (pa_cons (pv 0) (pa_cons (pe_glob (v := .ref TX.c_InvalidValue) (by rfl) TX.gc_InvalidValue rfl) pa_nil))) (pa_cons (pe_callB (id := "isinstance") call_isX (by rfl) TX.b_isinstance (by decide +kernel) (pa_cons (pv 0) (pa_cons (pe_glob (v := .ref TX.c_InvalidMoment) (by rfl) TX.gc_InvalidMoment rfl) pa_nil))) (pa_cons (pe_callB (id := "isinstance") call_isX (by rfl) TX.b_isinstance (by decide +kernel) (pa_cons (pv 0) (pa_cons (pe_glob (v := .ref TX.c_InvalidText) (by rfl) TX.gc_InvalidText rfl) pa_nil))) pa_nil))))))
      (pss_cons (ps_set (i := 1) sc_L_kinds.nd rfl (.inl rfl) (pe_op op_cat (pv 1) (pe_lst (pa_cons (pe_callB (id := "isinstance") call_isX (by rfl) TX.b_isinstance (by decide +kernel) (pa_cons (pv 0) (pa_cons (pe_glob (v := .ref TX.c_InvalidLine) (by rfl) TX.gc_InvalidLine rfl) pa_nil))) (pa_cons (pe_callB (id := "isinstance") call_isX (by rfl) TX.b_isinstance (by decide +kernel) (pa_cons (pv 0) (pa_cons (pe_glob (v := .ref TX.c_Exhausted) (by rfl) TX.gc_Exhausted rfl) pa_nil))) (pa_cons (pe_callB (id := "isinstance") call_isX (by rfl) TX.b_isinstance (by decide +kernel) (pa_cons (pv 0) (pa_cons (pe_glob (v := .ref TX.c_NothingToUndo) (by rfl) TX.gc_NothingToUndo rfl) pa_nil))) pa_nil))))))
      (pss_one (ps_ret (pe_lc (own := [("_law_k", 2), ("_law_good", 3)]) (by rfl) sc_L_kinds.nd (pi_enum (by rfl) TX.b_enumerate (pa_cons (pv 1) pa_nil)) (blkOk_by (own := [("_law_k", 2), ("_law_good", 3)]) (N := N_L_kinds) (sc := defScope s_L_kinds) (by decide +kernel)) (fun _ _ _ _ _ => (k_pgT2 (K := K) rfl rfl (pg_name (i := 2) sc_L_kinds.nd rfl (Or.inl rfl)) (pg_name (i := 3) sc_L_kinds.nd rfl (Or.inl rfl)))) (fun _ _ _ _ _ => (pts_one (pt_val (pv 3)))) (fun _ _ _ _ _ => (pv 2))))))))))), ?_⟩
    refine ⟨.ref a, rfl, a, C, o, .ref TX.c_InvalidSchedule, .ref TX.c_InvalidSchedule, f 0, rfl, .own _, XAt.same (Same.refl H) hx, hc, hk 0 _ rfl, .ref a, rfl, a, C, o, .ref TX.c_InvalidTree, .ref TX.c_InvalidTree, f 1, rfl, .own _, XAt.same (Same.refl H) hx, hc, hk 1 _ rfl, .ref a, rfl, a, C, o, .ref TX.c_InvalidCount, .ref TX.c_InvalidCount, f 2, rfl, .own _, XAt.same (Same.refl H) hx, hc, hk 2 _ rfl, sz60 (by simp), fun l0 n0 => ?_⟩
    have s0 := same_upd (o := .lst [V.bl (f 0), V.bl (f 1), V.bl (f 2)]) n0
    have h0 : (upd H l0 (.lst [V.bl (f 0), V.bl (f 1), V.bl (f 2)])) l0 = some (.lst [V.bl (f 0), V.bl (f 1), V.bl (f 2)]) := upd_same
    generalize upd H l0 (.lst [V.bl (f 0), V.bl (f 1), V.bl (f 2)]) = G0 at s0 h0 ⊢
    refine ⟨.ref l0, rfl, .ref a, rfl, a, C, o, .ref TX.c_InvalidIndex, .ref TX.c_InvalidIndex, f 3, rfl, .own _, XAt.same s0 hx, hc, hk 3 _ rfl, .ref a, rfl, a, C, o, .ref TX.c_InvalidBudget, .ref TX.c_InvalidBudget, f 4, rfl, .own _, XAt.same s0 hx, hc, hk 4 _ rfl, .ref a, rfl, a, C, o, .ref TX.c_OutsideBudget, .ref TX.c_OutsideBudget, f 5, rfl, .own _, XAt.same s0 hx, hc, hk 5 _ rfl, sz60 (by simp), fun m1 k1 => ?_⟩
    refine ⟨l0, m1, _, _, rfl, rfl, same_upd k1 _ _ h0, upd_same, sz60 (by simp), fun l1 n1 => ?_⟩
    have h1 : (upd (upd G0 m1 (.lst [V.bl (f 3), V.bl (f 4), V.bl (f 5)])) l1 (.lst ([V.bl (f 0), V.bl (f 1), V.bl (f 2)] ++ [V.bl (f 3), V.bl (f 4), V.bl (f 5)]))) l1 = some (.lst [V.bl (f 0), V.bl (f 1), V.bl (f 2), V.bl (f 3), V.bl (f 4), V.bl (f 5)]) := upd_same
    have s1 := (s0.trans (same_upd (o := .lst [V.bl (f 3), V.bl (f 4), V.bl (f 5)]) k1)).trans (same_upd (o := .lst ([V.bl (f 0), V.bl (f 1), V.bl (f 2)] ++ [V.bl (f 3), V.bl (f 4), V.bl (f 5)])) n1)
    generalize upd (upd G0 m1 (.lst [V.bl (f 3), V.bl (f 4), V.bl (f 5)])) l1 (.lst ([V.bl (f 0), V.bl (f 1), V.bl (f 2)] ++ [V.bl (f 3), V.bl (f 4), V.bl (f 5)])) = G1 at s1 h1 ⊢
    refine ⟨.ref l1, rfl, .ref a, rfl, a, C, o, .ref TX.c_InvalidSizes, .ref TX.c_InvalidSizes, f 6, rfl, .own _, XAt.same s1 hx, hc, hk 6 _ rfl, .ref a, rfl, a, C, o, .ref TX.c_InvalidReads, .ref TX.c_InvalidReads, f 7, rfl, .own _, XAt.same s1 hx, hc, hk 7 _ rfl, .ref a, rfl, a, C, o, .ref TX.c_InvalidState, .ref TX.c_InvalidState, f 8, rfl, .own _, XAt.same s1 hx, hc, hk 8 _ rfl, sz60 (by simp), fun m2 k2 => ?_⟩
    refine ⟨l1, m2, _, _, rfl, rfl, same_upd k2 _ _ h1, upd_same, sz60 (by simp), fun l2 n2 => ?_⟩
    have h2 : (upd (upd G1 m2 (.lst [V.bl (f 6), V.bl (f 7), V.bl (f 8)])) l2 (.lst ([V.bl (f 0), V.bl (f 1), V.bl (f 2), V.bl (f 3), V.bl (f 4), V.bl (f 5)] ++ [V.bl (f 6), V.bl (f 7), V.bl (f 8)]))) l2 = some (.lst [V.bl (f 0), V.bl (f 1), V.bl (f 2), V.bl (f 3), V.bl (f 4), V.bl (f 5), V.bl (f 6), V.bl (f 7), V.bl (f 8)]) := upd_same
    have s2 := (s1.trans (same_upd (o := .lst [V.bl (f 6), V.bl (f 7), V.bl (f 8)]) k2)).trans (same_upd (o := .lst ([V.bl (f 0), V.bl (f 1), V.bl (f 2), V.bl (f 3), V.bl (f 4), V.bl (f 5)] ++ [V.bl (f 6), V.bl (f 7), V.bl (f 8)])) n2)
    generalize upd (upd G1 m2 (.lst [V.bl (f 6), V.bl (f 7), V.bl (f 8)])) l2 (.lst ([V.bl (f 0), V.bl (f 1), V.bl (f 2), V.bl (f 3), V.bl (f 4), V.bl (f 5)] ++ [V.bl (f 6), V.bl (f 7), V.bl (f 8)])) = G2 at s2 h2 ⊢
    refine ⟨.ref l2, rfl, .ref a, rfl, a, C, o, .ref TX.c_InvalidMerge, .ref TX.c_InvalidMerge, f 9, rfl, .own _, XAt.same s2 hx, hc, hk 9 _ rfl, .ref a, rfl, a, C, o, .ref TX.c_InvalidPolicy, .ref TX.c_InvalidPolicy, f 10, rfl, .own _, XAt.same s2 hx, hc, hk 10 _ rfl, .ref a, rfl, a, C, o, .ref TX.c_InvalidKey, .ref TX.c_InvalidKey, f 11, rfl, .own _, XAt.same s2 hx, hc, hk 11 _ rfl, sz60 (by simp), fun m3 k3 => ?_⟩
    refine ⟨l2, m3, _, _, rfl, rfl, same_upd k3 _ _ h2, upd_same, sz60 (by simp), fun l3 n3 => ?_⟩
    have h3 : (upd (upd G2 m3 (.lst [V.bl (f 9), V.bl (f 10), V.bl (f 11)])) l3 (.lst ([V.bl (f 0), V.bl (f 1), V.bl (f 2), V.bl (f 3), V.bl (f 4), V.bl (f 5), V.bl (f 6), V.bl (f 7), V.bl (f 8)] ++ [V.bl (f 9), V.bl (f 10), V.bl (f 11)]))) l3 = some (.lst [V.bl (f 0), V.bl (f 1), V.bl (f 2), V.bl (f 3), V.bl (f 4), V.bl (f 5), V.bl (f 6), V.bl (f 7), V.bl (f 8), V.bl (f 9), V.bl (f 10), V.bl (f 11)]) := upd_same
    have s3 := (s2.trans (same_upd (o := .lst [V.bl (f 9), V.bl (f 10), V.bl (f 11)]) k3)).trans (same_upd (o := .lst ([V.bl (f 0), V.bl (f 1), V.bl (f 2), V.bl (f 3), V.bl (f 4), V.bl (f 5), V.bl (f 6), V.bl (f 7), V.bl (f 8)] ++ [V.bl (f 9), V.bl (f 10), V.bl (f 11)])) n3)
    generalize upd (upd G2 m3 (.lst [V.bl (f 9), V.bl (f 10), V.bl (f 11)])) l3 (.lst ([V.bl (f 0), V.bl (f 1), V.bl (f 2), V.bl (f 3), V.bl (f 4), V.bl (f 5), V.bl (f 6), V.bl (f 7), V.bl (f 8)] ++ [V.bl (f 9), V.bl (f 10), V.bl (f 11)])) = G3 at s3 h3 ⊢
    refine ⟨.ref l3, rfl, .ref a, rfl, a, C, o, .ref TX.c_InvalidValue, .ref TX.c_InvalidValue, f 12, rfl, .own _, XAt.same s3 hx, hc, hk 12 _ rfl, .ref a, rfl, a, C, o, .ref TX.c_InvalidMoment, .ref TX.c_InvalidMoment, f 13, rfl, .own _, XAt.same s3 hx, hc, hk 13 _ rfl, .ref a, rfl, a, C, o, .ref TX.c_InvalidText, .ref TX.c_InvalidText, f 14, rfl, .own _, XAt.same s3 hx, hc, hk 14 _ rfl, sz60 (by simp), fun m4 k4 => ?_⟩
    refine ⟨l3, m4, _, _, rfl, rfl, same_upd k4 _ _ h3, upd_same, sz60 (by simp), fun l4 n4 => ?_⟩
    have h4 : (upd (upd G3 m4 (.lst [V.bl (f 12), V.bl (f 13), V.bl (f 14)])) l4 (.lst ([V.bl (f 0), V.bl (f 1), V.bl (f 2), V.bl (f 3), V.bl (f 4), V.bl (f 5), V.bl (f 6), V.bl (f 7), V.bl (f 8), V.bl (f 9), V.bl (f 10), V.bl (f 11)] ++ [V.bl (f 12), V.bl (f 13), V.bl (f 14)]))) l4 = some (.lst [V.bl (f 0), V.bl (f 1), V.bl (f 2), V.bl (f 3), V.bl (f 4), V.bl (f 5), V.bl (f 6), V.bl (f 7), V.bl (f 8), V.bl (f 9), V.bl (f 10), V.bl (f 11), V.bl (f 12), V.bl (f 13), V.bl (f 14)]) := upd_same
    have s4 := (s3.trans (same_upd (o := .lst [V.bl (f 12), V.bl (f 13), V.bl (f 14)]) k4)).trans (same_upd (o := .lst ([V.bl (f 0), V.bl (f 1), V.bl (f 2), V.bl (f 3), V.bl (f 4), V.bl (f 5), V.bl (f 6), V.bl (f 7), V.bl (f 8), V.bl (f 9), V.bl (f 10), V.bl (f 11)] ++ [V.bl (f 12), V.bl (f 13), V.bl (f 14)])) n4)
    generalize upd (upd G3 m4 (.lst [V.bl (f 12), V.bl (f 13), V.bl (f 14)])) l4 (.lst ([V.bl (f 0), V.bl (f 1), V.bl (f 2), V.bl (f 3), V.bl (f 4), V.bl (f 5), V.bl (f 6), V.bl (f 7), V.bl (f 8), V.bl (f 9), V.bl (f 10), V.bl (f 11)] ++ [V.bl (f 12), V.bl (f 13), V.bl (f 14)])) = G4 at s4 h4 ⊢
    refine ⟨.ref l4, rfl, .ref a, rfl, a, C, o, .ref TX.c_InvalidLine, .ref TX.c_InvalidLine, f 15, rfl, .own _, XAt.same s4 hx, hc, hk 15 _ rfl, .ref a, rfl, a, C, o, .ref TX.c_Exhausted, .ref TX.c_Exhausted, f 16, rfl, .own _, XAt.same s4 hx, hc, hk 16 _ rfl, .ref a, rfl, a, C, o, .ref TX.c_NothingToUndo, .ref TX.c_NothingToUndo, f 17, rfl, .own _, XAt.same s4 hx, hc, hk 17 _ rfl, sz60 (by simp), fun m5 k5 => ?_⟩
    refine ⟨l4, m5, _, _, rfl, rfl, same_upd k5 _ _ h4, upd_same, sz60 (by simp), fun l5 n5 => ?_⟩
    have h5 : (upd (upd G4 m5 (.lst [V.bl (f 15), V.bl (f 16), V.bl (f 17)])) l5 (.lst ([V.bl (f 0), V.bl (f 1), V.bl (f 2), V.bl (f 3), V.bl (f 4), V.bl (f 5), V.bl (f 6), V.bl (f 7), V.bl (f 8), V.bl (f 9), V.bl (f 10), V.bl (f 11), V.bl (f 12), V.bl (f 13), V.bl (f 14)] ++ [V.bl (f 15), V.bl (f 16), V.bl (f 17)]))) l5 = some (.lst [V.bl (f 0), V.bl (f 1), V.bl (f 2), V.bl (f 3), V.bl (f 4), V.bl (f 5), V.bl (f 6), V.bl (f 7), V.bl (f 8), V.bl (f 9), V.bl (f 10), V.bl (f 11), V.bl (f 12), V.bl (f 13), V.bl (f 14), V.bl (f 15), V.bl (f 16), V.bl (f 17)]) := upd_same
    have s5 := (s4.trans (same_upd (o := .lst [V.bl (f 15), V.bl (f 16), V.bl (f 17)]) k5)).trans (same_upd (o := .lst ([V.bl (f 0), V.bl (f 1), V.bl (f 2), V.bl (f 3), V.bl (f 4), V.bl (f 5), V.bl (f 6), V.bl (f 7), V.bl (f 8), V.bl (f 9), V.bl (f 10), V.bl (f 11), V.bl (f 12), V.bl (f 13), V.bl (f 14)] ++ [V.bl (f 15), V.bl (f 16), V.bl (f 17)])) n5)
    generalize upd (upd G4 m5 (.lst [V.bl (f 15), V.bl (f 16), V.bl (f 17)])) l5 (.lst ([V.bl (f 0), V.bl (f 1), V.bl (f 2), V.bl (f 3), V.bl (f 4), V.bl (f 5), V.bl (f 6), V.bl (f 7), V.bl (f 8), V.bl (f 9), V.bl (f 10), V.bl (f 11), V.bl (f 12), V.bl (f 13), V.bl (f 14)] ++ [V.bl (f 15), V.bl (f 16), V.bl (f 17)])) = G5 at s5 h5 ⊢
    have hat : ∀ i, i < 18 → [V.bl (f 0), V.bl (f 1), V.bl (f 2), V.bl (f 3), V.bl (f 4), V.bl (f 5), V.bl (f 6), V.bl (f 7), V.bl (f 8), V.bl (f 9), V.bl (f 10), V.bl (f 11), V.bl (f 12), V.bl (f 13), V.bl (f 14), V.bl (f 15), V.bl (f 16), V.bl (f 17)][i]? = some (V.bl (f i)) := fun i hi => by
      have : ∀ j : Fin 18, [V.bl (f 0), V.bl (f 1), V.bl (f 2), V.bl (f 3), V.bl (f 4), V.bl (f 5), V.bl (f 6), V.bl (f 7), V.bl (f 8), V.bl (f 9), V.bl (f 10), V.bl (f 11), V.bl (f 12), V.bl (f 13), V.bl (f 14), V.bl (f 15), V.bl (f 16), V.bl (f 17)][j.val]? = some (V.bl (f j.val)) := by
        intro j
        match j with
        | ⟨0, _⟩ => rfl
        | ⟨1, _⟩ => rfl
        | ⟨2, _⟩ => rfl
        | ⟨3, _⟩ => rfl
        | ⟨4, _⟩ => rfl
        | ⟨5, _⟩ => rfl
        | ⟨6, _⟩ => rfl
        | ⟨7, _⟩ => rfl
        | ⟨8, _⟩ => rfl
        | ⟨9, _⟩ => rfl
        | ⟨10, _⟩ => rfl
        | ⟨11, _⟩ => rfl
        | ⟨12, _⟩ => rfl
        | ⟨13, _⟩ => rfl
        | ⟨14, _⟩ => rfl
        | ⟨15, _⟩ => rfl
        | ⟨16, _⟩ => rfl
        | ⟨17, _⟩ => rfl
        | ⟨n + 18, h⟩ => omega
      exact this ⟨i, hi⟩
    refine ⟨.ref l5, rfl, l5, _, rfl, .inl (.inl h5), fun D nD => ?_⟩
    refine lc_sel (K := K) (walk_enum (xs := [V.bl (f 0), V.bl (f 1), V.bl (f 2), V.bl (f 3), V.bl (f 4), V.bl (f 5), V.bl (f 6), V.bl (f 7), V.bl (f 8), V.bl (f 9), V.bl (f 10), V.bl (f 11), V.bl (f 12), V.bl (f 13), V.bl (f 14), V.bl (f 15), V.bl (f 16), V.bl (f 17)])) f (fun i => .int (i : Int)) (fun i _ => .int _) (by simp) nD (fun H' s' => .inl (.inl (s' _ _ h5))) ?_ ?_ mono_pair (fun σ' H' Q Q' hm h => ?_)
    · rintro i x Hx Hx' hi sx hy R hR
      obtain ⟨Tp, x1, x2, rfl, nT, rfl, e1, e2⟩ := hy
      cases e1
      replace e2 : [V.bl (f 0), V.bl (f 1), V.bl (f 2), V.bl (f 3), V.bl (f 4), V.bl (f 5), V.bl (f 6), V.bl (f 7), V.bl (f 8), V.bl (f 9), V.bl (f 10), V.bl (f 11), V.bl (f 12), V.bl (f 13), V.bl (f 14), V.bl (f 15), V.bl (f 16), V.bl (f 17)][i]? = some x2 := e2
      rw [hat i hi] at e2
      cases e2
      have sT := same_upd (o := .tup [V.int ((i : Nat) : Int), V.bl (f i)]) nT
      exact ⟨Tp, _, rfl, .inl (.inl upd_same), rfl, _, _, rfl, _, [], rfl, rfl, rfl, _, rfl, _, rfl, rfl, sT, fun _ => ⟨_, rfl, hR _ _ sT (.int _)⟩⟩
    · intro H2 acc s2 ha hAcc
      have em : ((List.range 18).filter f).map (fun (i : Nat) => PyData.int (i : Int)) = (((List.range 18).filter f).map fun (i : Nat) => (i : Int)).map PyData.int := by
        rw [List.map_map]; rfl
      have hAcc' : DpAll K H2 acc (((List.range 18).filter f).map (fun (i : Nat) => PyData.int (i : Int))) := hAcc
      rw [em] at hAcc'
      rw [dp_ints_inv hAcc', List.map_map] at ha
      exact q _ D (s5.trans s2) ha
    · obtain ⟨y, e1, b, e2, e3⟩ := h
      exact ⟨y, e1, b, e2, hm _ _ e3⟩
end
theorem mk_same {H : Hp} {a d C : Addr} {y : V} (na : H a = none) (nd : (upd H a (exo a C none)) d = none) (ne : d ≠ a) : Same H (upd (upd (upd H a (exo a C none)) d (exd d [("value", y)])) a (exo a C (some d))) := fun b o e => by
  have h1 : b ≠ a := ne_of_none e na
  have h2 : (upd H a (exo a C none)) b = some o := by rw [upd_ne h1]; exact e
  rw [upd_ne h1, upd_ne (ne_of_none h2 nd), upd_ne h1]
  exact e
theorem mk_at {H : Hp} {a d C : Addr} {y : V} (ne : d ≠ a) : XAt (upd (upd (upd H a (exo a C none)) d (exd d [("value", y)])) a (exo a C (some d))) a C (some [("value", y)]) := .full upd_same (by rw [upd_ne ne]; exact upd_same)
section
variable {P : Program} {w : World} {K : PySem.W.Frag} {mg : Str → Option Value} {base : Heap}
def sp_L_made (K : PySem.W.Frag) (ds : List Addr) : Sp := fun vs H Q _ => ∃ (l : Addr) (f : Nat → V), vs = [.ref l] ∧ SqL K H l ((List.range 16).map f) ∧ ∀ H' p (as : List Addr), Same H H' → as.length = 18 → H' p = some (.lst (as.map V.ref)) →
  (∀ i a C, as[i]? = some a → ds[i]? = some C → ∃ o, XAt H' a C o ∧ (i < 16 → o = some [(("value" : Str), f i)])) → Q (.ref p) H'
theorem ok_L_made (TX : Tx K mg) : FnOk P w K mg base CX0 3 TX.a_L_made TX.fd_L_made ["_law_some"] (sp_L_made K (clss TX)) := by
  refine TX.f_L_made.ok sc_L_made (fun vs H Q E h => ?_) (fun cdv A outer s H vs Q E hr h => ?_)
  · obtain ⟨l, f, rfl, _⟩ := h; rfl
  · obtain ⟨l, f, rfl, hS, q⟩ := h
    refine ⟨_, (pss_cons (ps_set (i := 1) sc_L_made.nd rfl (.inl rfl) (pe_lst (pa_cons (pe_mkX TX.ox_InvalidSchedule TX.ic_InvalidSchedule TX.ti_InvalidSchedule (ok_init_InvalidSchedule TX) (hr.mono (by decide)) TX.bi_InvalidSchedule (by rfl) TX.gc_InvalidSchedule (pa_cons (pe_ix (k_ixL (K := K) rfl) (pv 0) pe_int (fun _ _ => rfl)) pa_nil) pass0) (pa_cons (pe_mkX TX.ox_InvalidTree TX.ic_InvalidTree TX.ti_InvalidTree (ok_init_InvalidTree TX) (hr.mono (by decide)) TX.bi_InvalidTree (by rfl) TX.gc_InvalidTree (pa_cons (pe_ix (k_ixL (K := K) rfl) (pv 0) pe_int (fun _ _ => rfl)) pa_nil) pass0) (pa_cons (pe_mkX TX.ox_InvalidCount TX.ic_InvalidCount TX.ti_InvalidCount (ok_init_InvalidCount TX) (hr.mono (by decide)) TX.bi_InvalidCount (by rfl) TX.gc_InvalidCount (pa_cons (pe_ix (k_ixL (K := K) rfl) (pv 0) pe_int (fun _ _ => rfl)) pa_nil) pass0) (pa_cons (pe_mkX TX.ox_InvalidIndex TX.ic_InvalidIndex TX.ti_InvalidIndex (ok_init_InvalidIndex TX) (hr.mono (by decide)) TX.bi_InvalidIndex (by rfl) TX.gc_InvalidIndex (pa_cons (pe_ix (k_ixL (K := K) rfl) (pv 0) pe_int (fun _ _ => rfl)) pa_nil) pass0) pa_nil))))))
      (pss_cons (ps_set (i := 1) sc_L_made.nd rfl (.inl rfl) (pe_op op_cat (pv 1) (pe_lst (pa_cons (pe_mkX TX.ox_InvalidBudget TX.ic_InvalidBudget TX.ti_InvalidBudget (ok_init_InvalidBudget TX) (hr.mono (by decide)) TX.bi_InvalidBudget (by rfl) TX.gc_InvalidBudget (pa_cons (pe_ix (k_ixL (K := K) rfl) (pv 0) pe_int (fun _ _ => rfl)) pa_nil) pass0) (pa_cons (pe_mkX TX.ox_OutsideBudget TX.ic_OutsideBudget TX.ti_OutsideBudget (ok_init_OutsideBudget TX) (hr.mono (by decide)) TX.bi_OutsideBudget (by rfl) TX.gc_OutsideBudget (pa_cons (pe_ix (k_ixL (K := K) rfl) (pv 0) pe_int (fun _ _ => rfl)) pa_nil) pass0) (pa_cons (pe_mkX TX.ox_InvalidSizes TX.ic_InvalidSizes TX.ti_InvalidSizes (ok_init_InvalidSizes TX) (hr.mono (by decide)) TX.bi_InvalidSizes (by rfl) TX.gc_InvalidSizes (pa_cons (pe_ix (k_ixL (K := K) rfl) (pv 0) pe_int (fun _ _ => rfl)) pa_nil) pass0) (pa_cons (pe_mkX TX.ox_InvalidReads TX.ic_InvalidReads TX.ti_InvalidReads (ok_init_InvalidReads TX) (hr.mono (by decide)) TX.bi_InvalidReads (by rfl) TX.gc_InvalidReads (pa_cons (pe_ix (k_ixL (K := K) rfl) (pv 0) pe_int (fun _ _ => rfl)) pa_nil) pass0) pa_nil)))))))
      (pss_cons (ps_set (i := 1) sc_L_made.nd rfl (.inl rfl) (pe_op op_cat (pv 1) (pe_lst (pa_cons (pe_mkX TX.ox_InvalidState TX.ic_InvalidState TX.ti_InvalidState (ok_init_InvalidState TX) (hr.mono (by decide)) TX.bi_InvalidState (by rfl) TX.gc_InvalidState (pa_cons (pe_ix (k_ixL (K := K) rfl) (pv 0) pe_int (fun _ _ => rfl)) pa_nil) pass0) (pa_cons (pe_mkX TX.ox_InvalidMerge TX.ic_InvalidMerge TX.ti_InvalidMerge (ok_init_InvalidMerge TX) (hr.mono (by decide)) TX.bi_InvalidMerge (by rfl) TX.gc_InvalidMerge (pa_cons (pe_ix (k_ixL (K := K) rfl) (pv 0) pe_int (fun _ _ => rfl)) pa_nil) pass0) (pa_cons (pe_mkX TX.ox_InvalidPolicy TX.ic_InvalidPolicy TX.ti_InvalidPolicy (ok_init_InvalidPolicy TX) (hr.mono (by decide)) TX.bi_InvalidPolicy (by rfl) TX.gc_InvalidPolicy (pa_cons (pe_ix (k_ixL (K := K) rfl) (pv 0) pe_int (fun _ _ => rfl)) pa_nil) pass0) (pa_cons (pe_mkX TX.ox_InvalidKey TX.ic_InvalidKey TX.ti_InvalidKey (ok_init_InvalidKey TX) (hr.mono (by decide)) TX.bi_InvalidKey (by rfl) TX.gc_InvalidKey (pa_cons (pe_ix (k_ixL (K := K) rfl) (pv 0) pe_int (fun _ _ => rfl)) pa_nil) pass0) pa_nil)))))))
      (pss_cons (ps_set (i := 1) sc_L_made.nd rfl (.inl rfl) (pe_op op_cat (pv 1) (pe_lst (pa_cons (pe_mkX TX.ox_InvalidValue TX.ic_InvalidValue TX.ti_InvalidValue (ok_init_InvalidValue TX) (hr.mono (by decide)) TX.bi_InvalidValue (by rfl) TX.gc_InvalidValue (pa_cons (pe_ix (k_ixL (K := K) rfl) (pv 0) pe_int (fun _ _ => rfl)) pa_nil) pass0) (pa_cons (pe_mkX TX.ox_InvalidMoment TX.ic_InvalidMoment TX.ti_InvalidMoment (ok_init_InvalidMoment TX) (hr.mono (by decide)) TX.bi_InvalidMoment (by rfl) TX.gc_InvalidMoment (pa_cons (pe_ix (k_ixL (K := K) rfl) (pv 0) pe_int (fun _ _ => rfl)) pa_nil) pass0) (pa_cons (pe_mkX TX.ox_InvalidText TX.ic_InvalidText TX.ti_InvalidText (ok_init_InvalidText TX) (hr.mono (by decide)) TX.bi_InvalidText (by rfl) TX.gc_InvalidText (pa_cons (pe_ix (k_ixL (K := K) rfl) (pv 0) pe_int (fun _ _ => rfl)) pa_nil) pass0) (pa_cons (pe_mkX TX.ox_InvalidLine TX.ic_InvalidLine TX.ti_InvalidLine (ok_init_InvalidLine TX) (hr.mono (by decide)) TX.bi_InvalidLine (by rfl) TX.gc_InvalidLine (pa_cons (pe_ix (k_ixL (K := K) rfl) (pv 0) pe_int (fun _ _ => rfl)) pa_nil) pass0) pa_nil)))))))
      (pss_one (ps_ret (pe_op op_cat (pv 1) (pe_lst (pa_cons (pe_exc0 PySem.F.excBase_ValueError TX.xi_Exhausted TX.gc_Exhausted TX.kc_Exhausted (by rfl)) (pa_cons (pe_exc0 PySem.F.excBase_ValueError TX.xi_NothingToUndo TX.gc_NothingToUndo TX.kc_NothingToUndo (by rfl)) pa_nil)))))))))), ?_⟩
    have t0 : Same H H := Same.refl H
    refine ⟨.ref l, rfl, l, _, 0, f 0, rfl, rfl, t0.seq hS, rfl, by simp, fun a0 na0 => ⟨a0, f 0, rfl, upd_same, fun d0 nd0 ne0 => ⟨rfl, ?_⟩⟩⟩
    have m0 := mk_same (C := TX.c_InvalidSchedule) (y := f 0) na0 nd0 ne0
    have x0 := mk_at (H := H) (C := TX.c_InvalidSchedule) (y := f 0) ne0
    generalize upd (upd (upd H a0 (exo a0 TX.c_InvalidSchedule none)) d0 (exd d0 [("value", f 0)])) a0 (exo a0 TX.c_InvalidSchedule (some d0)) = G0 at m0 x0 ⊢
    have t1 := t0.trans m0
    refine ⟨.ref l, rfl, l, _, 1, f 1, rfl, rfl, t1.seq hS, rfl, by simp, fun a1 na1 => ⟨a1, f 1, rfl, upd_same, fun d1 nd1 ne1 => ⟨rfl, ?_⟩⟩⟩
    have m1 := mk_same (C := TX.c_InvalidTree) (y := f 1) na1 nd1 ne1
    have x1 := mk_at (H := G0) (C := TX.c_InvalidTree) (y := f 1) ne1
    generalize upd (upd (upd G0 a1 (exo a1 TX.c_InvalidTree none)) d1 (exd d1 [("value", f 1)])) a1 (exo a1 TX.c_InvalidTree (some d1)) = G1 at m1 x1 ⊢
    have t2 := t1.trans m1
    replace x0 := XAt.same m1 x0
    refine ⟨.ref l, rfl, l, _, 2, f 2, rfl, rfl, t2.seq hS, rfl, by simp, fun a2 na2 => ⟨a2, f 2, rfl, upd_same, fun d2 nd2 ne2 => ⟨rfl, ?_⟩⟩⟩
    have m2 := mk_same (C := TX.c_InvalidCount) (y := f 2) na2 nd2 ne2
    have x2 := mk_at (H := G1) (C := TX.c_InvalidCount) (y := f 2) ne2
    generalize upd (upd (upd G1 a2 (exo a2 TX.c_InvalidCount none)) d2 (exd d2 [("value", f 2)])) a2 (exo a2 TX.c_InvalidCount (some d2)) = G2 at m2 x2 ⊢
    have t3 := t2.trans m2
    replace x0 := XAt.same m2 x0
    replace x1 := XAt.same m2 x1
    refine ⟨.ref l, rfl, l, _, 3, f 3, rfl, rfl, t3.seq hS, rfl, by simp, fun a3 na3 => ⟨a3, f 3, rfl, upd_same, fun d3 nd3 ne3 => ⟨rfl, ?_⟩⟩⟩
    have m3 := mk_same (C := TX.c_InvalidIndex) (y := f 3) na3 nd3 ne3
    have x3 := mk_at (H := G2) (C := TX.c_InvalidIndex) (y := f 3) ne3
    generalize upd (upd (upd G2 a3 (exo a3 TX.c_InvalidIndex none)) d3 (exd d3 [("value", f 3)])) a3 (exo a3 TX.c_InvalidIndex (some d3)) = G3 at m3 x3 ⊢
    have t4 := t3.trans m3
    replace x0 := XAt.same m3 x0
    replace x1 := XAt.same m3 x1
    replace x2 := XAt.same m3 x2
    refine ⟨sz60 (by simp), fun r0 n0 => ?_⟩
    have c0 := same_upd (o := .lst [V.ref a0, V.ref a1, V.ref a2, V.ref a3]) n0
    have h0 : (upd G3 r0 (.lst [V.ref a0, V.ref a1, V.ref a2, V.ref a3])) r0 = some (.lst [V.ref a0, V.ref a1, V.ref a2, V.ref a3]) := upd_same
    generalize upd G3 r0 (.lst [V.ref a0, V.ref a1, V.ref a2, V.ref a3]) = J0 at c0 h0 ⊢
    have t5 := t4.trans c0
    replace x0 := XAt.same c0 x0
    replace x1 := XAt.same c0 x1
    replace x2 := XAt.same c0 x2
    replace x3 := XAt.same c0 x3
    refine ⟨.ref r0, rfl, .ref l, rfl, l, _, 4, f 4, rfl, rfl, t5.seq hS, rfl, by simp, fun a4 na4 => ⟨a4, f 4, rfl, upd_same, fun d4 nd4 ne4 => ⟨rfl, ?_⟩⟩⟩
    have m4 := mk_same (C := TX.c_InvalidBudget) (y := f 4) na4 nd4 ne4
    have x4 := mk_at (H := J0) (C := TX.c_InvalidBudget) (y := f 4) ne4
    generalize upd (upd (upd J0 a4 (exo a4 TX.c_InvalidBudget none)) d4 (exd d4 [("value", f 4)])) a4 (exo a4 TX.c_InvalidBudget (some d4)) = G4 at m4 x4 ⊢
    have t6 := t5.trans m4
    replace x0 := XAt.same m4 x0
    replace x1 := XAt.same m4 x1
    replace x2 := XAt.same m4 x2
    replace x3 := XAt.same m4 x3
    replace h0 := m4 _ _ h0
    refine ⟨.ref l, rfl, l, _, 5, f 5, rfl, rfl, t6.seq hS, rfl, by simp, fun a5 na5 => ⟨a5, f 5, rfl, upd_same, fun d5 nd5 ne5 => ⟨rfl, ?_⟩⟩⟩
    have m5 := mk_same (C := TX.c_OutsideBudget) (y := f 5) na5 nd5 ne5
    have x5 := mk_at (H := G4) (C := TX.c_OutsideBudget) (y := f 5) ne5
    generalize upd (upd (upd G4 a5 (exo a5 TX.c_OutsideBudget none)) d5 (exd d5 [("value", f 5)])) a5 (exo a5 TX.c_OutsideBudget (some d5)) = G5 at m5 x5 ⊢
    have t7 := t6.trans m5
    replace x0 := XAt.same m5 x0
    replace x1 := XAt.same m5 x1
    replace x2 := XAt.same m5 x2
    replace x3 := XAt.same m5 x3
    replace x4 := XAt.same m5 x4
    replace h0 := m5 _ _ h0
    refine ⟨.ref l, rfl, l, _, 6, f 6, rfl, rfl, t7.seq hS, rfl, by simp, fun a6 na6 => ⟨a6, f 6, rfl, upd_same, fun d6 nd6 ne6 => ⟨rfl, ?_⟩⟩⟩
    have m6 := mk_same (C := TX.c_InvalidSizes) (y := f 6) na6 nd6 ne6
    have x6 := mk_at (H := G5) (C := TX.c_InvalidSizes) (y := f 6) ne6
    generalize upd (upd (upd G5 a6 (exo a6 TX.c_InvalidSizes none)) d6 (exd d6 [("value", f 6)])) a6 (exo a6 TX.c_InvalidSizes (some d6)) = G6 at m6 x6 ⊢
    have t8 := t7.trans m6
    replace x0 := XAt.same m6 x0
    replace x1 := XAt.same m6 x1
    replace x2 := XAt.same m6 x2
    replace x3 := XAt.same m6 x3
    replace x4 := XAt.same m6 x4
    replace x5 := XAt.same m6 x5
    replace h0 := m6 _ _ h0
    refine ⟨.ref l, rfl, l, _, 7, f 7, rfl, rfl, t8.seq hS, rfl, by simp, fun a7 na7 => ⟨a7, f 7, rfl, upd_same, fun d7 nd7 ne7 => ⟨rfl, ?_⟩⟩⟩
    have m7 := mk_same (C := TX.c_InvalidReads) (y := f 7) na7 nd7 ne7
    have x7 := mk_at (H := G6) (C := TX.c_InvalidReads) (y := f 7) ne7
    generalize upd (upd (upd G6 a7 (exo a7 TX.c_InvalidReads none)) d7 (exd d7 [("value", f 7)])) a7 (exo a7 TX.c_InvalidReads (some d7)) = G7 at m7 x7 ⊢
    have t9 := t8.trans m7
    replace x0 := XAt.same m7 x0
    replace x1 := XAt.same m7 x1
    replace x2 := XAt.same m7 x2
    replace x3 := XAt.same m7 x3
    replace x4 := XAt.same m7 x4
    replace x5 := XAt.same m7 x5
    replace x6 := XAt.same m7 x6
    replace h0 := m7 _ _ h0
    refine ⟨sz60 (by simp), fun e1 k1 => ?_⟩
    refine ⟨r0, e1, _, _, rfl, rfl, same_upd k1 _ _ h0, upd_same, sz60 (by simp), fun r1 n1 => ?_⟩
    have c1 := (same_upd (o := .lst [V.ref a4, V.ref a5, V.ref a6, V.ref a7]) k1).trans (same_upd (o := .lst ([V.ref a0, V.ref a1, V.ref a2, V.ref a3] ++ [V.ref a4, V.ref a5, V.ref a6, V.ref a7])) n1)
    have h1 : (upd (upd G7 e1 (.lst [V.ref a4, V.ref a5, V.ref a6, V.ref a7])) r1 (.lst ([V.ref a0, V.ref a1, V.ref a2, V.ref a3] ++ [V.ref a4, V.ref a5, V.ref a6, V.ref a7]))) r1 = some (.lst [V.ref a0, V.ref a1, V.ref a2, V.ref a3, V.ref a4, V.ref a5, V.ref a6, V.ref a7]) := upd_same
    generalize upd (upd G7 e1 (.lst [V.ref a4, V.ref a5, V.ref a6, V.ref a7])) r1 (.lst ([V.ref a0, V.ref a1, V.ref a2, V.ref a3] ++ [V.ref a4, V.ref a5, V.ref a6, V.ref a7])) = J1 at c1 h1 ⊢
    have t10 := t9.trans c1
    replace x0 := XAt.same c1 x0
    replace x1 := XAt.same c1 x1
    replace x2 := XAt.same c1 x2
    replace x3 := XAt.same c1 x3
    replace x4 := XAt.same c1 x4
    replace x5 := XAt.same c1 x5
    replace x6 := XAt.same c1 x6
    replace x7 := XAt.same c1 x7
    refine ⟨.ref r1, rfl, .ref l, rfl, l, _, 8, f 8, rfl, rfl, t10.seq hS, rfl, by simp, fun a8 na8 => ⟨a8, f 8, rfl, upd_same, fun d8 nd8 ne8 => ⟨rfl, ?_⟩⟩⟩
    have m8 := mk_same (C := TX.c_InvalidState) (y := f 8) na8 nd8 ne8
    have x8 := mk_at (H := J1) (C := TX.c_InvalidState) (y := f 8) ne8
    generalize upd (upd (upd J1 a8 (exo a8 TX.c_InvalidState none)) d8 (exd d8 [("value", f 8)])) a8 (exo a8 TX.c_InvalidState (some d8)) = G8 at m8 x8 ⊢
    have t11 := t10.trans m8
    replace x0 := XAt.same m8 x0
    replace x1 := XAt.same m8 x1
    replace x2 := XAt.same m8 x2
    replace x3 := XAt.same m8 x3
    replace x4 := XAt.same m8 x4
    replace x5 := XAt.same m8 x5
    replace x6 := XAt.same m8 x6
    replace x7 := XAt.same m8 x7
    replace h1 := m8 _ _ h1
    refine ⟨.ref l, rfl, l, _, 9, f 9, rfl, rfl, t11.seq hS, rfl, by simp, fun a9 na9 => ⟨a9, f 9, rfl, upd_same, fun d9 nd9 ne9 => ⟨rfl, ?_⟩⟩⟩
    have m9 := mk_same (C := TX.c_InvalidMerge) (y := f 9) na9 nd9 ne9
    have x9 := mk_at (H := G8) (C := TX.c_InvalidMerge) (y := f 9) ne9
    generalize upd (upd (upd G8 a9 (exo a9 TX.c_InvalidMerge none)) d9 (exd d9 [("value", f 9)])) a9 (exo a9 TX.c_InvalidMerge (some d9)) = G9 at m9 x9 ⊢
    have t12 := t11.trans m9
    replace x0 := XAt.same m9 x0
    replace x1 := XAt.same m9 x1
    replace x2 := XAt.same m9 x2
    replace x3 := XAt.same m9 x3
    replace x4 := XAt.same m9 x4
    replace x5 := XAt.same m9 x5
    replace x6 := XAt.same m9 x6
    replace x7 := XAt.same m9 x7
    replace x8 := XAt.same m9 x8
    replace h1 := m9 _ _ h1
    refine ⟨.ref l, rfl, l, _, 10, f 10, rfl, rfl, t12.seq hS, rfl, by simp, fun a10 na10 => ⟨a10, f 10, rfl, upd_same, fun d10 nd10 ne10 => ⟨rfl, ?_⟩⟩⟩
    have m10 := mk_same (C := TX.c_InvalidPolicy) (y := f 10) na10 nd10 ne10
    have x10 := mk_at (H := G9) (C := TX.c_InvalidPolicy) (y := f 10) ne10
    generalize upd (upd (upd G9 a10 (exo a10 TX.c_InvalidPolicy none)) d10 (exd d10 [("value", f 10)])) a10 (exo a10 TX.c_InvalidPolicy (some d10)) = G10 at m10 x10 ⊢
    have t13 := t12.trans m10
    replace x0 := XAt.same m10 x0
    replace x1 := XAt.same m10 x1
    replace x2 := XAt.same m10 x2
    replace x3 := XAt.same m10 x3
    replace x4 := XAt.same m10 x4
    replace x5 := XAt.same m10 x5
    replace x6 := XAt.same m10 x6
    replace x7 := XAt.same m10 x7
    replace x8 := XAt.same m10 x8
    replace x9 := XAt.same m10 x9
    replace h1 := m10 _ _ h1
    refine ⟨.ref l, rfl, l, _, 11, f 11, rfl, rfl, t13.seq hS, rfl, by simp, fun a11 na11 => ⟨a11, f 11, rfl, upd_same, fun d11 nd11 ne11 => ⟨rfl, ?_⟩⟩⟩
    have m11 := mk_same (C := TX.c_InvalidKey) (y := f 11) na11 nd11 ne11
    have x11 := mk_at (H := G10) (C := TX.c_InvalidKey) (y := f 11) ne11
    generalize upd (upd (upd G10 a11 (exo a11 TX.c_InvalidKey none)) d11 (exd d11 [("value", f 11)])) a11 (exo a11 TX.c_InvalidKey (some d11)) = G11 at m11 x11 ⊢
    have t14 := t13.trans m11
    replace x0 := XAt.same m11 x0
    replace x1 := XAt.same m11 x1
    replace x2 := XAt.same m11 x2
    replace x3 := XAt.same m11 x3
    replace x4 := XAt.same m11 x4
    replace x5 := XAt.same m11 x5
    replace x6 := XAt.same m11 x6
    replace x7 := XAt.same m11 x7
    replace x8 := XAt.same m11 x8
    replace x9 := XAt.same m11 x9
    replace x10 := XAt.same m11 x10
    replace h1 := m11 _ _ h1
    refine ⟨sz60 (by simp), fun e2 k2 => ?_⟩
    refine ⟨r1, e2, _, _, rfl, rfl, same_upd k2 _ _ h1, upd_same, sz60 (by simp), fun r2 n2 => ?_⟩
    have c2 := (same_upd (o := .lst [V.ref a8, V.ref a9, V.ref a10, V.ref a11]) k2).trans (same_upd (o := .lst ([V.ref a0, V.ref a1, V.ref a2, V.ref a3, V.ref a4, V.ref a5, V.ref a6, V.ref a7] ++ [V.ref a8, V.ref a9, V.ref a10, V.ref a11])) n2)
    have h2 : (upd (upd G11 e2 (.lst [V.ref a8, V.ref a9, V.ref a10, V.ref a11])) r2 (.lst ([V.ref a0, V.ref a1, V.ref a2, V.ref a3, V.ref a4, V.ref a5, V.ref a6, V.ref a7] ++ [V.ref a8, V.ref a9, V.ref a10, V.ref a11]))) r2 = some (.lst [V.ref a0, V.ref a1, V.ref a2, V.ref a3, V.ref a4, V.ref a5, V.ref a6, V.ref a7, V.ref a8, V.ref a9, V.ref a10, V.ref a11]) := upd_same
    generalize upd (upd G11 e2 (.lst [V.ref a8, V.ref a9, V.ref a10, V.ref a11])) r2 (.lst ([V.ref a0, V.ref a1, V.ref a2, V.ref a3, V.ref a4, V.ref a5, V.ref a6, V.ref a7] ++ [V.ref a8, V.ref a9, V.ref a10, V.ref a11])) = J2 at c2 h2 ⊢
    have t15 := t14.trans c2
    replace x0 := XAt.same c2 x0
    replace x1 := XAt.same c2 x1
    replace x2 := XAt.same c2 x2
    replace x3 := XAt.same c2 x3
    replace x4 := XAt.same c2 x4
    replace x5 := XAt.same c2 x5
    replace x6 := XAt.same c2 x6
    replace x7 := XAt.same c2 x7
    replace x8 := XAt.same c2 x8
    replace x9 := XAt.same c2 x9
    replace x10 := XAt.same c2 x10
    replace x11 := XAt.same c2 x11
    refine ⟨.ref r2, rfl, .ref l, rfl, l, _, 12, f 12, rfl, rfl, t15.seq hS, rfl, by simp, fun a12 na12 => ⟨a12, f 12, rfl, upd_same, fun d12 nd12 ne12 => ⟨rfl, ?_⟩⟩⟩
    have m12 := mk_same (C := TX.c_InvalidValue) (y := f 12) na12 nd12 ne12
    have x12 := mk_at (H := J2) (C := TX.c_InvalidValue) (y := f 12) ne12
    generalize upd (upd (upd J2 a12 (exo a12 TX.c_InvalidValue none)) d12 (exd d12 [("value", f 12)])) a12 (exo a12 TX.c_InvalidValue (some d12)) = G12 at m12 x12 ⊢
    have t16 := t15.trans m12
    replace x0 := XAt.same m12 x0
    replace x1 := XAt.same m12 x1
    replace x2 := XAt.same m12 x2
    replace x3 := XAt.same m12 x3
    replace x4 := XAt.same m12 x4
    replace x5 := XAt.same m12 x5
    replace x6 := XAt.same m12 x6
    replace x7 := XAt.same m12 x7
    replace x8 := XAt.same m12 x8
    replace x9 := XAt.same m12 x9
    replace x10 := XAt.same m12 x10
    replace x11 := XAt.same m12 x11
    replace h2 := m12 _ _ h2
    refine ⟨.ref l, rfl, l, _, 13, f 13, rfl, rfl, t16.seq hS, rfl, by simp, fun a13 na13 => ⟨a13, f 13, rfl, upd_same, fun d13 nd13 ne13 => ⟨rfl, ?_⟩⟩⟩
    have m13 := mk_same (C := TX.c_InvalidMoment) (y := f 13) na13 nd13 ne13
    have x13 := mk_at (H := G12) (C := TX.c_InvalidMoment) (y := f 13) ne13
    generalize upd (upd (upd G12 a13 (exo a13 TX.c_InvalidMoment none)) d13 (exd d13 [("value", f 13)])) a13 (exo a13 TX.c_InvalidMoment (some d13)) = G13 at m13 x13 ⊢
    have t17 := t16.trans m13
    replace x0 := XAt.same m13 x0
    replace x1 := XAt.same m13 x1
    replace x2 := XAt.same m13 x2
    replace x3 := XAt.same m13 x3
    replace x4 := XAt.same m13 x4
    replace x5 := XAt.same m13 x5
    replace x6 := XAt.same m13 x6
    replace x7 := XAt.same m13 x7
    replace x8 := XAt.same m13 x8
    replace x9 := XAt.same m13 x9
    replace x10 := XAt.same m13 x10
    replace x11 := XAt.same m13 x11
    replace x12 := XAt.same m13 x12
    replace h2 := m13 _ _ h2
    refine ⟨.ref l, rfl, l, _, 14, f 14, rfl, rfl, t17.seq hS, rfl, by simp, fun a14 na14 => ⟨a14, f 14, rfl, upd_same, fun d14 nd14 ne14 => ⟨rfl, ?_⟩⟩⟩
    have m14 := mk_same (C := TX.c_InvalidText) (y := f 14) na14 nd14 ne14
    have x14 := mk_at (H := G13) (C := TX.c_InvalidText) (y := f 14) ne14
    generalize upd (upd (upd G13 a14 (exo a14 TX.c_InvalidText none)) d14 (exd d14 [("value", f 14)])) a14 (exo a14 TX.c_InvalidText (some d14)) = G14 at m14 x14 ⊢
    have t18 := t17.trans m14
    replace x0 := XAt.same m14 x0
    replace x1 := XAt.same m14 x1
    replace x2 := XAt.same m14 x2
    replace x3 := XAt.same m14 x3
    replace x4 := XAt.same m14 x4
    replace x5 := XAt.same m14 x5
    replace x6 := XAt.same m14 x6
    replace x7 := XAt.same m14 x7
    replace x8 := XAt.same m14 x8
    replace x9 := XAt.same m14 x9
    replace x10 := XAt.same m14 x10
    replace x11 := XAt.same m14 x11
    replace x12 := XAt.same m14 x12
    replace x13 := XAt.same m14 x13
    replace h2 := m14 _ _ h2
    refine ⟨.ref l, rfl, l, _, 15, f 15, rfl, rfl, t18.seq hS, rfl, by simp, fun a15 na15 => ⟨a15, f 15, rfl, upd_same, fun d15 nd15 ne15 => ⟨rfl, ?_⟩⟩⟩
    have m15 := mk_same (C := TX.c_InvalidLine) (y := f 15) na15 nd15 ne15
    have x15 := mk_at (H := G14) (C := TX.c_InvalidLine) (y := f 15) ne15
    generalize upd (upd (upd G14 a15 (exo a15 TX.c_InvalidLine none)) d15 (exd d15 [("value", f 15)])) a15 (exo a15 TX.c_InvalidLine (some d15)) = G15 at m15 x15 ⊢
    have t19 := t18.trans m15
    replace x0 := XAt.same m15 x0
    replace x1 := XAt.same m15 x1
    replace x2 := XAt.same m15 x2
    replace x3 := XAt.same m15 x3
    replace x4 := XAt.same m15 x4
    replace x5 := XAt.same m15 x5
    replace x6 := XAt.same m15 x6
    replace x7 := XAt.same m15 x7
    replace x8 := XAt.same m15 x8
    replace x9 := XAt.same m15 x9
    replace x10 := XAt.same m15 x10
    replace x11 := XAt.same m15 x11
    replace x12 := XAt.same m15 x12
    replace x13 := XAt.same m15 x13
    replace x14 := XAt.same m15 x14
    replace h2 := m15 _ _ h2
    refine ⟨sz60 (by simp), fun e3 k3 => ?_⟩
    refine ⟨r2, e3, _, _, rfl, rfl, same_upd k3 _ _ h2, upd_same, sz60 (by simp), fun r3 n3 => ?_⟩
    have c3 := (same_upd (o := .lst [V.ref a12, V.ref a13, V.ref a14, V.ref a15]) k3).trans (same_upd (o := .lst ([V.ref a0, V.ref a1, V.ref a2, V.ref a3, V.ref a4, V.ref a5, V.ref a6, V.ref a7, V.ref a8, V.ref a9, V.ref a10, V.ref a11] ++ [V.ref a12, V.ref a13, V.ref a14, V.ref a15])) n3)
    have h3 : (upd (upd G15 e3 (.lst [V.ref a12, V.ref a13, V.ref a14, V.ref a15])) r3 (.lst ([V.ref a0, V.ref a1, V.ref a2, V.ref a3, V.ref a4, V.ref a5, V.ref a6, V.ref a7, V.ref a8, V.ref a9, V.ref a10, V.ref a11] ++ [V.ref a12, V.ref a13, V.ref a14, V.ref a15]))) r3 = some (.lst [V.ref a0, V.ref a1, V.ref a2, V.ref a3, V.ref a4, V.ref a5, V.ref a6, V.ref a7, V.ref a8, V.ref a9, V.ref a10, V.ref a11, V.ref a12, V.ref a13, V.ref a14, V.ref a15]) := upd_same
    generalize upd (upd G15 e3 (.lst [V.ref a12, V.ref a13, V.ref a14, V.ref a15])) r3 (.lst ([V.ref a0, V.ref a1, V.ref a2, V.ref a3, V.ref a4, V.ref a5, V.ref a6, V.ref a7, V.ref a8, V.ref a9, V.ref a10, V.ref a11] ++ [V.ref a12, V.ref a13, V.ref a14, V.ref a15])) = J3 at c3 h3 ⊢
    have t20 := t19.trans c3
    replace x0 := XAt.same c3 x0
    replace x1 := XAt.same c3 x1
    replace x2 := XAt.same c3 x2
    replace x3 := XAt.same c3 x3
    replace x4 := XAt.same c3 x4
    replace x5 := XAt.same c3 x5
    replace x6 := XAt.same c3 x6
    replace x7 := XAt.same c3 x7
    replace x8 := XAt.same c3 x8
    replace x9 := XAt.same c3 x9
    replace x10 := XAt.same c3 x10
    replace x11 := XAt.same c3 x11
    replace x12 := XAt.same c3 x12
    replace x13 := XAt.same c3 x13
    replace x14 := XAt.same c3 x14
    replace x15 := XAt.same c3 x15
    refine ⟨.ref r3, rfl, fun a16 n16 a17 n17 => ⟨sz60 (by simp), fun e4 k4 => ?_⟩⟩
    have u1 := same_upd (o := ExO (.ref TX.c_Exhausted) a16) n16
    have u2 := same_upd (o := ExO (.ref TX.c_NothingToUndo) a17) n17
    have u3 := same_upd (o := .lst [V.ref a16, V.ref a17]) k4
    refine ⟨r3, e4, _, _, rfl, rfl, u3 _ _ (u2 _ _ (u1 _ _ h3)), upd_same, sz60 (by simp), fun r4 n4 => ?_⟩
    have u4 := same_upd (o := .lst ([V.ref a0, V.ref a1, V.ref a2, V.ref a3, V.ref a4, V.ref a5, V.ref a6, V.ref a7, V.ref a8, V.ref a9, V.ref a10, V.ref a11, V.ref a12, V.ref a13, V.ref a14, V.ref a15] ++ [V.ref a16, V.ref a17])) n4
    have w3 := u3.trans u4
    have w2 := u2.trans w3
    have w1 := u1.trans w2
    have x16 : XAt _ a16 TX.c_Exhausted none := XAt.same w2 (.bare upd_same)
    have x17 : XAt _ a17 TX.c_NothingToUndo none := XAt.same w3 (.bare upd_same)
    refine q _ r4 [a0, a1, a2, a3, a4, a5, a6, a7, a8, a9, a10, a11, a12, a13, a14, a15, a16, a17] (t20.trans w1) rfl upd_same ?_
    intro i a C ha hC
    match i with
    | 0 => cases ha; cases hC; exact ⟨_, XAt.same w1 x0, fun _ => rfl⟩
    | 1 => cases ha; cases hC; exact ⟨_, XAt.same w1 x1, fun _ => rfl⟩
    | 2 => cases ha; cases hC; exact ⟨_, XAt.same w1 x2, fun _ => rfl⟩
    | 3 => cases ha; cases hC; exact ⟨_, XAt.same w1 x3, fun _ => rfl⟩
    | 4 => cases ha; cases hC; exact ⟨_, XAt.same w1 x4, fun _ => rfl⟩
    | 5 => cases ha; cases hC; exact ⟨_, XAt.same w1 x5, fun _ => rfl⟩
    | 6 => cases ha; cases hC; exact ⟨_, XAt.same w1 x6, fun _ => rfl⟩
    | 7 => cases ha; cases hC; exact ⟨_, XAt.same w1 x7, fun _ => rfl⟩
    | 8 => cases ha; cases hC; exact ⟨_, XAt.same w1 x8, fun _ => rfl⟩
    | 9 => cases ha; cases hC; exact ⟨_, XAt.same w1 x9, fun _ => rfl⟩
    | 10 => cases ha; cases hC; exact ⟨_, XAt.same w1 x10, fun _ => rfl⟩
    | 11 => cases ha; cases hC; exact ⟨_, XAt.same w1 x11, fun _ => rfl⟩
    | 12 => cases ha; cases hC; exact ⟨_, XAt.same w1 x12, fun _ => rfl⟩
    | 13 => cases ha; cases hC; exact ⟨_, XAt.same w1 x13, fun _ => rfl⟩
    | 14 => cases ha; cases hC; exact ⟨_, XAt.same w1 x14, fun _ => rfl⟩
    | 15 => cases ha; cases hC; exact ⟨_, XAt.same w1 x15, fun _ => rfl⟩
    | 16 => cases ha; cases hC; exact ⟨_, x16, fun z => absurd z (by decide)⟩
    | 17 => cases ha; cases hC; exact ⟨_, x17, fun z => absurd z (by decide)⟩
    | n + 18 => simp at ha
end
section
variable {P : Program} {w : World} {K : PySem.W.Frag} {mg : Str → Option Value} {base : Heap}
theorem DqAll.app {K : PySem.W.Frag} {H : Hp} : ∀ {vs ws : List V} {ds es : List PyData}, DqAll K H vs ds → DqAll K H ws es → DqAll K H (vs ++ ws) (ds ++ es)
  | _, _, _, _, .nil, s => s
  | _, _, _, _, .cons a b, s => .cons a (DqAll.app b s)
theorem DqAll.len {K : PySem.W.Frag} {H : Hp} : ∀ {vs : List V} {ds : List PyData}, DqAll K H vs ds → vs.length = ds.length
  | _, _, .nil => rfl
  | _, _, .cons a b => by simp [DqAll.len b]
theorem sm_list {k n : Nat} : ∀ {ds : List PyData}, (∀ d, d ∈ ds → Sm k n d) → PyData.depthAll ds ≤ k ∧ PyData.showableAll ds = true ∧ PyData.leavesShortAll 40 ds = true ∧ PyData.bulkAll ds ≤ (n + 1) * ds.length
  | [], _ => ⟨by simp [PyData.depthAll], by simp [PyData.showableAll], by simp [PyData.leavesShortAll], by simp [PyData.bulkAll]⟩
  | d :: ds, h => by
    have h1 := h d (List.mem_cons_self ..)
    obtain ⟨a, b, c, e⟩ := sm_list fun x hx => h x (List.mem_cons_of_mem _ hx)
    refine ⟨?_, by simp only [PyData.showableAll, h1.shw, b, Bool.and_self], by simp only [PyData.leavesShortAll, h1.short, c, Bool.and_self], ?_⟩
    · simp only [PyData.depthAll]
      have := h1.dep
      omega
    · simp only [PyData.bulkAll, List.length_cons]
      have := h1.bulk
      rw [Nat.mul_add]
      omega
theorem sm_repr {ds : List PyData} (h : ∀ d, d ∈ ds → Sm 30 200 d) (hl : ds.length = 16) : (PyData.list ds).showable = true ∧ (PyData.list ds).depth ≤ 60 ∧ (PyData.list ds).shown.length ≤ sizeLine := by
  obtain ⟨a, b, c, e⟩ := sm_list h
  refine ⟨by simp only [PyData.showable]; exact b, by simp only [PyData.depth]; omega, ?_⟩
  have h1 := PyData.shown_le_bulk 40 (by decide) (.list ds) (by simp only [PyData.leavesShort]; exact c)
  have h2 : (PyData.list ds).bulk ≤ 201 * 16 + 2 := by simp only [PyData.bulk]; rw [hl] at e; omega
  have h3 : (40 + 2) * (PyData.list ds).bulk ≤ 42 * (201 * 16 + 2) := Nat.mul_le_mul (Nat.le_refl _) h2
  have h4 : sizeLine = 16777216 := by decide
  omega
theorem nodup_at {cs : List Addr} (h : cs.Nodup) {i j : Nat} {c d : Addr} (hi : cs[i]? = some c) (hj : cs[j]? = some d) : (c == d) = decide (i = j) := by
  by_cases e : i = j
  · subst e
    rw [hi] at hj
    cases hj
    simp
  · have : c ≠ d := fun z => by
      subst z
      obtain ⟨q1, r1⟩ := List.getElem?_eq_some_iff.mp hi
      obtain ⟨q2, r2⟩ := List.getElem?_eq_some_iff.mp hj
      rcases Nat.lt_or_gt_of_ne e with hlt | hlt
      · exact List.pairwise_iff_getElem.mp h i j q1 q2 hlt (by rw [r1, r2])
      · exact List.pairwise_iff_getElem.mp h j i q2 q1 hlt (by rw [r1, r2])
    simp [e, this]
def sp_law (K : PySem.W.Frag) : Sp := fun vs H Q _ => ∃ (a : Addr) (ns : List Int) (o : HO), vs = [.ref a] ∧ SqL K H a (ns.map V.int) ∧ ns.length ≤ 63 ∧ H sysModules = some o ∧ ∀ H', Q (.bl true) H'
theorem nth2 {n : Nat} (x : List V) (h : x.length = n) (i : Nat) (hi : i < (if (if (x.length : Int) < 2 then (x.length : Int) else 2) > 1 then (if (x.length : Int) < 2 then (x.length : Int) else 2) else 1 : Int).toNat) : i ≤ 62 := by
  have : (if (if (x.length : Int) < 2 then (x.length : Int) else 2) > 1 then (if (x.length : Int) < 2 then (x.length : Int) else 2) else 1) ≤ 3 := by split <;> split <;> omega
  omega
theorem ok_law (TX : Tx K mg) : FnG P w K mg base CX0 4 TX.a_law TX.fd_law ["_law_script"] (sp_law K) := by
  refine Fun.okG TX.f_law sc_law (fun vs H Q E h => ?_) (fun cdv A hgd outer s H vs Q E hr h => ?_)
  · obtain ⟨a, ns, o, rfl, _⟩ := h; rfl
  · obtain ⟨a, ns, o, rfl, hS, hlen, hsys, q⟩ := h
    refine ⟨_, (pss_cons (ps_for PassesOwn.never rfl (pi_range1 (by rfl) TX.b_range (pa_cons (pe_callB (id := "max") (call_max2 rfl) (by rfl) TX.b_max (by decide +kernel) (pa_cons pe_int (pa_cons (pe_callB (id := "min") (call_min2 rfl) (by rfl) TX.b_min (by decide +kernel) (pa_cons pe_int (pa_cons (pe_callB (id := "len") (k_len (K := K) rfl) (by rfl) TX.b_len (by decide +kernel) (pa_cons (pv 0) pa_nil)) pa_nil))) pa_nil))) pa_nil)) (pg_name (i := 1) sc_law.nd rfl (.inl rfl))
        (pss_cons (ps_set (i := 2) sc_law.nd rfl (.inr rfl) (pe_call (ok_L_start_draws TX) (hr.mono (by decide)) (by rfl) TX.g_L_start_draws TX.f_L_start_draws.kp TX.bd_L_start_draws .nil pass0 (pa_cons (pv 0) (pa_cons (pv 1) pa_nil))))
        (pss_cons (ps_setLc (i := 3) (own := [("_law_turn", 9)]) (by rfl) sc_law.nd rfl rfl (sw_true rfl rfl rfl (by decide +kernel)) (pi_range1 (by rfl) TX.b_range (pa_cons pe_int pa_nil)) (blkOk_by (own := [("_law_turn", 9)]) (N := N_law) (sc := defScope s_law) (by decide +kernel)) (fun _ _ _ _ _ => (pg_name (i := 9) sc_law.nd rfl (Or.inl rfl))) (fun _ _ _ _ _ => pts_nil) (fun _ _ _ _ _ => (pe_call (ok_L_odd TX) (hr.mono (by decide)) (by rfl) TX.g_L_odd TX.f_L_odd.kp TX.bd_L_odd .nil pass0 (pa_cons (pv 2) pa_nil))))
        (pss_cons (ps_set (i := 4) sc_law.nd rfl (.inl rfl) (pe_call (ok_L_made TX) (hr.mono (by decide)) (by rfl) TX.g_L_made TX.f_L_made.kp TX.bd_L_made .nil pass0 (pa_cons (pv 3) pa_nil)))
        (pss_cons (ps_for PassesOwn.never rfl (pi_enum (by rfl) TX.b_enumerate (pa_cons (pv 4) pa_nil)) (pg_tup rfl (pgs_cons (pg_name (i := 5) sc_law.nd rfl (.inl rfl)) (pgs_cons (pg_name (i := 6) sc_law.nd rfl (.inl rfl)) pgs_nil)))
          (pss_one (ps_if (PW.pt (pw_or (pt_cmpR (op_neD hr.units) (pe_call (ok_L_kinds TX) (hr.mono (by decide)) (by rfl) TX.g_L_kinds TX.f_L_kinds.kp TX.bd_L_kinds .nil pass0 (pa_cons (pv 6) pa_nil)) (pe_lst (pa_cons (pv 5) pa_nil)) (nomark _)) (pw_or (pt_not (pt_val (pe_callB (id := "isinstance") call_isX (by rfl) TX.b_isinstance (by decide +kernel) (pa_cons (pv 6) (pa_cons (pe_glob (v := .ref TX.c_MergeBudgetError) (by rfl) TX.gc_MergeBudgetError rfl) pa_nil))))) (pw_or1 (pt_not (pt_val (pe_callB (id := "isinstance") call_isX (by rfl) TX.b_isinstance (by decide +kernel) (pa_cons (pv 6) (pa_cons (pe_bltn (v := .ty "ValueError") (by rfl) TX.b_ValueError (by decide +kernel) rfl) pa_nil)))))))))
            (pss_one (ps_ret pe_bl))
            pss_nil)))
        (pss_cons (ps_set (i := 7) sc_law.nd rfl (.inl rfl) (pe_lst (pa_cons (pe_xv (pe_ix (k_ixL (K := K) rfl) (pv 4) pe_int (fun _ _ => rfl))) (pa_cons (pe_xv (pe_ix (k_ixL (K := K) rfl) (pv 4) pe_int (fun _ _ => rfl))) (pa_cons (pe_xv (pe_ix (k_ixL (K := K) rfl) (pv 4) pe_int (fun _ _ => rfl))) (pa_cons (pe_xv (pe_ix (k_ixL (K := K) rfl) (pv 4) pe_int (fun _ _ => rfl))) (pa_cons (pe_xv (pe_ix (k_ixL (K := K) rfl) (pv 4) pe_int (fun _ _ => rfl))) (pa_cons (pe_xv (pe_ix (k_ixL (K := K) rfl) (pv 4) pe_int (fun _ _ => rfl))) pa_nil))))))))
        (pss_cons (ps_set (i := 8) sc_law.nd rfl (.inl rfl) (pe_lst (pa_cons (pe_xv (pe_ix (k_ixL (K := K) rfl) (pv 4) pe_int (fun _ _ => rfl))) (pa_cons (pe_xv (pe_ix (k_ixL (K := K) rfl) (pv 4) pe_int (fun _ _ => rfl))) (pa_cons (pe_xv (pe_ix (k_ixL (K := K) rfl) (pv 4) pe_int (fun _ _ => rfl))) (pa_cons (pe_xv (pe_ix (k_ixL (K := K) rfl) (pv 4) pe_int (fun _ _ => rfl))) (pa_cons (pe_xv (pe_ix (k_ixL (K := K) rfl) (pv 4) pe_int (fun _ _ => rfl))) (pa_cons (pe_xv (pe_ix (k_ixL (K := K) rfl) (pv 4) pe_int (fun _ _ => rfl))) pa_nil))))))))
        (pss_one (ps_if (pt_cmpR op_ne (pe_callB (id := "repr") (call_reprQ hgd hr.units) (by rfl) TX.b_repr (by decide +kernel) (pa_cons (pe_op op_cat (pe_op op_cat (pv 7) (pv 8)) (pe_lst (pa_cons (pe_xv (pe_ix (k_ixL (K := K) rfl) (pv 4) pe_int (fun _ _ => rfl))) (pa_cons (pe_xv (pe_ix (k_ixL (K := K) rfl) (pv 4) pe_int (fun _ _ => rfl))) (pa_cons (pe_xv (pe_ix (k_ixL (K := K) rfl) (pv 4) pe_int (fun _ _ => rfl))) (pa_cons (pe_xv (pe_ix (k_ixL (K := K) rfl) (pv 4) pe_int (fun _ _ => rfl))) pa_nil)))))) pa_nil)) (pe_callB (id := "repr") (call_reprQ hgd hr.units) (by rfl) TX.b_repr (by decide +kernel) (pa_cons (pv 3) pa_nil)) (nomark _))
          (pss_one (ps_ret pe_bl))
          pss_nil)))))))))
      (pss_one (ps_ret pe_bl))), ?_⟩
    refine ⟨.ref a, rfl, a, _, rfl, .inl hS, _, _, rfl, _, _, rfl, _, rfl, ?_, ?_, ?_⟩
    · split <;> split <;> omega
    · split <;> split <;> omega
    refine for_range (lo := 0) (fun i σ H2 => ∃ y1 y2 y3 y4 y5 y6 y7 y8 y9, σ = [some (.ref a), y1, y2, y3, y4, y5, y6, y7, y8, y9] ∧ Same H H2) ⟨_, _, _, _, _, _, _, _, _, rfl, Same.refl _⟩ ?_ (fun σ H' _ => q H')
    rintro i σ H1 hi ⟨y1, y2, y3, y4, y5, y6, y7, y8, y9, rfl, s1⟩
    have hi2 : i ≤ 62 := nth2 _ rfl i hi
    have ei : (0 : Int) + (i : Nat) = (i : Int) := by omega
    rw [ei]
    refine ⟨.ref a, rfl, _, rfl, a, ns, i, rfl, s1.seq hS, hi2, fun H2 p s2 np pp => ?_⟩
    have s12 := s1.trans s2
    have npH : H p = none := s1.free np
    have nps : p ≠ sysModules := fun z => by rw [z, hsys] at npH; cases npH
    obtain ⟨pd, ps, pm, hpd, _⟩ := id pp
    -- the drawn values
    refine ⟨_, rfl, by decide, by decide, fun D nD => ?_⟩
    have hDp : D ≠ p := pp.ne nD
    have hDs : D ≠ sysModules := fun z => by rw [z, s12 _ _ hsys] at nD; cases nD
    refine lc_it walk_range (fun i G => Same (del H2 p) G ∧ Deal G p (30 * (i : Int)) ∧ ∃ acc ds, G D = some (.lst acc) ∧ acc.length = i ∧ DqAll K (nw (upd H2 D (.lst [])) G) acc ds ∧ ∀ d, d ∈ ds → Sm 30 200 d) ?_ (fun _ _ _ _ => trivial) ?_ ?_
    · refine ⟨fun b u e => ?_, (pp.same (same_upd nD)).mono (by omega), [], [], upd_same, rfl, .nil, by simp⟩
      by_cases z : b = p
      · rw [z, del_same] at e; cases e
      · rw [del_ne z] at e
        exact same_upd nD _ _ e
    · rintro i2 x G G' hi3 ⟨g1, g2, acc, ds, g3, g4, g5, g6⟩ ⟨rfl, rfl⟩
      have hi16 : i2 < 16 := hi3
      have hsysG : G' sysModules = some o := g1 _ _ (by rw [del_ne (Ne.symm nps)]; exact s12 _ _ hsys)
      refine ⟨rfl, ?_⟩
      refine ⟨.ref p, rfl, p, _, o, rfl, g2, by omega, hsysG, nps, fun G2 y d b2 d2 hq hsm => ⟨acc, b2 _ _ hDp g3, sz61 (by omega), ?_⟩⟩
      have hpG : ∃ u, G' p = some u := by obtain ⟨_, _, _, h, _⟩ := g2; exact ⟨_, h⟩
      have dom : ∀ b u, (upd H2 D (.lst [])) b = some u → ∃ v, G' b = some v := fun b u e => by
        by_cases z : b = D
        · rw [z]; exact ⟨_, g3⟩
        · rw [upd_ne z] at e
          by_cases z2 : b = p
          · rw [z2]; exact hpG
          · exact ⟨_, g1 _ _ (by rw [del_ne z2]; exact e)⟩
      have sOld : Same (nw (upd H2 D (.lst [])) G') (nw (upd H2 D (.lst [])) (upd G2 D (.lst (acc ++ [y])))) := fun b u e => by
        cases hb : (upd H2 D (.lst [])) b with
        | some z => rw [nw_old hb] at e; cases e
        | none =>
          rw [nw_at hb] at e ⊢
          have z1 : b ≠ D := fun z => by rw [z, upd_same] at hb; cases hb
          have z2 : b ≠ p := fun z => by rw [z, upd_ne (Ne.symm hDp), hpd] at hb; cases hb
          rw [upd_ne z1]
          exact b2 _ _ z2 e
      have sNew : Same (nw G' G2) (nw (upd H2 D (.lst [])) (upd G2 D (.lst (acc ++ [y])))) := fun b u e => by
        cases hb : G' b with
        | some z => rw [nw_old hb] at e; cases e
        | none =>
          rw [nw_at hb] at e
          have z1 : b ≠ D := fun z => by rw [z, g3] at hb; cases hb
          have hb2 : (upd H2 D (.lst [])) b = none := by
            cases hh : (upd H2 D (.lst [])) b with
            | none => rfl
            | some v => obtain ⟨w, hw⟩ := dom b v hh; rw [hw] at hb; cases hb
          rw [nw_at hb2, upd_ne z1]
          exact e
      refine ⟨fun b u e => ?_, ?_, acc ++ [y], ds ++ [d], upd_same, by simp [g4], DqAll.app (DqAll.same sOld g5) (.cons (Dq.same sNew hq) .nil), fun z hz => ?_⟩
      · have z1 : b ≠ D := fun z => by
          rw [z, del_ne hDp, nD] at e; cases e
        have z2 : b ≠ p := fun z => by rw [z, del_same] at e; cases e
        rw [upd_ne z1]
        exact b2 _ _ z2 (g1 _ _ e)
      · obtain ⟨dd, ss, mm, h1, h2⟩ := d2
        refine Deal.mono (n := 30 * (i2 : Int) + 30) ⟨dd, ss, mm, by rw [upd_ne (Ne.symm hDp)]; exact h1, h2⟩ (by omega)
      · rcases List.mem_append.mp hz with hz | hz
        · exact g6 z hz
        · have : z = d := by simpa using hz
          subst this; exact hsm
    rintro G ⟨g1, g2, acc, ds, g3, g4, g5, g6⟩
    have g5' := DqAll.same nw_sub g5
    have sHG : Same H G := fun b u e => by
      have z : b ≠ p := ne_of_none e npH
      exact g1 _ _ (by rw [del_ne z]; exact s12 _ _ e)
    have hl16 : acc.length = 16 := g4
    have hd16 : ds.length = 16 := by rw [← DqAll.len g5', hl16]
    clear g1 g5
    have eF : acc = (List.range 16).map fun i => acc.getD i .non := by
      refine List.ext_getElem? fun i => ?_
      rw [List.getElem?_map]
      by_cases h : i < 16
      · rw [List.getElem?_range h, List.getElem?_eq_getElem (by omega)]
        show _ = some (acc.getD i .non)
        rw [List.getD_eq_getElem?_getD, List.getElem?_eq_getElem (by omega)]
        rfl
      · rw [List.getElem?_eq_none (by omega), List.getElem?_eq_none (by rw [List.length_range]; omega)]
        rfl
    refine ⟨.ref D, rfl, D, fun i => acc.getD i .non, rfl, by rw [← eF]; exact .inl (.inl g3), fun H3 pm as s3 hal hpm hX => ?_⟩
    obtain ⟨a0, a1, a2, a3, a4, a5, a6, a7, a8, a9, a10, a11, a12, a13, a14, a15, a16, a17, rfl⟩ : ∃ a0 a1 a2 a3 a4 a5 a6 a7 a8 a9 a10 a11 a12 a13 a14 a15 a16 a17, as = [a0, a1, a2, a3, a4, a5, a6, a7, a8, a9, a10, a11, a12, a13, a14, a15, a16, a17] := match as, hal with
      | [a0, a1, a2, a3, a4, a5, a6, a7, a8, a9, a10, a11, a12, a13, a14, a15, a16, a17], _ => ⟨a0, a1, a2, a3, a4, a5, a6, a7, a8, a9, a10, a11, a12, a13, a14, a15, a16, a17, rfl⟩
    obtain ⟨o0, x0, v0⟩ := hX 0 a0 TX.c_InvalidSchedule rfl rfl
    obtain ⟨o1, x1, v1⟩ := hX 1 a1 TX.c_InvalidTree rfl rfl
    obtain ⟨o2, x2, v2⟩ := hX 2 a2 TX.c_InvalidCount rfl rfl
    obtain ⟨o3, x3, v3⟩ := hX 3 a3 TX.c_InvalidIndex rfl rfl
    obtain ⟨o4, x4, v4⟩ := hX 4 a4 TX.c_InvalidBudget rfl rfl
    obtain ⟨o5, x5, v5⟩ := hX 5 a5 TX.c_OutsideBudget rfl rfl
    obtain ⟨o6, x6, v6⟩ := hX 6 a6 TX.c_InvalidSizes rfl rfl
    obtain ⟨o7, x7, v7⟩ := hX 7 a7 TX.c_InvalidReads rfl rfl
    obtain ⟨o8, x8, v8⟩ := hX 8 a8 TX.c_InvalidState rfl rfl
    obtain ⟨o9, x9, v9⟩ := hX 9 a9 TX.c_InvalidMerge rfl rfl
    obtain ⟨o10, x10, v10⟩ := hX 10 a10 TX.c_InvalidPolicy rfl rfl
    obtain ⟨o11, x11, v11⟩ := hX 11 a11 TX.c_InvalidKey rfl rfl
    obtain ⟨o12, x12, v12⟩ := hX 12 a12 TX.c_InvalidValue rfl rfl
    obtain ⟨o13, x13, v13⟩ := hX 13 a13 TX.c_InvalidMoment rfl rfl
    obtain ⟨o14, x14, v14⟩ := hX 14 a14 TX.c_InvalidText rfl rfl
    obtain ⟨o15, x15, v15⟩ := hX 15 a15 TX.c_InvalidLine rfl rfl
    obtain ⟨o16, x16, v16⟩ := hX 16 a16 TX.c_Exhausted rfl rfl
    obtain ⟨o17, x17, v17⟩ := hX 17 a17 TX.c_NothingToUndo rfl rfl
    cases v0 (by decide)
    cases v1 (by decide)
    cases v2 (by decide)
    cases v3 (by decide)
    cases v4 (by decide)
    cases v5 (by decide)
    cases v6 (by decide)
    cases v7 (by decide)
    cases v8 (by decide)
    cases v9 (by decide)
    cases v10 (by decide)
    cases v11 (by decide)
    cases v12 (by decide)
    cases v13 (by decide)
    cases v14 (by decide)
    cases v15 (by decide)
    have hcl : ∀ (j : Nat) C, (clss TX)[j]? = some C → ExcC K C := fun j C => by
      match j with
      | 0 => intro h; cases h; exact TX.xe_InvalidSchedule
      | 1 => intro h; cases h; exact TX.xe_InvalidTree
      | 2 => intro h; cases h; exact TX.xe_InvalidCount
      | 3 => intro h; cases h; exact TX.xe_InvalidIndex
      | 4 => intro h; cases h; exact TX.xe_InvalidBudget
      | 5 => intro h; cases h; exact TX.xe_OutsideBudget
      | 6 => intro h; cases h; exact TX.xe_InvalidSizes
      | 7 => intro h; cases h; exact TX.xe_InvalidReads
      | 8 => intro h; cases h; exact TX.xe_InvalidState
      | 9 => intro h; cases h; exact TX.xe_InvalidMerge
      | 10 => intro h; cases h; exact TX.xe_InvalidPolicy
      | 11 => intro h; cases h; exact TX.xe_InvalidKey
      | 12 => intro h; cases h; exact TX.xe_InvalidValue
      | 13 => intro h; cases h; exact TX.xe_InvalidMoment
      | 14 => intro h; cases h; exact TX.xe_InvalidText
      | 15 => intro h; cases h; exact TX.xe_InvalidLine
      | 16 => intro h; cases h; exact TX.xe_Exhausted
      | 17 => intro h; cases h; exact TX.xe_NothingToUndo
      | j + 18 => intro h; simp [clss] at h
    -- each is of its own class alone
    refine ⟨.ref pm, rfl, pm, _, rfl, .inl (.inl hpm), for_it walk_enum (fun j σ H4 => Same H3 H4 ∧ ∃ y5 y6, σ = [some (.ref a), some (.int (i : Int)), some (.ref p), some (.ref D), some (.ref pm), y5, y6, y7, y8, y9]) ⟨Same.refl _, _, _, rfl⟩ (fun j σ H4 _ h => .inl (.inl (h.1 _ _ hpm))) ?_ ?_⟩
    · rintro j x σ H4 H4' hj ⟨s4, y5, y6, rfl⟩ ⟨T, x1, x2, rfl, nT, rfl, e1, e2⟩
      dsimp only at e1 e2
      cases e1
      have hj18 : j < 18 := hj
      have hgo : ∃ aj Cj oj, x2 = .ref aj ∧ (clss TX)[j]? = some Cj ∧ XAt H3 aj Cj oj := by
        match j, hj18, e2 with
        | 0, _, e2 => cases e2; exact ⟨_, _, _, rfl, rfl, x0⟩
        | 1, _, e2 => cases e2; exact ⟨_, _, _, rfl, rfl, x1⟩
        | 2, _, e2 => cases e2; exact ⟨_, _, _, rfl, rfl, x2⟩
        | 3, _, e2 => cases e2; exact ⟨_, _, _, rfl, rfl, x3⟩
        | 4, _, e2 => cases e2; exact ⟨_, _, _, rfl, rfl, x4⟩
        | 5, _, e2 => cases e2; exact ⟨_, _, _, rfl, rfl, x5⟩
        | 6, _, e2 => cases e2; exact ⟨_, _, _, rfl, rfl, x6⟩
        | 7, _, e2 => cases e2; exact ⟨_, _, _, rfl, rfl, x7⟩
        | 8, _, e2 => cases e2; exact ⟨_, _, _, rfl, rfl, x8⟩
        | 9, _, e2 => cases e2; exact ⟨_, _, _, rfl, rfl, x9⟩
        | 10, _, e2 => cases e2; exact ⟨_, _, _, rfl, rfl, x10⟩
        | 11, _, e2 => cases e2; exact ⟨_, _, _, rfl, rfl, x11⟩
        | 12, _, e2 => cases e2; exact ⟨_, _, _, rfl, rfl, x12⟩
        | 13, _, e2 => cases e2; exact ⟨_, _, _, rfl, rfl, x13⟩
        | 14, _, e2 => cases e2; exact ⟨_, _, _, rfl, rfl, x14⟩
        | 15, _, e2 => cases e2; exact ⟨_, _, _, rfl, rfl, x15⟩
        | 16, _, e2 => cases e2; exact ⟨_, _, _, rfl, rfl, x16⟩
        | 17, _, e2 => cases e2; exact ⟨_, _, _, rfl, rfl, x17⟩
        | j + 18, h, _ => omega
      obtain ⟨aj, Cj, oj, rfl, hCj, hxj⟩ := hgo
      have s5 := same_upd (o := .tup [V.int (j : Int), V.ref aj]) nT
      have hx5 := XAt.same (s4.trans s5) hxj
      have hmem := List.mem_of_getElem? hCj
      obtain ⟨kt1, kt2, kt3⟩ := kitB_ok TX.kits hmem
      have hE := hcl j Cj hCj
      refine ⟨T, _, rfl, .inl (.inl upd_same), rfl, _, _, rfl, _, _, rfl, rfl, ?_⟩
      refine ⟨.ref aj, rfl, aj, Cj, oj, fun i => decide (j = i), rfl, hx5, hE, fun i d hd => ?_, fun H6 l6 s6 h6 => ?_⟩
      · rw [kt1 d (List.mem_of_getElem? hd), nodup_at TX.kitn hCj hd]
      have eL : ((List.range 18).filter fun i => decide (j = i)) = [j] := by
        match j, hj18 with
        | 0, _ => rfl
        | 1, _ => rfl
        | 2, _ => rfl
        | 3, _ => rfl
        | 4, _ => rfl
        | 5, _ => rfl
        | 6, _ => rfl
        | 7, _ => rfl
        | 8, _ => rfl
        | 9, _ => rfl
        | 10, _ => rfl
        | 11, _ => rfl
        | 12, _ => rfl
        | 13, _ => rfl
        | 14, _ => rfl
        | 15, _ => rfl
        | 16, _ => rfl
        | 17, _ => rfl
        | j + 18, h => omega
      rw [eL] at h6
      have h6' : H6 l6 = some (.lst [V.int (j : Int)]) := h6
      refine ⟨_, rfl, sz60 (by simp), fun l7 nl7 => ?_⟩
      have s7 := same_upd (o := .lst [V.int (j : Int)]) nl7
      refine ⟨.list [.int (j : Int)], .list [.int (j : Int)], .lst (.inl (.inl (s7 _ _ h6'))) (.cons (.int _) .nil), .lst (.inl (.inl upd_same)) (.cons (.int _) .nil), (Sh.lst (k := 0) (Sh.ints [(j : Int)])).shaped (by decide), (Sh.lst (k := 0) (Sh.ints [(j : Int)])).shaped (by decide), ?_⟩
      have ev : PyData.eqv (.list [.int (j : Int)]) (.list [.int (j : Int)]) = true := SeqAt.eqv_refl _ (Sh.lst (k := 0) (Sh.ints [(j : Int)])).1
      rw [ev]
      refine ⟨false, rfl, iteF ?_⟩
      have hx7 := XAt.same (s6.trans s7) hx5
      refine ⟨.ref aj, rfl, aj, Cj, oj, _, _, true, rfl, .own _, hx7, hE, kt2, true, rfl, iteF ?_⟩
      refine ⟨.ref aj, rfl, aj, Cj, oj, _, _, true, rfl, .ty _, hx7, hE, kt3, true, rfl, iteF ?_⟩
      exact ⟨s4.trans (s5.trans (s6.trans s7)), _, _, rfl⟩
    · rintro σ H4 ⟨s4, y5, y6, rfl⟩
      have hpm4 := s4 _ _ hpm
      have sHH := sHG.trans (s3.trans s4)
      have hD4 := s4 _ _ (s3 _ _ g3)
      have hA4 := DqAll.same (s3.trans s4) g5'
      refine ⟨.ref pm, rfl, pm, _, _, .ref a0, rfl, rfl, .inl (.inl hpm4), rfl, a0, TX.c_InvalidSchedule, _, acc.getD 0 .non, rfl, XAt.same (s4) x0, TX.xf_InvalidSchedule, TX.no_InvalidSchedule, rfl, .ref pm, rfl, pm, _, _, .ref a1, rfl, rfl, .inl (.inl hpm4), rfl, a1, TX.c_InvalidTree, _, acc.getD 1 .non, rfl, XAt.same (s4) x1, TX.xf_InvalidTree, TX.no_InvalidTree, rfl, .ref pm, rfl, pm, _, _, .ref a2, rfl, rfl, .inl (.inl hpm4), rfl, a2, TX.c_InvalidCount, _, acc.getD 2 .non, rfl, XAt.same (s4) x2, TX.xf_InvalidCount, TX.no_InvalidCount, rfl, .ref pm, rfl, pm, _, _, .ref a3, rfl, rfl, .inl (.inl hpm4), rfl, a3, TX.c_InvalidIndex, _, acc.getD 3 .non, rfl, XAt.same (s4) x3, TX.xf_InvalidIndex, TX.no_InvalidIndex, rfl, .ref pm, rfl, pm, _, _, .ref a4, rfl, rfl, .inl (.inl hpm4), rfl, a4, TX.c_InvalidBudget, _, acc.getD 4 .non, rfl, XAt.same (s4) x4, TX.xf_InvalidBudget, TX.no_InvalidBudget, rfl, .ref pm, rfl, pm, _, _, .ref a5, rfl, rfl, .inl (.inl hpm4), rfl, a5, TX.c_OutsideBudget, _, acc.getD 5 .non, rfl, XAt.same (s4) x5, TX.xf_OutsideBudget, TX.no_OutsideBudget, rfl, sz60 (by simp), fun l1 n1 => ?_⟩
      have t1 := same_upd (o := .lst [acc.getD 0 .non, acc.getD 1 .non, acc.getD 2 .non, acc.getD 3 .non, acc.getD 4 .non, acc.getD 5 .non]) n1
      have f1 := upd_same (H := H4) (a := l1) (o := .lst [acc.getD 0 .non, acc.getD 1 .non, acc.getD 2 .non, acc.getD 3 .non, acc.getD 4 .non, acc.getD 5 .non])
      refine ⟨.ref pm, rfl, pm, _, _, .ref a6, rfl, rfl, .inl (.inl (t1 _ _ hpm4)), rfl, a6, TX.c_InvalidSizes, _, acc.getD 6 .non, rfl, XAt.same (s4.trans t1) x6, TX.xf_InvalidSizes, TX.no_InvalidSizes, rfl, .ref pm, rfl, pm, _, _, .ref a7, rfl, rfl, .inl (.inl (t1 _ _ hpm4)), rfl, a7, TX.c_InvalidReads, _, acc.getD 7 .non, rfl, XAt.same (s4.trans t1) x7, TX.xf_InvalidReads, TX.no_InvalidReads, rfl, .ref pm, rfl, pm, _, _, .ref a8, rfl, rfl, .inl (.inl (t1 _ _ hpm4)), rfl, a8, TX.c_InvalidState, _, acc.getD 8 .non, rfl, XAt.same (s4.trans t1) x8, TX.xf_InvalidState, TX.no_InvalidState, rfl, .ref pm, rfl, pm, _, _, .ref a9, rfl, rfl, .inl (.inl (t1 _ _ hpm4)), rfl, a9, TX.c_InvalidMerge, _, acc.getD 9 .non, rfl, XAt.same (s4.trans t1) x9, TX.xf_InvalidMerge, TX.no_InvalidMerge, rfl, .ref pm, rfl, pm, _, _, .ref a10, rfl, rfl, .inl (.inl (t1 _ _ hpm4)), rfl, a10, TX.c_InvalidPolicy, _, acc.getD 10 .non, rfl, XAt.same (s4.trans t1) x10, TX.xf_InvalidPolicy, TX.no_InvalidPolicy, rfl, .ref pm, rfl, pm, _, _, .ref a11, rfl, rfl, .inl (.inl (t1 _ _ hpm4)), rfl, a11, TX.c_InvalidKey, _, acc.getD 11 .non, rfl, XAt.same (s4.trans t1) x11, TX.xf_InvalidKey, TX.no_InvalidKey, rfl, sz60 (by simp), fun l2 n2 => ?_⟩
      have t2 := same_upd (o := .lst [acc.getD 6 .non, acc.getD 7 .non, acc.getD 8 .non, acc.getD 9 .non, acc.getD 10 .non, acc.getD 11 .non]) n2
      refine ⟨.ref l1, rfl, .ref l2, rfl, l1, l2, _, _, rfl, rfl, t2 _ _ f1, upd_same, sz60 (by simp), fun l3 n3 => ?_⟩
      have t3 := same_upd (o := .lst ([acc.getD 0 .non, acc.getD 1 .non, acc.getD 2 .non, acc.getD 3 .non, acc.getD 4 .non, acc.getD 5 .non] ++ [acc.getD 6 .non, acc.getD 7 .non, acc.getD 8 .non, acc.getD 9 .non, acc.getD 10 .non, acc.getD 11 .non])) n3
      have t13 := t1.trans (t2.trans t3)
      refine ⟨.ref pm, rfl, pm, _, _, .ref a12, rfl, rfl, .inl (.inl (t13 _ _ hpm4)), rfl, a12, TX.c_InvalidValue, _, acc.getD 12 .non, rfl, XAt.same (s4.trans t13) x12, TX.xf_InvalidValue, TX.no_InvalidValue, rfl, .ref pm, rfl, pm, _, _, .ref a13, rfl, rfl, .inl (.inl (t13 _ _ hpm4)), rfl, a13, TX.c_InvalidMoment, _, acc.getD 13 .non, rfl, XAt.same (s4.trans t13) x13, TX.xf_InvalidMoment, TX.no_InvalidMoment, rfl, .ref pm, rfl, pm, _, _, .ref a14, rfl, rfl, .inl (.inl (t13 _ _ hpm4)), rfl, a14, TX.c_InvalidText, _, acc.getD 14 .non, rfl, XAt.same (s4.trans t13) x14, TX.xf_InvalidText, TX.no_InvalidText, rfl, .ref pm, rfl, pm, _, _, .ref a15, rfl, rfl, .inl (.inl (t13 _ _ hpm4)), rfl, a15, TX.c_InvalidLine, _, acc.getD 15 .non, rfl, XAt.same (s4.trans t13) x15, TX.xf_InvalidLine, TX.no_InvalidLine, rfl, sz60 (by simp), fun l4 n4 => ?_⟩
      have t4 := same_upd (o := .lst [acc.getD 12 .non, acc.getD 13 .non, acc.getD 14 .non, acc.getD 15 .non]) n4
      refine ⟨l3, l4, _, _, rfl, rfl, t4 _ _ upd_same, upd_same, sz60 (by simp), fun l5 n5 => ?_⟩
      have t5 := same_upd (o := .lst (([acc.getD 0 .non, acc.getD 1 .non, acc.getD 2 .non, acc.getD 3 .non, acc.getD 4 .non, acc.getD 5 .non] ++ [acc.getD 6 .non, acc.getD 7 .non, acc.getD 8 .non, acc.getD 9 .non, acc.getD 10 .non, acc.getD 11 .non]) ++ [acc.getD 12 .non, acc.getD 13 .non, acc.getD 14 .non, acc.getD 15 .non])) n5
      have t15 := t13.trans (t4.trans t5)
      have eA : ([acc.getD 0 .non, acc.getD 1 .non, acc.getD 2 .non, acc.getD 3 .non, acc.getD 4 .non, acc.getD 5 .non] ++ [acc.getD 6 .non, acc.getD 7 .non, acc.getD 8 .non, acc.getD 9 .non, acc.getD 10 .non, acc.getD 11 .non]) ++ [acc.getD 12 .non, acc.getD 13 .non, acc.getD 14 .non, acc.getD 15 .non] = acc := by
        rw [eF]
        simp [List.range_succ]
      have hsys5 := (sHH.trans t13).trans t4 _ _ hsys
      have hl5s : l5 ≠ sysModules := fun z => by rw [z, hsys5] at n5; cases n5
      obtain ⟨r1, r2, r3⟩ := sm_repr g6 hd16
      have hA5 := DqAll.same t15 hA4
      have hA6 : ∀ G, DqAll K G acc ds → DqAll K G (([acc.getD 0 .non, acc.getD 1 .non, acc.getD 2 .non, acc.getD 3 .non, acc.getD 4 .non, acc.getD 5 .non] ++ [acc.getD 6 .non, acc.getD 7 .non, acc.getD 8 .non, acc.getD 9 .non, acc.getD 10 .non, acc.getD 11 .non]) ++ [acc.getD 12 .non, acc.getD 13 .non, acc.getD 14 .non, acc.getD 15 .non]) ds := fun G h => by rw [eA]; exact h
      refine ⟨.ref l5, .list ds, rfl, .lstq (.inl (.inl upd_same)) hl5s (hA6 _ hA5), r1, r2, r3, .ref D, rfl, .ref D, .list ds, rfl, .lstq (.inl (.inl (t15 _ _ hD4))) hDs hA5, r1, r2, r3, rfl, false, by simp, iteF ?_⟩
      exact ⟨_, _, _, _, _, _, _, _, _, rfl, sHH.trans t15⟩
end
theorem all_mk {l : PySem.W.OpenLaw} {w : World} {K : PySem.W.Frag} {h : Heap} {mg : Str → Option Value} {fa : Addr} (X : K.In h) (G : h.Ns mainGlobals mg) (hfa : mg "law" = some (.ref fa))
    {f_L_start_draws : Addr} {od_L_start_draws an_L_start_draws : Option Addr} {sl_L_start_draws : Array (Option Value)} {oc_L_start_draws kV_L_start_draws dc_L_start_draws pm_L_start_draws cd_L_start_draws ct_L_start_draws : Value}
    (a_L_start_draws : PySem.W.nsIn K mainGlobals "_law_start_draws" = some (some (.ref f_L_start_draws))) (l_L_start_draws : K.lookup f_L_start_draws = some ⟨oc_L_start_draws, od_L_start_draws, .func (PySem.W.fnOf "_law_start_draws" "_law_start_draws" (defArgs s_L_start_draws) (defBody s_L_start_draws) (defScope s_L_start_draws) .none kV_L_start_draws dc_L_start_draws pm_L_start_draws an_L_start_draws cd_L_start_draws ct_L_start_draws), sl_L_start_draws⟩) (c_L_start_draws : PySem.W.codeIn K cd_L_start_draws "_law_start_draws" = true) (k_L_start_draws : PySem.W.keepIn K (.ref f_L_start_draws) = true)
    {f_L_next : Addr} {od_L_next an_L_next : Option Addr} {sl_L_next : Array (Option Value)} {oc_L_next kV_L_next dc_L_next pm_L_next cd_L_next ct_L_next : Value}
    (a_L_next : PySem.W.nsIn K mainGlobals "_law_next" = some (some (.ref f_L_next))) (l_L_next : K.lookup f_L_next = some ⟨oc_L_next, od_L_next, .func (PySem.W.fnOf "_law_next" "_law_next" (defArgs s_L_next) (defBody s_L_next) (defScope s_L_next) .none kV_L_next dc_L_next pm_L_next an_L_next cd_L_next ct_L_next), sl_L_next⟩) (c_L_next : PySem.W.codeIn K cd_L_next "_law_next" = true) (k_L_next : PySem.W.keepIn K (.ref f_L_next) = true)
    {f_L_pick : Addr} {od_L_pick an_L_pick : Option Addr} {sl_L_pick : Array (Option Value)} {oc_L_pick kV_L_pick dc_L_pick pm_L_pick cd_L_pick ct_L_pick : Value}
    (a_L_pick : PySem.W.nsIn K mainGlobals "_law_pick" = some (some (.ref f_L_pick))) (l_L_pick : K.lookup f_L_pick = some ⟨oc_L_pick, od_L_pick, .func (PySem.W.fnOf "_law_pick" "_law_pick" (defArgs s_L_pick) (defBody s_L_pick) (defScope s_L_pick) .none kV_L_pick dc_L_pick pm_L_pick an_L_pick cd_L_pick ct_L_pick), sl_L_pick⟩) (c_L_pick : PySem.W.codeIn K cd_L_pick "_law_pick" = true) (k_L_pick : PySem.W.keepIn K (.ref f_L_pick) = true)
    {f_L_odd : Addr} {od_L_odd an_L_odd : Option Addr} {sl_L_odd : Array (Option Value)} {oc_L_odd kV_L_odd dc_L_odd pm_L_odd cd_L_odd ct_L_odd : Value}
    (a_L_odd : PySem.W.nsIn K mainGlobals "_law_odd" = some (some (.ref f_L_odd))) (l_L_odd : K.lookup f_L_odd = some ⟨oc_L_odd, od_L_odd, .func (PySem.W.fnOf "_law_odd" "_law_odd" (defArgs s_L_odd) (defBody s_L_odd) (defScope s_L_odd) .none kV_L_odd dc_L_odd pm_L_odd an_L_odd cd_L_odd ct_L_odd), sl_L_odd⟩) (c_L_odd : PySem.W.codeIn K cd_L_odd "_law_odd" = true) (k_L_odd : PySem.W.keepIn K (.ref f_L_odd) = true)
    {f_L_kinds : Addr} {od_L_kinds an_L_kinds : Option Addr} {sl_L_kinds : Array (Option Value)} {oc_L_kinds kV_L_kinds dc_L_kinds pm_L_kinds cd_L_kinds ct_L_kinds : Value}
    (a_L_kinds : PySem.W.nsIn K mainGlobals "_law_kinds" = some (some (.ref f_L_kinds))) (l_L_kinds : K.lookup f_L_kinds = some ⟨oc_L_kinds, od_L_kinds, .func (PySem.W.fnOf "_law_kinds" "_law_kinds" (defArgs s_L_kinds) (defBody s_L_kinds) (defScope s_L_kinds) .none kV_L_kinds dc_L_kinds pm_L_kinds an_L_kinds cd_L_kinds ct_L_kinds), sl_L_kinds⟩) (c_L_kinds : PySem.W.codeIn K cd_L_kinds "_law_kinds" = true) (k_L_kinds : PySem.W.keepIn K (.ref f_L_kinds) = true)
    {f_L_made : Addr} {od_L_made an_L_made : Option Addr} {sl_L_made : Array (Option Value)} {oc_L_made kV_L_made dc_L_made pm_L_made cd_L_made ct_L_made : Value}
    (a_L_made : PySem.W.nsIn K mainGlobals "_law_made" = some (some (.ref f_L_made))) (l_L_made : K.lookup f_L_made = some ⟨oc_L_made, od_L_made, .func (PySem.W.fnOf "_law_made" "_law_made" (defArgs s_L_made) (defBody s_L_made) (defScope s_L_made) .none kV_L_made dc_L_made pm_L_made an_L_made cd_L_made ct_L_made), sl_L_made⟩) (c_L_made : PySem.W.codeIn K cd_L_made "_law_made" = true) (k_L_made : PySem.W.keepIn K (.ref f_L_made) = true)
    {f_law : Addr} {od_law an_law : Option Addr} {sl_law : Array (Option Value)} {oc_law kV_law dc_law pm_law cd_law ct_law : Value}
    (a_law : PySem.W.nsIn K mainGlobals "law" = some (some (.ref f_law))) (l_law : K.lookup f_law = some ⟨oc_law, od_law, .func (PySem.W.fnOf "law" "law" (defArgs s_law) (defBody s_law) (defScope s_law) .none kV_law dc_law pm_law an_law cd_law ct_law), sl_law⟩) (c_law : PySem.W.codeIn K cd_law "law" = true) (k_law : PySem.W.keepIn K (.ref f_law) = true)
    (z_int : PySem.W.nsIn K mainGlobals "int" = some none)
    (z_len : PySem.W.nsIn K mainGlobals "len" = some none)
    (z_abs : PySem.W.nsIn K mainGlobals "abs" = some none)
    (z_range : PySem.W.nsIn K mainGlobals "range" = some none)
    (z_isinstance : PySem.W.nsIn K mainGlobals "isinstance" = some none)
    (z_enumerate : PySem.W.nsIn K mainGlobals "enumerate" = some none)
    (z_max : PySem.W.nsIn K mainGlobals "max" = some none)
    (z_min : PySem.W.nsIn K mainGlobals "min" = some none)
    (z_repr : PySem.W.nsIn K mainGlobals "repr" = some none)
    (z_ValueError : PySem.W.nsIn K mainGlobals "ValueError" = some none)
    {C_MergeBudgetError : Addr} (ac_MergeBudgetError : PySem.W.nsIn K mainGlobals "MergeBudgetError" = some (some (.ref C_MergeBudgetError))) (kc_MergeBudgetError : PySem.W.keepIn K (.ref C_MergeBudgetError) = true) {kd_MergeBudgetError : ClassData} (kl_MergeBudgetError : PySem.W.clsIn K C_MergeBudgetError = some kd_MergeBudgetError) (kt_MergeBudgetError : PySem.W.typeIn K (.ref C_MergeBudgetError) = some (.type "type"))
    (xp_MergeBudgetError : PySem.W.findIn K (.ref C_MergeBudgetError) "__getattribute__" = some (some (.builtin "BaseException.__getattribute__"))) (xq_MergeBudgetError : PySem.W.findIn K (.ref C_MergeBudgetError) "__getattr__" = some none) (xr_MergeBudgetError : PySem.W.subIn K (.ref C_MergeBudgetError) (.type "BaseException") = some true) (xs_MergeBudgetError : PySem.W.hasDictIn K C_MergeBudgetError = true) (xt_MergeBudgetError : PySem.W.findIn K (.ref C_MergeBudgetError) "__class__" = some (some (.builtin "object.__class__"))) (xu_MergeBudgetError : PySem.W.mroIn K C_MergeBudgetError (.type "object") = some true)
    (xi_MergeBudgetError : PySem.W.excIn K C_MergeBudgetError PySem.HandSPX.veTail "ValueError.__new__" = true)
    {C_InvalidSchedule : Addr} (ac_InvalidSchedule : PySem.W.nsIn K mainGlobals "InvalidSchedule" = some (some (.ref C_InvalidSchedule))) (kc_InvalidSchedule : PySem.W.keepIn K (.ref C_InvalidSchedule) = true) {kd_InvalidSchedule : ClassData} (kl_InvalidSchedule : PySem.W.clsIn K C_InvalidSchedule = some kd_InvalidSchedule) (kt_InvalidSchedule : PySem.W.typeIn K (.ref C_InvalidSchedule) = some (.type "type"))
    (xp_InvalidSchedule : PySem.W.findIn K (.ref C_InvalidSchedule) "__getattribute__" = some (some (.builtin "BaseException.__getattribute__"))) (xq_InvalidSchedule : PySem.W.findIn K (.ref C_InvalidSchedule) "__getattr__" = some none) (xr_InvalidSchedule : PySem.W.subIn K (.ref C_InvalidSchedule) (.type "BaseException") = some true) (xs_InvalidSchedule : PySem.W.hasDictIn K C_InvalidSchedule = true) (xt_InvalidSchedule : PySem.W.findIn K (.ref C_InvalidSchedule) "__class__" = some (some (.builtin "object.__class__"))) (xu_InvalidSchedule : PySem.W.mroIn K C_InvalidSchedule (.type "object") = some true)
    {nm_InvalidSchedule q_InvalidSchedule : Str} {N_InvalidSchedule : Addr} {bs_InvalidSchedule bm_InvalidSchedule : List Value} {sn_InvalidSchedule : _} {sub_InvalidSchedule : _} {ab_InvalidSchedule : _} {col_InvalidSchedule : _} {dd_InvalidSchedule : _} {k0_InvalidSchedule : _} {k1_InvalidSchedule : _} {k2_InvalidSchedule : _} {k3_InvalidSchedule : _} {k5_InvalidSchedule : _}
    (xL_InvalidSchedule : K.lookup C_InvalidSchedule = some (excClassObj nm_InvalidSchedule q_InvalidSchedule C_InvalidSchedule N_InvalidSchedule bs_InvalidSchedule bm_InvalidSchedule true sn_InvalidSchedule sub_InvalidSchedule ab_InvalidSchedule col_InvalidSchedule dd_InvalidSchedule k0_InvalidSchedule k1_InvalidSchedule k2_InvalidSchedule k3_InvalidSchedule k5_InvalidSchedule "ValueError.__new__")) (rv_InvalidSchedule : PySem.HandSPX.refsVE bm_InvalidSchedule = true)
    {I_InvalidSchedule : Addr} {iod_InvalidSchedule ian_InvalidSchedule : Option Addr} {isl_InvalidSchedule : Array (Option Value)} {ioc_InvalidSchedule ikV_InvalidSchedule idc_InvalidSchedule ipm_InvalidSchedule icd_InvalidSchedule ict_InvalidSchedule : Value}
    (ic_InvalidSchedule : PySem.W.findIn K (.ref C_InvalidSchedule) "__init__" = some (some (.ref I_InvalidSchedule))) (oa_InvalidSchedule : PySem.W.findIn K (.ref C_InvalidSchedule) "__setattr__" = some (some (.builtin "object.__setattr__"))) (oe_InvalidSchedule : PySem.W.findIn K (.ref C_InvalidSchedule) "value" = some none) (of_InvalidSchedule : PySem.W.typeIn K (.ref I_InvalidSchedule) = some (.type "function"))
    (il_InvalidSchedule : K.lookup I_InvalidSchedule = some ⟨ioc_InvalidSchedule, iod_InvalidSchedule, .func (PySem.W.fnOf "__init__" "InvalidSchedule.__init__" (defArgs s_init_InvalidSchedule) (defBody s_init_InvalidSchedule) (defScope s_init_InvalidSchedule) .none ikV_InvalidSchedule idc_InvalidSchedule ipm_InvalidSchedule ian_InvalidSchedule icd_InvalidSchedule ict_InvalidSchedule), isl_InvalidSchedule⟩) (ie_InvalidSchedule : PySem.W.codeIn K icd_InvalidSchedule "InvalidSchedule.__init__" = true) (ik_InvalidSchedule : PySem.W.keepIn K (.ref I_InvalidSchedule) = true)
    {C_InvalidTree : Addr} (ac_InvalidTree : PySem.W.nsIn K mainGlobals "InvalidTree" = some (some (.ref C_InvalidTree))) (kc_InvalidTree : PySem.W.keepIn K (.ref C_InvalidTree) = true) {kd_InvalidTree : ClassData} (kl_InvalidTree : PySem.W.clsIn K C_InvalidTree = some kd_InvalidTree) (kt_InvalidTree : PySem.W.typeIn K (.ref C_InvalidTree) = some (.type "type"))
    (xp_InvalidTree : PySem.W.findIn K (.ref C_InvalidTree) "__getattribute__" = some (some (.builtin "BaseException.__getattribute__"))) (xq_InvalidTree : PySem.W.findIn K (.ref C_InvalidTree) "__getattr__" = some none) (xr_InvalidTree : PySem.W.subIn K (.ref C_InvalidTree) (.type "BaseException") = some true) (xs_InvalidTree : PySem.W.hasDictIn K C_InvalidTree = true) (xt_InvalidTree : PySem.W.findIn K (.ref C_InvalidTree) "__class__" = some (some (.builtin "object.__class__"))) (xu_InvalidTree : PySem.W.mroIn K C_InvalidTree (.type "object") = some true)
    {nm_InvalidTree q_InvalidTree : Str} {N_InvalidTree : Addr} {bs_InvalidTree bm_InvalidTree : List Value} {sn_InvalidTree : _} {sub_InvalidTree : _} {ab_InvalidTree : _} {col_InvalidTree : _} {dd_InvalidTree : _} {k0_InvalidTree : _} {k1_InvalidTree : _} {k2_InvalidTree : _} {k3_InvalidTree : _} {k5_InvalidTree : _}
    (xL_InvalidTree : K.lookup C_InvalidTree = some (excClassObj nm_InvalidTree q_InvalidTree C_InvalidTree N_InvalidTree bs_InvalidTree bm_InvalidTree true sn_InvalidTree sub_InvalidTree ab_InvalidTree col_InvalidTree dd_InvalidTree k0_InvalidTree k1_InvalidTree k2_InvalidTree k3_InvalidTree k5_InvalidTree "ValueError.__new__")) (rv_InvalidTree : PySem.HandSPX.refsVE bm_InvalidTree = true)
    {I_InvalidTree : Addr} {iod_InvalidTree ian_InvalidTree : Option Addr} {isl_InvalidTree : Array (Option Value)} {ioc_InvalidTree ikV_InvalidTree idc_InvalidTree ipm_InvalidTree icd_InvalidTree ict_InvalidTree : Value}
    (ic_InvalidTree : PySem.W.findIn K (.ref C_InvalidTree) "__init__" = some (some (.ref I_InvalidTree))) (oa_InvalidTree : PySem.W.findIn K (.ref C_InvalidTree) "__setattr__" = some (some (.builtin "object.__setattr__"))) (oe_InvalidTree : PySem.W.findIn K (.ref C_InvalidTree) "value" = some none) (of_InvalidTree : PySem.W.typeIn K (.ref I_InvalidTree) = some (.type "function"))
    (il_InvalidTree : K.lookup I_InvalidTree = some ⟨ioc_InvalidTree, iod_InvalidTree, .func (PySem.W.fnOf "__init__" "InvalidTree.__init__" (defArgs s_init_InvalidTree) (defBody s_init_InvalidTree) (defScope s_init_InvalidTree) .none ikV_InvalidTree idc_InvalidTree ipm_InvalidTree ian_InvalidTree icd_InvalidTree ict_InvalidTree), isl_InvalidTree⟩) (ie_InvalidTree : PySem.W.codeIn K icd_InvalidTree "InvalidTree.__init__" = true) (ik_InvalidTree : PySem.W.keepIn K (.ref I_InvalidTree) = true)
    {C_InvalidCount : Addr} (ac_InvalidCount : PySem.W.nsIn K mainGlobals "InvalidCount" = some (some (.ref C_InvalidCount))) (kc_InvalidCount : PySem.W.keepIn K (.ref C_InvalidCount) = true) {kd_InvalidCount : ClassData} (kl_InvalidCount : PySem.W.clsIn K C_InvalidCount = some kd_InvalidCount) (kt_InvalidCount : PySem.W.typeIn K (.ref C_InvalidCount) = some (.type "type"))
    (xp_InvalidCount : PySem.W.findIn K (.ref C_InvalidCount) "__getattribute__" = some (some (.builtin "BaseException.__getattribute__"))) (xq_InvalidCount : PySem.W.findIn K (.ref C_InvalidCount) "__getattr__" = some none) (xr_InvalidCount : PySem.W.subIn K (.ref C_InvalidCount) (.type "BaseException") = some true) (xs_InvalidCount : PySem.W.hasDictIn K C_InvalidCount = true) (xt_InvalidCount : PySem.W.findIn K (.ref C_InvalidCount) "__class__" = some (some (.builtin "object.__class__"))) (xu_InvalidCount : PySem.W.mroIn K C_InvalidCount (.type "object") = some true)
    {nm_InvalidCount q_InvalidCount : Str} {N_InvalidCount : Addr} {bs_InvalidCount bm_InvalidCount : List Value} {sn_InvalidCount : _} {sub_InvalidCount : _} {ab_InvalidCount : _} {col_InvalidCount : _} {dd_InvalidCount : _} {k0_InvalidCount : _} {k1_InvalidCount : _} {k2_InvalidCount : _} {k3_InvalidCount : _} {k5_InvalidCount : _}
    (xL_InvalidCount : K.lookup C_InvalidCount = some (excClassObj nm_InvalidCount q_InvalidCount C_InvalidCount N_InvalidCount bs_InvalidCount bm_InvalidCount true sn_InvalidCount sub_InvalidCount ab_InvalidCount col_InvalidCount dd_InvalidCount k0_InvalidCount k1_InvalidCount k2_InvalidCount k3_InvalidCount k5_InvalidCount "ValueError.__new__")) (rv_InvalidCount : PySem.HandSPX.refsVE bm_InvalidCount = true)
    {I_InvalidCount : Addr} {iod_InvalidCount ian_InvalidCount : Option Addr} {isl_InvalidCount : Array (Option Value)} {ioc_InvalidCount ikV_InvalidCount idc_InvalidCount ipm_InvalidCount icd_InvalidCount ict_InvalidCount : Value}
    (ic_InvalidCount : PySem.W.findIn K (.ref C_InvalidCount) "__init__" = some (some (.ref I_InvalidCount))) (oa_InvalidCount : PySem.W.findIn K (.ref C_InvalidCount) "__setattr__" = some (some (.builtin "object.__setattr__"))) (oe_InvalidCount : PySem.W.findIn K (.ref C_InvalidCount) "value" = some none) (of_InvalidCount : PySem.W.typeIn K (.ref I_InvalidCount) = some (.type "function"))
    (il_InvalidCount : K.lookup I_InvalidCount = some ⟨ioc_InvalidCount, iod_InvalidCount, .func (PySem.W.fnOf "__init__" "InvalidCount.__init__" (defArgs s_init_InvalidCount) (defBody s_init_InvalidCount) (defScope s_init_InvalidCount) .none ikV_InvalidCount idc_InvalidCount ipm_InvalidCount ian_InvalidCount icd_InvalidCount ict_InvalidCount), isl_InvalidCount⟩) (ie_InvalidCount : PySem.W.codeIn K icd_InvalidCount "InvalidCount.__init__" = true) (ik_InvalidCount : PySem.W.keepIn K (.ref I_InvalidCount) = true)
    {C_InvalidIndex : Addr} (ac_InvalidIndex : PySem.W.nsIn K mainGlobals "InvalidIndex" = some (some (.ref C_InvalidIndex))) (kc_InvalidIndex : PySem.W.keepIn K (.ref C_InvalidIndex) = true) {kd_InvalidIndex : ClassData} (kl_InvalidIndex : PySem.W.clsIn K C_InvalidIndex = some kd_InvalidIndex) (kt_InvalidIndex : PySem.W.typeIn K (.ref C_InvalidIndex) = some (.type "type"))
    (xp_InvalidIndex : PySem.W.findIn K (.ref C_InvalidIndex) "__getattribute__" = some (some (.builtin "BaseException.__getattribute__"))) (xq_InvalidIndex : PySem.W.findIn K (.ref C_InvalidIndex) "__getattr__" = some none) (xr_InvalidIndex : PySem.W.subIn K (.ref C_InvalidIndex) (.type "BaseException") = some true) (xs_InvalidIndex : PySem.W.hasDictIn K C_InvalidIndex = true) (xt_InvalidIndex : PySem.W.findIn K (.ref C_InvalidIndex) "__class__" = some (some (.builtin "object.__class__"))) (xu_InvalidIndex : PySem.W.mroIn K C_InvalidIndex (.type "object") = some true)
    {nm_InvalidIndex q_InvalidIndex : Str} {N_InvalidIndex : Addr} {bs_InvalidIndex bm_InvalidIndex : List Value} {sn_InvalidIndex : _} {sub_InvalidIndex : _} {ab_InvalidIndex : _} {col_InvalidIndex : _} {dd_InvalidIndex : _} {k0_InvalidIndex : _} {k1_InvalidIndex : _} {k2_InvalidIndex : _} {k3_InvalidIndex : _} {k5_InvalidIndex : _}
    (xL_InvalidIndex : K.lookup C_InvalidIndex = some (excClassObj nm_InvalidIndex q_InvalidIndex C_InvalidIndex N_InvalidIndex bs_InvalidIndex bm_InvalidIndex true sn_InvalidIndex sub_InvalidIndex ab_InvalidIndex col_InvalidIndex dd_InvalidIndex k0_InvalidIndex k1_InvalidIndex k2_InvalidIndex k3_InvalidIndex k5_InvalidIndex "ValueError.__new__")) (rv_InvalidIndex : PySem.HandSPX.refsVE bm_InvalidIndex = true)
    {I_InvalidIndex : Addr} {iod_InvalidIndex ian_InvalidIndex : Option Addr} {isl_InvalidIndex : Array (Option Value)} {ioc_InvalidIndex ikV_InvalidIndex idc_InvalidIndex ipm_InvalidIndex icd_InvalidIndex ict_InvalidIndex : Value}
    (ic_InvalidIndex : PySem.W.findIn K (.ref C_InvalidIndex) "__init__" = some (some (.ref I_InvalidIndex))) (oa_InvalidIndex : PySem.W.findIn K (.ref C_InvalidIndex) "__setattr__" = some (some (.builtin "object.__setattr__"))) (oe_InvalidIndex : PySem.W.findIn K (.ref C_InvalidIndex) "value" = some none) (of_InvalidIndex : PySem.W.typeIn K (.ref I_InvalidIndex) = some (.type "function"))
    (il_InvalidIndex : K.lookup I_InvalidIndex = some ⟨ioc_InvalidIndex, iod_InvalidIndex, .func (PySem.W.fnOf "__init__" "InvalidIndex.__init__" (defArgs s_init_InvalidIndex) (defBody s_init_InvalidIndex) (defScope s_init_InvalidIndex) .none ikV_InvalidIndex idc_InvalidIndex ipm_InvalidIndex ian_InvalidIndex icd_InvalidIndex ict_InvalidIndex), isl_InvalidIndex⟩) (ie_InvalidIndex : PySem.W.codeIn K icd_InvalidIndex "InvalidIndex.__init__" = true) (ik_InvalidIndex : PySem.W.keepIn K (.ref I_InvalidIndex) = true)
    {C_InvalidBudget : Addr} (ac_InvalidBudget : PySem.W.nsIn K mainGlobals "InvalidBudget" = some (some (.ref C_InvalidBudget))) (kc_InvalidBudget : PySem.W.keepIn K (.ref C_InvalidBudget) = true) {kd_InvalidBudget : ClassData} (kl_InvalidBudget : PySem.W.clsIn K C_InvalidBudget = some kd_InvalidBudget) (kt_InvalidBudget : PySem.W.typeIn K (.ref C_InvalidBudget) = some (.type "type"))
    (xp_InvalidBudget : PySem.W.findIn K (.ref C_InvalidBudget) "__getattribute__" = some (some (.builtin "BaseException.__getattribute__"))) (xq_InvalidBudget : PySem.W.findIn K (.ref C_InvalidBudget) "__getattr__" = some none) (xr_InvalidBudget : PySem.W.subIn K (.ref C_InvalidBudget) (.type "BaseException") = some true) (xs_InvalidBudget : PySem.W.hasDictIn K C_InvalidBudget = true) (xt_InvalidBudget : PySem.W.findIn K (.ref C_InvalidBudget) "__class__" = some (some (.builtin "object.__class__"))) (xu_InvalidBudget : PySem.W.mroIn K C_InvalidBudget (.type "object") = some true)
    {nm_InvalidBudget q_InvalidBudget : Str} {N_InvalidBudget : Addr} {bs_InvalidBudget bm_InvalidBudget : List Value} {sn_InvalidBudget : _} {sub_InvalidBudget : _} {ab_InvalidBudget : _} {col_InvalidBudget : _} {dd_InvalidBudget : _} {k0_InvalidBudget : _} {k1_InvalidBudget : _} {k2_InvalidBudget : _} {k3_InvalidBudget : _} {k5_InvalidBudget : _}
    (xL_InvalidBudget : K.lookup C_InvalidBudget = some (excClassObj nm_InvalidBudget q_InvalidBudget C_InvalidBudget N_InvalidBudget bs_InvalidBudget bm_InvalidBudget true sn_InvalidBudget sub_InvalidBudget ab_InvalidBudget col_InvalidBudget dd_InvalidBudget k0_InvalidBudget k1_InvalidBudget k2_InvalidBudget k3_InvalidBudget k5_InvalidBudget "ValueError.__new__")) (rv_InvalidBudget : PySem.HandSPX.refsVE bm_InvalidBudget = true)
    {I_InvalidBudget : Addr} {iod_InvalidBudget ian_InvalidBudget : Option Addr} {isl_InvalidBudget : Array (Option Value)} {ioc_InvalidBudget ikV_InvalidBudget idc_InvalidBudget ipm_InvalidBudget icd_InvalidBudget ict_InvalidBudget : Value}
    (ic_InvalidBudget : PySem.W.findIn K (.ref C_InvalidBudget) "__init__" = some (some (.ref I_InvalidBudget))) (oa_InvalidBudget : PySem.W.findIn K (.ref C_InvalidBudget) "__setattr__" = some (some (.builtin "object.__setattr__"))) (oe_InvalidBudget : PySem.W.findIn K (.ref C_InvalidBudget) "value" = some none) (of_InvalidBudget : PySem.W.typeIn K (.ref I_InvalidBudget) = some (.type "function"))
    (il_InvalidBudget : K.lookup I_InvalidBudget = some ⟨ioc_InvalidBudget, iod_InvalidBudget, .func (PySem.W.fnOf "__init__" "InvalidBudget.__init__" (defArgs s_init_InvalidBudget) (defBody s_init_InvalidBudget) (defScope s_init_InvalidBudget) .none ikV_InvalidBudget idc_InvalidBudget ipm_InvalidBudget ian_InvalidBudget icd_InvalidBudget ict_InvalidBudget), isl_InvalidBudget⟩) (ie_InvalidBudget : PySem.W.codeIn K icd_InvalidBudget "InvalidBudget.__init__" = true) (ik_InvalidBudget : PySem.W.keepIn K (.ref I_InvalidBudget) = true)
    {C_OutsideBudget : Addr} (ac_OutsideBudget : PySem.W.nsIn K mainGlobals "OutsideBudget" = some (some (.ref C_OutsideBudget))) (kc_OutsideBudget : PySem.W.keepIn K (.ref C_OutsideBudget) = true) {kd_OutsideBudget : ClassData} (kl_OutsideBudget : PySem.W.clsIn K C_OutsideBudget = some kd_OutsideBudget) (kt_OutsideBudget : PySem.W.typeIn K (.ref C_OutsideBudget) = some (.type "type"))
    (xp_OutsideBudget : PySem.W.findIn K (.ref C_OutsideBudget) "__getattribute__" = some (some (.builtin "BaseException.__getattribute__"))) (xq_OutsideBudget : PySem.W.findIn K (.ref C_OutsideBudget) "__getattr__" = some none) (xr_OutsideBudget : PySem.W.subIn K (.ref C_OutsideBudget) (.type "BaseException") = some true) (xs_OutsideBudget : PySem.W.hasDictIn K C_OutsideBudget = true) (xt_OutsideBudget : PySem.W.findIn K (.ref C_OutsideBudget) "__class__" = some (some (.builtin "object.__class__"))) (xu_OutsideBudget : PySem.W.mroIn K C_OutsideBudget (.type "object") = some true)
    {nm_OutsideBudget q_OutsideBudget : Str} {N_OutsideBudget : Addr} {bs_OutsideBudget bm_OutsideBudget : List Value} {sn_OutsideBudget : _} {sub_OutsideBudget : _} {ab_OutsideBudget : _} {col_OutsideBudget : _} {dd_OutsideBudget : _} {k0_OutsideBudget : _} {k1_OutsideBudget : _} {k2_OutsideBudget : _} {k3_OutsideBudget : _} {k5_OutsideBudget : _}
    (xL_OutsideBudget : K.lookup C_OutsideBudget = some (excClassObj nm_OutsideBudget q_OutsideBudget C_OutsideBudget N_OutsideBudget bs_OutsideBudget bm_OutsideBudget true sn_OutsideBudget sub_OutsideBudget ab_OutsideBudget col_OutsideBudget dd_OutsideBudget k0_OutsideBudget k1_OutsideBudget k2_OutsideBudget k3_OutsideBudget k5_OutsideBudget "ValueError.__new__")) (rv_OutsideBudget : PySem.HandSPX.refsVE bm_OutsideBudget = true)
    {I_OutsideBudget : Addr} {iod_OutsideBudget ian_OutsideBudget : Option Addr} {isl_OutsideBudget : Array (Option Value)} {ioc_OutsideBudget ikV_OutsideBudget idc_OutsideBudget ipm_OutsideBudget icd_OutsideBudget ict_OutsideBudget : Value}
    (ic_OutsideBudget : PySem.W.findIn K (.ref C_OutsideBudget) "__init__" = some (some (.ref I_OutsideBudget))) (oa_OutsideBudget : PySem.W.findIn K (.ref C_OutsideBudget) "__setattr__" = some (some (.builtin "object.__setattr__"))) (oe_OutsideBudget : PySem.W.findIn K (.ref C_OutsideBudget) "value" = some none) (of_OutsideBudget : PySem.W.typeIn K (.ref I_OutsideBudget) = some (.type "function"))
    (il_OutsideBudget : K.lookup I_OutsideBudget = some ⟨ioc_OutsideBudget, iod_OutsideBudget, .func (PySem.W.fnOf "__init__" "OutsideBudget.__init__" (defArgs s_init_OutsideBudget) (defBody s_init_OutsideBudget) (defScope s_init_OutsideBudget) .none ikV_OutsideBudget idc_OutsideBudget ipm_OutsideBudget ian_OutsideBudget icd_OutsideBudget ict_OutsideBudget), isl_OutsideBudget⟩) (ie_OutsideBudget : PySem.W.codeIn K icd_OutsideBudget "OutsideBudget.__init__" = true) (ik_OutsideBudget : PySem.W.keepIn K (.ref I_OutsideBudget) = true)
    {C_InvalidSizes : Addr} (ac_InvalidSizes : PySem.W.nsIn K mainGlobals "InvalidSizes" = some (some (.ref C_InvalidSizes))) (kc_InvalidSizes : PySem.W.keepIn K (.ref C_InvalidSizes) = true) {kd_InvalidSizes : ClassData} (kl_InvalidSizes : PySem.W.clsIn K C_InvalidSizes = some kd_InvalidSizes) (kt_InvalidSizes : PySem.W.typeIn K (.ref C_InvalidSizes) = some (.type "type"))
    (xp_InvalidSizes : PySem.W.findIn K (.ref C_InvalidSizes) "__getattribute__" = some (some (.builtin "BaseException.__getattribute__"))) (xq_InvalidSizes : PySem.W.findIn K (.ref C_InvalidSizes) "__getattr__" = some none) (xr_InvalidSizes : PySem.W.subIn K (.ref C_InvalidSizes) (.type "BaseException") = some true) (xs_InvalidSizes : PySem.W.hasDictIn K C_InvalidSizes = true) (xt_InvalidSizes : PySem.W.findIn K (.ref C_InvalidSizes) "__class__" = some (some (.builtin "object.__class__"))) (xu_InvalidSizes : PySem.W.mroIn K C_InvalidSizes (.type "object") = some true)
    {nm_InvalidSizes q_InvalidSizes : Str} {N_InvalidSizes : Addr} {bs_InvalidSizes bm_InvalidSizes : List Value} {sn_InvalidSizes : _} {sub_InvalidSizes : _} {ab_InvalidSizes : _} {col_InvalidSizes : _} {dd_InvalidSizes : _} {k0_InvalidSizes : _} {k1_InvalidSizes : _} {k2_InvalidSizes : _} {k3_InvalidSizes : _} {k5_InvalidSizes : _}
    (xL_InvalidSizes : K.lookup C_InvalidSizes = some (excClassObj nm_InvalidSizes q_InvalidSizes C_InvalidSizes N_InvalidSizes bs_InvalidSizes bm_InvalidSizes true sn_InvalidSizes sub_InvalidSizes ab_InvalidSizes col_InvalidSizes dd_InvalidSizes k0_InvalidSizes k1_InvalidSizes k2_InvalidSizes k3_InvalidSizes k5_InvalidSizes "ValueError.__new__")) (rv_InvalidSizes : PySem.HandSPX.refsVE bm_InvalidSizes = true)
    {I_InvalidSizes : Addr} {iod_InvalidSizes ian_InvalidSizes : Option Addr} {isl_InvalidSizes : Array (Option Value)} {ioc_InvalidSizes ikV_InvalidSizes idc_InvalidSizes ipm_InvalidSizes icd_InvalidSizes ict_InvalidSizes : Value}
    (ic_InvalidSizes : PySem.W.findIn K (.ref C_InvalidSizes) "__init__" = some (some (.ref I_InvalidSizes))) (oa_InvalidSizes : PySem.W.findIn K (.ref C_InvalidSizes) "__setattr__" = some (some (.builtin "object.__setattr__"))) (oe_InvalidSizes : PySem.W.findIn K (.ref C_InvalidSizes) "value" = some none) (of_InvalidSizes : PySem.W.typeIn K (.ref I_InvalidSizes) = some (.type "function"))
    (il_InvalidSizes : K.lookup I_InvalidSizes = some ⟨ioc_InvalidSizes, iod_InvalidSizes, .func (PySem.W.fnOf "__init__" "InvalidSizes.__init__" (defArgs s_init_InvalidSizes) (defBody s_init_InvalidSizes) (defScope s_init_InvalidSizes) .none ikV_InvalidSizes idc_InvalidSizes ipm_InvalidSizes ian_InvalidSizes icd_InvalidSizes ict_InvalidSizes), isl_InvalidSizes⟩) (ie_InvalidSizes : PySem.W.codeIn K icd_InvalidSizes "InvalidSizes.__init__" = true) (ik_InvalidSizes : PySem.W.keepIn K (.ref I_InvalidSizes) = true)
    {C_InvalidReads : Addr} (ac_InvalidReads : PySem.W.nsIn K mainGlobals "InvalidReads" = some (some (.ref C_InvalidReads))) (kc_InvalidReads : PySem.W.keepIn K (.ref C_InvalidReads) = true) {kd_InvalidReads : ClassData} (kl_InvalidReads : PySem.W.clsIn K C_InvalidReads = some kd_InvalidReads) (kt_InvalidReads : PySem.W.typeIn K (.ref C_InvalidReads) = some (.type "type"))
    (xp_InvalidReads : PySem.W.findIn K (.ref C_InvalidReads) "__getattribute__" = some (some (.builtin "BaseException.__getattribute__"))) (xq_InvalidReads : PySem.W.findIn K (.ref C_InvalidReads) "__getattr__" = some none) (xr_InvalidReads : PySem.W.subIn K (.ref C_InvalidReads) (.type "BaseException") = some true) (xs_InvalidReads : PySem.W.hasDictIn K C_InvalidReads = true) (xt_InvalidReads : PySem.W.findIn K (.ref C_InvalidReads) "__class__" = some (some (.builtin "object.__class__"))) (xu_InvalidReads : PySem.W.mroIn K C_InvalidReads (.type "object") = some true)
    {nm_InvalidReads q_InvalidReads : Str} {N_InvalidReads : Addr} {bs_InvalidReads bm_InvalidReads : List Value} {sn_InvalidReads : _} {sub_InvalidReads : _} {ab_InvalidReads : _} {col_InvalidReads : _} {dd_InvalidReads : _} {k0_InvalidReads : _} {k1_InvalidReads : _} {k2_InvalidReads : _} {k3_InvalidReads : _} {k5_InvalidReads : _}
    (xL_InvalidReads : K.lookup C_InvalidReads = some (excClassObj nm_InvalidReads q_InvalidReads C_InvalidReads N_InvalidReads bs_InvalidReads bm_InvalidReads true sn_InvalidReads sub_InvalidReads ab_InvalidReads col_InvalidReads dd_InvalidReads k0_InvalidReads k1_InvalidReads k2_InvalidReads k3_InvalidReads k5_InvalidReads "ValueError.__new__")) (rv_InvalidReads : PySem.HandSPX.refsVE bm_InvalidReads = true)
    {I_InvalidReads : Addr} {iod_InvalidReads ian_InvalidReads : Option Addr} {isl_InvalidReads : Array (Option Value)} {ioc_InvalidReads ikV_InvalidReads idc_InvalidReads ipm_InvalidReads icd_InvalidReads ict_InvalidReads : Value}
    (ic_InvalidReads : PySem.W.findIn K (.ref C_InvalidReads) "__init__" = some (some (.ref I_InvalidReads))) (oa_InvalidReads : PySem.W.findIn K (.ref C_InvalidReads) "__setattr__" = some (some (.builtin "object.__setattr__"))) (oe_InvalidReads : PySem.W.findIn K (.ref C_InvalidReads) "value" = some none) (of_InvalidReads : PySem.W.typeIn K (.ref I_InvalidReads) = some (.type "function"))
    (il_InvalidReads : K.lookup I_InvalidReads = some ⟨ioc_InvalidReads, iod_InvalidReads, .func (PySem.W.fnOf "__init__" "InvalidReads.__init__" (defArgs s_init_InvalidReads) (defBody s_init_InvalidReads) (defScope s_init_InvalidReads) .none ikV_InvalidReads idc_InvalidReads ipm_InvalidReads ian_InvalidReads icd_InvalidReads ict_InvalidReads), isl_InvalidReads⟩) (ie_InvalidReads : PySem.W.codeIn K icd_InvalidReads "InvalidReads.__init__" = true) (ik_InvalidReads : PySem.W.keepIn K (.ref I_InvalidReads) = true)
    {C_InvalidState : Addr} (ac_InvalidState : PySem.W.nsIn K mainGlobals "InvalidState" = some (some (.ref C_InvalidState))) (kc_InvalidState : PySem.W.keepIn K (.ref C_InvalidState) = true) {kd_InvalidState : ClassData} (kl_InvalidState : PySem.W.clsIn K C_InvalidState = some kd_InvalidState) (kt_InvalidState : PySem.W.typeIn K (.ref C_InvalidState) = some (.type "type"))
    (xp_InvalidState : PySem.W.findIn K (.ref C_InvalidState) "__getattribute__" = some (some (.builtin "BaseException.__getattribute__"))) (xq_InvalidState : PySem.W.findIn K (.ref C_InvalidState) "__getattr__" = some none) (xr_InvalidState : PySem.W.subIn K (.ref C_InvalidState) (.type "BaseException") = some true) (xs_InvalidState : PySem.W.hasDictIn K C_InvalidState = true) (xt_InvalidState : PySem.W.findIn K (.ref C_InvalidState) "__class__" = some (some (.builtin "object.__class__"))) (xu_InvalidState : PySem.W.mroIn K C_InvalidState (.type "object") = some true)
    {nm_InvalidState q_InvalidState : Str} {N_InvalidState : Addr} {bs_InvalidState bm_InvalidState : List Value} {sn_InvalidState : _} {sub_InvalidState : _} {ab_InvalidState : _} {col_InvalidState : _} {dd_InvalidState : _} {k0_InvalidState : _} {k1_InvalidState : _} {k2_InvalidState : _} {k3_InvalidState : _} {k5_InvalidState : _}
    (xL_InvalidState : K.lookup C_InvalidState = some (excClassObj nm_InvalidState q_InvalidState C_InvalidState N_InvalidState bs_InvalidState bm_InvalidState true sn_InvalidState sub_InvalidState ab_InvalidState col_InvalidState dd_InvalidState k0_InvalidState k1_InvalidState k2_InvalidState k3_InvalidState k5_InvalidState "ValueError.__new__")) (rv_InvalidState : PySem.HandSPX.refsVE bm_InvalidState = true)
    {I_InvalidState : Addr} {iod_InvalidState ian_InvalidState : Option Addr} {isl_InvalidState : Array (Option Value)} {ioc_InvalidState ikV_InvalidState idc_InvalidState ipm_InvalidState icd_InvalidState ict_InvalidState : Value}
    (ic_InvalidState : PySem.W.findIn K (.ref C_InvalidState) "__init__" = some (some (.ref I_InvalidState))) (oa_InvalidState : PySem.W.findIn K (.ref C_InvalidState) "__setattr__" = some (some (.builtin "object.__setattr__"))) (oe_InvalidState : PySem.W.findIn K (.ref C_InvalidState) "value" = some none) (of_InvalidState : PySem.W.typeIn K (.ref I_InvalidState) = some (.type "function"))
    (il_InvalidState : K.lookup I_InvalidState = some ⟨ioc_InvalidState, iod_InvalidState, .func (PySem.W.fnOf "__init__" "InvalidState.__init__" (defArgs s_init_InvalidState) (defBody s_init_InvalidState) (defScope s_init_InvalidState) .none ikV_InvalidState idc_InvalidState ipm_InvalidState ian_InvalidState icd_InvalidState ict_InvalidState), isl_InvalidState⟩) (ie_InvalidState : PySem.W.codeIn K icd_InvalidState "InvalidState.__init__" = true) (ik_InvalidState : PySem.W.keepIn K (.ref I_InvalidState) = true)
    {C_InvalidMerge : Addr} (ac_InvalidMerge : PySem.W.nsIn K mainGlobals "InvalidMerge" = some (some (.ref C_InvalidMerge))) (kc_InvalidMerge : PySem.W.keepIn K (.ref C_InvalidMerge) = true) {kd_InvalidMerge : ClassData} (kl_InvalidMerge : PySem.W.clsIn K C_InvalidMerge = some kd_InvalidMerge) (kt_InvalidMerge : PySem.W.typeIn K (.ref C_InvalidMerge) = some (.type "type"))
    (xp_InvalidMerge : PySem.W.findIn K (.ref C_InvalidMerge) "__getattribute__" = some (some (.builtin "BaseException.__getattribute__"))) (xq_InvalidMerge : PySem.W.findIn K (.ref C_InvalidMerge) "__getattr__" = some none) (xr_InvalidMerge : PySem.W.subIn K (.ref C_InvalidMerge) (.type "BaseException") = some true) (xs_InvalidMerge : PySem.W.hasDictIn K C_InvalidMerge = true) (xt_InvalidMerge : PySem.W.findIn K (.ref C_InvalidMerge) "__class__" = some (some (.builtin "object.__class__"))) (xu_InvalidMerge : PySem.W.mroIn K C_InvalidMerge (.type "object") = some true)
    {nm_InvalidMerge q_InvalidMerge : Str} {N_InvalidMerge : Addr} {bs_InvalidMerge bm_InvalidMerge : List Value} {sn_InvalidMerge : _} {sub_InvalidMerge : _} {ab_InvalidMerge : _} {col_InvalidMerge : _} {dd_InvalidMerge : _} {k0_InvalidMerge : _} {k1_InvalidMerge : _} {k2_InvalidMerge : _} {k3_InvalidMerge : _} {k5_InvalidMerge : _}
    (xL_InvalidMerge : K.lookup C_InvalidMerge = some (excClassObj nm_InvalidMerge q_InvalidMerge C_InvalidMerge N_InvalidMerge bs_InvalidMerge bm_InvalidMerge true sn_InvalidMerge sub_InvalidMerge ab_InvalidMerge col_InvalidMerge dd_InvalidMerge k0_InvalidMerge k1_InvalidMerge k2_InvalidMerge k3_InvalidMerge k5_InvalidMerge "ValueError.__new__")) (rv_InvalidMerge : PySem.HandSPX.refsVE bm_InvalidMerge = true)
    {I_InvalidMerge : Addr} {iod_InvalidMerge ian_InvalidMerge : Option Addr} {isl_InvalidMerge : Array (Option Value)} {ioc_InvalidMerge ikV_InvalidMerge idc_InvalidMerge ipm_InvalidMerge icd_InvalidMerge ict_InvalidMerge : Value}
    (ic_InvalidMerge : PySem.W.findIn K (.ref C_InvalidMerge) "__init__" = some (some (.ref I_InvalidMerge))) (oa_InvalidMerge : PySem.W.findIn K (.ref C_InvalidMerge) "__setattr__" = some (some (.builtin "object.__setattr__"))) (oe_InvalidMerge : PySem.W.findIn K (.ref C_InvalidMerge) "value" = some none) (of_InvalidMerge : PySem.W.typeIn K (.ref I_InvalidMerge) = some (.type "function"))
    (il_InvalidMerge : K.lookup I_InvalidMerge = some ⟨ioc_InvalidMerge, iod_InvalidMerge, .func (PySem.W.fnOf "__init__" "InvalidMerge.__init__" (defArgs s_init_InvalidMerge) (defBody s_init_InvalidMerge) (defScope s_init_InvalidMerge) .none ikV_InvalidMerge idc_InvalidMerge ipm_InvalidMerge ian_InvalidMerge icd_InvalidMerge ict_InvalidMerge), isl_InvalidMerge⟩) (ie_InvalidMerge : PySem.W.codeIn K icd_InvalidMerge "InvalidMerge.__init__" = true) (ik_InvalidMerge : PySem.W.keepIn K (.ref I_InvalidMerge) = true)
    {C_InvalidPolicy : Addr} (ac_InvalidPolicy : PySem.W.nsIn K mainGlobals "InvalidPolicy" = some (some (.ref C_InvalidPolicy))) (kc_InvalidPolicy : PySem.W.keepIn K (.ref C_InvalidPolicy) = true) {kd_InvalidPolicy : ClassData} (kl_InvalidPolicy : PySem.W.clsIn K C_InvalidPolicy = some kd_InvalidPolicy) (kt_InvalidPolicy : PySem.W.typeIn K (.ref C_InvalidPolicy) = some (.type "type"))
    (xp_InvalidPolicy : PySem.W.findIn K (.ref C_InvalidPolicy) "__getattribute__" = some (some (.builtin "BaseException.__getattribute__"))) (xq_InvalidPolicy : PySem.W.findIn K (.ref C_InvalidPolicy) "__getattr__" = some none) (xr_InvalidPolicy : PySem.W.subIn K (.ref C_InvalidPolicy) (.type "BaseException") = some true) (xs_InvalidPolicy : PySem.W.hasDictIn K C_InvalidPolicy = true) (xt_InvalidPolicy : PySem.W.findIn K (.ref C_InvalidPolicy) "__class__" = some (some (.builtin "object.__class__"))) (xu_InvalidPolicy : PySem.W.mroIn K C_InvalidPolicy (.type "object") = some true)
    {nm_InvalidPolicy q_InvalidPolicy : Str} {N_InvalidPolicy : Addr} {bs_InvalidPolicy bm_InvalidPolicy : List Value} {sn_InvalidPolicy : _} {sub_InvalidPolicy : _} {ab_InvalidPolicy : _} {col_InvalidPolicy : _} {dd_InvalidPolicy : _} {k0_InvalidPolicy : _} {k1_InvalidPolicy : _} {k2_InvalidPolicy : _} {k3_InvalidPolicy : _} {k5_InvalidPolicy : _}
    (xL_InvalidPolicy : K.lookup C_InvalidPolicy = some (excClassObj nm_InvalidPolicy q_InvalidPolicy C_InvalidPolicy N_InvalidPolicy bs_InvalidPolicy bm_InvalidPolicy true sn_InvalidPolicy sub_InvalidPolicy ab_InvalidPolicy col_InvalidPolicy dd_InvalidPolicy k0_InvalidPolicy k1_InvalidPolicy k2_InvalidPolicy k3_InvalidPolicy k5_InvalidPolicy "ValueError.__new__")) (rv_InvalidPolicy : PySem.HandSPX.refsVE bm_InvalidPolicy = true)
    {I_InvalidPolicy : Addr} {iod_InvalidPolicy ian_InvalidPolicy : Option Addr} {isl_InvalidPolicy : Array (Option Value)} {ioc_InvalidPolicy ikV_InvalidPolicy idc_InvalidPolicy ipm_InvalidPolicy icd_InvalidPolicy ict_InvalidPolicy : Value}
    (ic_InvalidPolicy : PySem.W.findIn K (.ref C_InvalidPolicy) "__init__" = some (some (.ref I_InvalidPolicy))) (oa_InvalidPolicy : PySem.W.findIn K (.ref C_InvalidPolicy) "__setattr__" = some (some (.builtin "object.__setattr__"))) (oe_InvalidPolicy : PySem.W.findIn K (.ref C_InvalidPolicy) "value" = some none) (of_InvalidPolicy : PySem.W.typeIn K (.ref I_InvalidPolicy) = some (.type "function"))
    (il_InvalidPolicy : K.lookup I_InvalidPolicy = some ⟨ioc_InvalidPolicy, iod_InvalidPolicy, .func (PySem.W.fnOf "__init__" "InvalidPolicy.__init__" (defArgs s_init_InvalidPolicy) (defBody s_init_InvalidPolicy) (defScope s_init_InvalidPolicy) .none ikV_InvalidPolicy idc_InvalidPolicy ipm_InvalidPolicy ian_InvalidPolicy icd_InvalidPolicy ict_InvalidPolicy), isl_InvalidPolicy⟩) (ie_InvalidPolicy : PySem.W.codeIn K icd_InvalidPolicy "InvalidPolicy.__init__" = true) (ik_InvalidPolicy : PySem.W.keepIn K (.ref I_InvalidPolicy) = true)
    {C_InvalidKey : Addr} (ac_InvalidKey : PySem.W.nsIn K mainGlobals "InvalidKey" = some (some (.ref C_InvalidKey))) (kc_InvalidKey : PySem.W.keepIn K (.ref C_InvalidKey) = true) {kd_InvalidKey : ClassData} (kl_InvalidKey : PySem.W.clsIn K C_InvalidKey = some kd_InvalidKey) (kt_InvalidKey : PySem.W.typeIn K (.ref C_InvalidKey) = some (.type "type"))
    (xp_InvalidKey : PySem.W.findIn K (.ref C_InvalidKey) "__getattribute__" = some (some (.builtin "BaseException.__getattribute__"))) (xq_InvalidKey : PySem.W.findIn K (.ref C_InvalidKey) "__getattr__" = some none) (xr_InvalidKey : PySem.W.subIn K (.ref C_InvalidKey) (.type "BaseException") = some true) (xs_InvalidKey : PySem.W.hasDictIn K C_InvalidKey = true) (xt_InvalidKey : PySem.W.findIn K (.ref C_InvalidKey) "__class__" = some (some (.builtin "object.__class__"))) (xu_InvalidKey : PySem.W.mroIn K C_InvalidKey (.type "object") = some true)
    {nm_InvalidKey q_InvalidKey : Str} {N_InvalidKey : Addr} {bs_InvalidKey bm_InvalidKey : List Value} {sn_InvalidKey : _} {sub_InvalidKey : _} {ab_InvalidKey : _} {col_InvalidKey : _} {dd_InvalidKey : _} {k0_InvalidKey : _} {k1_InvalidKey : _} {k2_InvalidKey : _} {k3_InvalidKey : _} {k5_InvalidKey : _}
    (xL_InvalidKey : K.lookup C_InvalidKey = some (excClassObj nm_InvalidKey q_InvalidKey C_InvalidKey N_InvalidKey bs_InvalidKey bm_InvalidKey true sn_InvalidKey sub_InvalidKey ab_InvalidKey col_InvalidKey dd_InvalidKey k0_InvalidKey k1_InvalidKey k2_InvalidKey k3_InvalidKey k5_InvalidKey "ValueError.__new__")) (rv_InvalidKey : PySem.HandSPX.refsVE bm_InvalidKey = true)
    {I_InvalidKey : Addr} {iod_InvalidKey ian_InvalidKey : Option Addr} {isl_InvalidKey : Array (Option Value)} {ioc_InvalidKey ikV_InvalidKey idc_InvalidKey ipm_InvalidKey icd_InvalidKey ict_InvalidKey : Value}
    (ic_InvalidKey : PySem.W.findIn K (.ref C_InvalidKey) "__init__" = some (some (.ref I_InvalidKey))) (oa_InvalidKey : PySem.W.findIn K (.ref C_InvalidKey) "__setattr__" = some (some (.builtin "object.__setattr__"))) (oe_InvalidKey : PySem.W.findIn K (.ref C_InvalidKey) "value" = some none) (of_InvalidKey : PySem.W.typeIn K (.ref I_InvalidKey) = some (.type "function"))
    (il_InvalidKey : K.lookup I_InvalidKey = some ⟨ioc_InvalidKey, iod_InvalidKey, .func (PySem.W.fnOf "__init__" "InvalidKey.__init__" (defArgs s_init_InvalidKey) (defBody s_init_InvalidKey) (defScope s_init_InvalidKey) .none ikV_InvalidKey idc_InvalidKey ipm_InvalidKey ian_InvalidKey icd_InvalidKey ict_InvalidKey), isl_InvalidKey⟩) (ie_InvalidKey : PySem.W.codeIn K icd_InvalidKey "InvalidKey.__init__" = true) (ik_InvalidKey : PySem.W.keepIn K (.ref I_InvalidKey) = true)
    {C_InvalidValue : Addr} (ac_InvalidValue : PySem.W.nsIn K mainGlobals "InvalidValue" = some (some (.ref C_InvalidValue))) (kc_InvalidValue : PySem.W.keepIn K (.ref C_InvalidValue) = true) {kd_InvalidValue : ClassData} (kl_InvalidValue : PySem.W.clsIn K C_InvalidValue = some kd_InvalidValue) (kt_InvalidValue : PySem.W.typeIn K (.ref C_InvalidValue) = some (.type "type"))
    (xp_InvalidValue : PySem.W.findIn K (.ref C_InvalidValue) "__getattribute__" = some (some (.builtin "BaseException.__getattribute__"))) (xq_InvalidValue : PySem.W.findIn K (.ref C_InvalidValue) "__getattr__" = some none) (xr_InvalidValue : PySem.W.subIn K (.ref C_InvalidValue) (.type "BaseException") = some true) (xs_InvalidValue : PySem.W.hasDictIn K C_InvalidValue = true) (xt_InvalidValue : PySem.W.findIn K (.ref C_InvalidValue) "__class__" = some (some (.builtin "object.__class__"))) (xu_InvalidValue : PySem.W.mroIn K C_InvalidValue (.type "object") = some true)
    {nm_InvalidValue q_InvalidValue : Str} {N_InvalidValue : Addr} {bs_InvalidValue bm_InvalidValue : List Value} {sn_InvalidValue : _} {sub_InvalidValue : _} {ab_InvalidValue : _} {col_InvalidValue : _} {dd_InvalidValue : _} {k0_InvalidValue : _} {k1_InvalidValue : _} {k2_InvalidValue : _} {k3_InvalidValue : _} {k5_InvalidValue : _}
    (xL_InvalidValue : K.lookup C_InvalidValue = some (excClassObj nm_InvalidValue q_InvalidValue C_InvalidValue N_InvalidValue bs_InvalidValue bm_InvalidValue true sn_InvalidValue sub_InvalidValue ab_InvalidValue col_InvalidValue dd_InvalidValue k0_InvalidValue k1_InvalidValue k2_InvalidValue k3_InvalidValue k5_InvalidValue "ValueError.__new__")) (rv_InvalidValue : PySem.HandSPX.refsVE bm_InvalidValue = true)
    {I_InvalidValue : Addr} {iod_InvalidValue ian_InvalidValue : Option Addr} {isl_InvalidValue : Array (Option Value)} {ioc_InvalidValue ikV_InvalidValue idc_InvalidValue ipm_InvalidValue icd_InvalidValue ict_InvalidValue : Value}
    (ic_InvalidValue : PySem.W.findIn K (.ref C_InvalidValue) "__init__" = some (some (.ref I_InvalidValue))) (oa_InvalidValue : PySem.W.findIn K (.ref C_InvalidValue) "__setattr__" = some (some (.builtin "object.__setattr__"))) (oe_InvalidValue : PySem.W.findIn K (.ref C_InvalidValue) "value" = some none) (of_InvalidValue : PySem.W.typeIn K (.ref I_InvalidValue) = some (.type "function"))
    (il_InvalidValue : K.lookup I_InvalidValue = some ⟨ioc_InvalidValue, iod_InvalidValue, .func (PySem.W.fnOf "__init__" "InvalidValue.__init__" (defArgs s_init_InvalidValue) (defBody s_init_InvalidValue) (defScope s_init_InvalidValue) .none ikV_InvalidValue idc_InvalidValue ipm_InvalidValue ian_InvalidValue icd_InvalidValue ict_InvalidValue), isl_InvalidValue⟩) (ie_InvalidValue : PySem.W.codeIn K icd_InvalidValue "InvalidValue.__init__" = true) (ik_InvalidValue : PySem.W.keepIn K (.ref I_InvalidValue) = true)
    {C_InvalidMoment : Addr} (ac_InvalidMoment : PySem.W.nsIn K mainGlobals "InvalidMoment" = some (some (.ref C_InvalidMoment))) (kc_InvalidMoment : PySem.W.keepIn K (.ref C_InvalidMoment) = true) {kd_InvalidMoment : ClassData} (kl_InvalidMoment : PySem.W.clsIn K C_InvalidMoment = some kd_InvalidMoment) (kt_InvalidMoment : PySem.W.typeIn K (.ref C_InvalidMoment) = some (.type "type"))
    (xp_InvalidMoment : PySem.W.findIn K (.ref C_InvalidMoment) "__getattribute__" = some (some (.builtin "BaseException.__getattribute__"))) (xq_InvalidMoment : PySem.W.findIn K (.ref C_InvalidMoment) "__getattr__" = some none) (xr_InvalidMoment : PySem.W.subIn K (.ref C_InvalidMoment) (.type "BaseException") = some true) (xs_InvalidMoment : PySem.W.hasDictIn K C_InvalidMoment = true) (xt_InvalidMoment : PySem.W.findIn K (.ref C_InvalidMoment) "__class__" = some (some (.builtin "object.__class__"))) (xu_InvalidMoment : PySem.W.mroIn K C_InvalidMoment (.type "object") = some true)
    {nm_InvalidMoment q_InvalidMoment : Str} {N_InvalidMoment : Addr} {bs_InvalidMoment bm_InvalidMoment : List Value} {sn_InvalidMoment : _} {sub_InvalidMoment : _} {ab_InvalidMoment : _} {col_InvalidMoment : _} {dd_InvalidMoment : _} {k0_InvalidMoment : _} {k1_InvalidMoment : _} {k2_InvalidMoment : _} {k3_InvalidMoment : _} {k5_InvalidMoment : _}
    (xL_InvalidMoment : K.lookup C_InvalidMoment = some (excClassObj nm_InvalidMoment q_InvalidMoment C_InvalidMoment N_InvalidMoment bs_InvalidMoment bm_InvalidMoment true sn_InvalidMoment sub_InvalidMoment ab_InvalidMoment col_InvalidMoment dd_InvalidMoment k0_InvalidMoment k1_InvalidMoment k2_InvalidMoment k3_InvalidMoment k5_InvalidMoment "ValueError.__new__")) (rv_InvalidMoment : PySem.HandSPX.refsVE bm_InvalidMoment = true)
    {I_InvalidMoment : Addr} {iod_InvalidMoment ian_InvalidMoment : Option Addr} {isl_InvalidMoment : Array (Option Value)} {ioc_InvalidMoment ikV_InvalidMoment idc_InvalidMoment ipm_InvalidMoment icd_InvalidMoment ict_InvalidMoment : Value}
    (ic_InvalidMoment : PySem.W.findIn K (.ref C_InvalidMoment) "__init__" = some (some (.ref I_InvalidMoment))) (oa_InvalidMoment : PySem.W.findIn K (.ref C_InvalidMoment) "__setattr__" = some (some (.builtin "object.__setattr__"))) (oe_InvalidMoment : PySem.W.findIn K (.ref C_InvalidMoment) "value" = some none) (of_InvalidMoment : PySem.W.typeIn K (.ref I_InvalidMoment) = some (.type "function"))
    (il_InvalidMoment : K.lookup I_InvalidMoment = some ⟨ioc_InvalidMoment, iod_InvalidMoment, .func (PySem.W.fnOf "__init__" "InvalidMoment.__init__" (defArgs s_init_InvalidMoment) (defBody s_init_InvalidMoment) (defScope s_init_InvalidMoment) .none ikV_InvalidMoment idc_InvalidMoment ipm_InvalidMoment ian_InvalidMoment icd_InvalidMoment ict_InvalidMoment), isl_InvalidMoment⟩) (ie_InvalidMoment : PySem.W.codeIn K icd_InvalidMoment "InvalidMoment.__init__" = true) (ik_InvalidMoment : PySem.W.keepIn K (.ref I_InvalidMoment) = true)
    {C_InvalidText : Addr} (ac_InvalidText : PySem.W.nsIn K mainGlobals "InvalidText" = some (some (.ref C_InvalidText))) (kc_InvalidText : PySem.W.keepIn K (.ref C_InvalidText) = true) {kd_InvalidText : ClassData} (kl_InvalidText : PySem.W.clsIn K C_InvalidText = some kd_InvalidText) (kt_InvalidText : PySem.W.typeIn K (.ref C_InvalidText) = some (.type "type"))
    (xp_InvalidText : PySem.W.findIn K (.ref C_InvalidText) "__getattribute__" = some (some (.builtin "BaseException.__getattribute__"))) (xq_InvalidText : PySem.W.findIn K (.ref C_InvalidText) "__getattr__" = some none) (xr_InvalidText : PySem.W.subIn K (.ref C_InvalidText) (.type "BaseException") = some true) (xs_InvalidText : PySem.W.hasDictIn K C_InvalidText = true) (xt_InvalidText : PySem.W.findIn K (.ref C_InvalidText) "__class__" = some (some (.builtin "object.__class__"))) (xu_InvalidText : PySem.W.mroIn K C_InvalidText (.type "object") = some true)
    {nm_InvalidText q_InvalidText : Str} {N_InvalidText : Addr} {bs_InvalidText bm_InvalidText : List Value} {sn_InvalidText : _} {sub_InvalidText : _} {ab_InvalidText : _} {col_InvalidText : _} {dd_InvalidText : _} {k0_InvalidText : _} {k1_InvalidText : _} {k2_InvalidText : _} {k3_InvalidText : _} {k5_InvalidText : _}
    (xL_InvalidText : K.lookup C_InvalidText = some (excClassObj nm_InvalidText q_InvalidText C_InvalidText N_InvalidText bs_InvalidText bm_InvalidText true sn_InvalidText sub_InvalidText ab_InvalidText col_InvalidText dd_InvalidText k0_InvalidText k1_InvalidText k2_InvalidText k3_InvalidText k5_InvalidText "ValueError.__new__")) (rv_InvalidText : PySem.HandSPX.refsVE bm_InvalidText = true)
    {I_InvalidText : Addr} {iod_InvalidText ian_InvalidText : Option Addr} {isl_InvalidText : Array (Option Value)} {ioc_InvalidText ikV_InvalidText idc_InvalidText ipm_InvalidText icd_InvalidText ict_InvalidText : Value}
    (ic_InvalidText : PySem.W.findIn K (.ref C_InvalidText) "__init__" = some (some (.ref I_InvalidText))) (oa_InvalidText : PySem.W.findIn K (.ref C_InvalidText) "__setattr__" = some (some (.builtin "object.__setattr__"))) (oe_InvalidText : PySem.W.findIn K (.ref C_InvalidText) "value" = some none) (of_InvalidText : PySem.W.typeIn K (.ref I_InvalidText) = some (.type "function"))
    (il_InvalidText : K.lookup I_InvalidText = some ⟨ioc_InvalidText, iod_InvalidText, .func (PySem.W.fnOf "__init__" "InvalidText.__init__" (defArgs s_init_InvalidText) (defBody s_init_InvalidText) (defScope s_init_InvalidText) .none ikV_InvalidText idc_InvalidText ipm_InvalidText ian_InvalidText icd_InvalidText ict_InvalidText), isl_InvalidText⟩) (ie_InvalidText : PySem.W.codeIn K icd_InvalidText "InvalidText.__init__" = true) (ik_InvalidText : PySem.W.keepIn K (.ref I_InvalidText) = true)
    {C_InvalidLine : Addr} (ac_InvalidLine : PySem.W.nsIn K mainGlobals "InvalidLine" = some (some (.ref C_InvalidLine))) (kc_InvalidLine : PySem.W.keepIn K (.ref C_InvalidLine) = true) {kd_InvalidLine : ClassData} (kl_InvalidLine : PySem.W.clsIn K C_InvalidLine = some kd_InvalidLine) (kt_InvalidLine : PySem.W.typeIn K (.ref C_InvalidLine) = some (.type "type"))
    (xp_InvalidLine : PySem.W.findIn K (.ref C_InvalidLine) "__getattribute__" = some (some (.builtin "BaseException.__getattribute__"))) (xq_InvalidLine : PySem.W.findIn K (.ref C_InvalidLine) "__getattr__" = some none) (xr_InvalidLine : PySem.W.subIn K (.ref C_InvalidLine) (.type "BaseException") = some true) (xs_InvalidLine : PySem.W.hasDictIn K C_InvalidLine = true) (xt_InvalidLine : PySem.W.findIn K (.ref C_InvalidLine) "__class__" = some (some (.builtin "object.__class__"))) (xu_InvalidLine : PySem.W.mroIn K C_InvalidLine (.type "object") = some true)
    {nm_InvalidLine q_InvalidLine : Str} {N_InvalidLine : Addr} {bs_InvalidLine bm_InvalidLine : List Value} {sn_InvalidLine : _} {sub_InvalidLine : _} {ab_InvalidLine : _} {col_InvalidLine : _} {dd_InvalidLine : _} {k0_InvalidLine : _} {k1_InvalidLine : _} {k2_InvalidLine : _} {k3_InvalidLine : _} {k5_InvalidLine : _}
    (xL_InvalidLine : K.lookup C_InvalidLine = some (excClassObj nm_InvalidLine q_InvalidLine C_InvalidLine N_InvalidLine bs_InvalidLine bm_InvalidLine true sn_InvalidLine sub_InvalidLine ab_InvalidLine col_InvalidLine dd_InvalidLine k0_InvalidLine k1_InvalidLine k2_InvalidLine k3_InvalidLine k5_InvalidLine "ValueError.__new__")) (rv_InvalidLine : PySem.HandSPX.refsVE bm_InvalidLine = true)
    {I_InvalidLine : Addr} {iod_InvalidLine ian_InvalidLine : Option Addr} {isl_InvalidLine : Array (Option Value)} {ioc_InvalidLine ikV_InvalidLine idc_InvalidLine ipm_InvalidLine icd_InvalidLine ict_InvalidLine : Value}
    (ic_InvalidLine : PySem.W.findIn K (.ref C_InvalidLine) "__init__" = some (some (.ref I_InvalidLine))) (oa_InvalidLine : PySem.W.findIn K (.ref C_InvalidLine) "__setattr__" = some (some (.builtin "object.__setattr__"))) (oe_InvalidLine : PySem.W.findIn K (.ref C_InvalidLine) "value" = some none) (of_InvalidLine : PySem.W.typeIn K (.ref I_InvalidLine) = some (.type "function"))
    (il_InvalidLine : K.lookup I_InvalidLine = some ⟨ioc_InvalidLine, iod_InvalidLine, .func (PySem.W.fnOf "__init__" "InvalidLine.__init__" (defArgs s_init_InvalidLine) (defBody s_init_InvalidLine) (defScope s_init_InvalidLine) .none ikV_InvalidLine idc_InvalidLine ipm_InvalidLine ian_InvalidLine icd_InvalidLine ict_InvalidLine), isl_InvalidLine⟩) (ie_InvalidLine : PySem.W.codeIn K icd_InvalidLine "InvalidLine.__init__" = true) (ik_InvalidLine : PySem.W.keepIn K (.ref I_InvalidLine) = true)
    {C_Exhausted : Addr} (ac_Exhausted : PySem.W.nsIn K mainGlobals "Exhausted" = some (some (.ref C_Exhausted))) (kc_Exhausted : PySem.W.keepIn K (.ref C_Exhausted) = true) {kd_Exhausted : ClassData} (kl_Exhausted : PySem.W.clsIn K C_Exhausted = some kd_Exhausted) (kt_Exhausted : PySem.W.typeIn K (.ref C_Exhausted) = some (.type "type"))
    (xp_Exhausted : PySem.W.findIn K (.ref C_Exhausted) "__getattribute__" = some (some (.builtin "BaseException.__getattribute__"))) (xq_Exhausted : PySem.W.findIn K (.ref C_Exhausted) "__getattr__" = some none) (xr_Exhausted : PySem.W.subIn K (.ref C_Exhausted) (.type "BaseException") = some true) (xs_Exhausted : PySem.W.hasDictIn K C_Exhausted = true) (xt_Exhausted : PySem.W.findIn K (.ref C_Exhausted) "__class__" = some (some (.builtin "object.__class__"))) (xu_Exhausted : PySem.W.mroIn K C_Exhausted (.type "object") = some true)
    (xi_Exhausted : PySem.W.excIn K C_Exhausted PySem.HandSPX.veTail "ValueError.__new__" = true)
    {C_NothingToUndo : Addr} (ac_NothingToUndo : PySem.W.nsIn K mainGlobals "NothingToUndo" = some (some (.ref C_NothingToUndo))) (kc_NothingToUndo : PySem.W.keepIn K (.ref C_NothingToUndo) = true) {kd_NothingToUndo : ClassData} (kl_NothingToUndo : PySem.W.clsIn K C_NothingToUndo = some kd_NothingToUndo) (kt_NothingToUndo : PySem.W.typeIn K (.ref C_NothingToUndo) = some (.type "type"))
    (xp_NothingToUndo : PySem.W.findIn K (.ref C_NothingToUndo) "__getattribute__" = some (some (.builtin "BaseException.__getattribute__"))) (xq_NothingToUndo : PySem.W.findIn K (.ref C_NothingToUndo) "__getattr__" = some none) (xr_NothingToUndo : PySem.W.subIn K (.ref C_NothingToUndo) (.type "BaseException") = some true) (xs_NothingToUndo : PySem.W.hasDictIn K C_NothingToUndo = true) (xt_NothingToUndo : PySem.W.findIn K (.ref C_NothingToUndo) "__class__" = some (some (.builtin "object.__class__"))) (xu_NothingToUndo : PySem.W.mroIn K C_NothingToUndo (.type "object") = some true)
    (xi_NothingToUndo : PySem.W.excIn K C_NothingToUndo PySem.HandSPX.veTail "ValueError.__new__" = true)
    (gsp : PySem.W.specialIn K (.builtin "object.__class__") "__get__" = some (some (.builtin "getset_descriptor.__get__"))) (gta : PySem.W.takesIn K (.builtin "object.__class__") = some true) (kits : kitT [(C_InvalidSchedule, kd_InvalidSchedule.mro), (C_InvalidTree, kd_InvalidTree.mro), (C_InvalidCount, kd_InvalidCount.mro), (C_InvalidIndex, kd_InvalidIndex.mro), (C_InvalidBudget, kd_InvalidBudget.mro), (C_OutsideBudget, kd_OutsideBudget.mro), (C_InvalidSizes, kd_InvalidSizes.mro), (C_InvalidReads, kd_InvalidReads.mro), (C_InvalidState, kd_InvalidState.mro), (C_InvalidMerge, kd_InvalidMerge.mro), (C_InvalidPolicy, kd_InvalidPolicy.mro), (C_InvalidKey, kd_InvalidKey.mro), (C_InvalidValue, kd_InvalidValue.mro), (C_InvalidMoment, kd_InvalidMoment.mro), (C_InvalidText, kd_InvalidText.mro), (C_InvalidLine, kd_InvalidLine.mro), (C_Exhausted, kd_Exhausted.mro), (C_NothingToUndo, kd_NothingToUndo.mro)] C_MergeBudgetError = true) (kitn : decide ([C_InvalidSchedule, C_InvalidTree, C_InvalidCount, C_InvalidIndex, C_InvalidBudget, C_OutsideBudget, C_InvalidSizes, C_InvalidReads, C_InvalidState, C_InvalidMerge, C_InvalidPolicy, C_InvalidKey, C_InvalidValue, C_InvalidMoment, C_InvalidText, C_InvalidLine, C_Exhausted, C_NothingToUndo].Nodup) = true)
    : ∃ fd : FuncData, (∀ (s : Shared) (v : Value), BindsTo s fd ⟨[v], []⟩ [("_law_script", v)]) ∧ ∀ base : Heap, K.In base → base.Ns mainGlobals mg → FnG l.prog w K mg base CX0 4 fa fd ["_law_script"] (sp_law K) := by
  have e := hfa.symm.trans (PySem.W.mg_of X G a_law)
  cases e
  have F_L_start_draws := fun_mk (st := s_L_start_draws) l_L_start_draws c_L_start_draws k_L_start_draws
  have B_L_start_draws := F_L_start_draws.binds (ps := ["_law_script", "_law_nth"]) fun _ _ _ _ _ _ us hl => match us, hl with | [_, _], _ => rfl
  have F_L_next := fun_mk (st := s_L_next) l_L_next c_L_next k_L_next
  have B_L_next := F_L_next.binds (ps := ["_law_deal", "_law_upto"]) fun _ _ _ _ _ _ us hl => match us, hl with | [_, _], _ => rfl
  have F_L_pick := fun_mk (st := s_L_pick) l_L_pick c_L_pick k_L_pick
  have B_L_pick := F_L_pick.binds (ps := ["_law_deal", "_law_some"]) fun _ _ _ _ _ _ us hl => match us, hl with | [_, _], _ => rfl
  have F_L_odd := fun_mk (st := s_L_odd) l_L_odd c_L_odd k_L_odd
  have B_L_odd := F_L_odd.binds (ps := ["_law_deal"]) fun _ _ _ _ _ _ us hl => match us, hl with | [_], _ => rfl
  have F_L_kinds := fun_mk (st := s_L_kinds) l_L_kinds c_L_kinds k_L_kinds
  have B_L_kinds := F_L_kinds.binds (ps := ["_law_e"]) fun _ _ _ _ _ _ us hl => match us, hl with | [_], _ => rfl
  have F_L_made := fun_mk (st := s_L_made) l_L_made c_L_made k_L_made
  have B_L_made := F_L_made.binds (ps := ["_law_some"]) fun _ _ _ _ _ _ us hl => match us, hl with | [_], _ => rfl
  have F_law := fun_mk (st := s_law) l_law c_law k_law
  have B_law := F_law.binds (ps := ["_law_script"]) fun _ _ _ _ _ _ us hl => match us, hl with | [_], _ => rfl
  have FI_InvalidSchedule := fun_mk (st := s_init_InvalidSchedule) il_InvalidSchedule ie_InvalidSchedule ik_InvalidSchedule
  have BI_InvalidSchedule := FI_InvalidSchedule.binds (ps := ["self", "value"]) fun _ _ _ _ _ _ us hl => match us, hl with | [_, _], _ => rfl
  have FI_InvalidTree := fun_mk (st := s_init_InvalidTree) il_InvalidTree ie_InvalidTree ik_InvalidTree
  have BI_InvalidTree := FI_InvalidTree.binds (ps := ["self", "value"]) fun _ _ _ _ _ _ us hl => match us, hl with | [_, _], _ => rfl
  have FI_InvalidCount := fun_mk (st := s_init_InvalidCount) il_InvalidCount ie_InvalidCount ik_InvalidCount
  have BI_InvalidCount := FI_InvalidCount.binds (ps := ["self", "value"]) fun _ _ _ _ _ _ us hl => match us, hl with | [_, _], _ => rfl
  have FI_InvalidIndex := fun_mk (st := s_init_InvalidIndex) il_InvalidIndex ie_InvalidIndex ik_InvalidIndex
  have BI_InvalidIndex := FI_InvalidIndex.binds (ps := ["self", "value"]) fun _ _ _ _ _ _ us hl => match us, hl with | [_, _], _ => rfl
  have FI_InvalidBudget := fun_mk (st := s_init_InvalidBudget) il_InvalidBudget ie_InvalidBudget ik_InvalidBudget
  have BI_InvalidBudget := FI_InvalidBudget.binds (ps := ["self", "value"]) fun _ _ _ _ _ _ us hl => match us, hl with | [_, _], _ => rfl
  have FI_OutsideBudget := fun_mk (st := s_init_OutsideBudget) il_OutsideBudget ie_OutsideBudget ik_OutsideBudget
  have BI_OutsideBudget := FI_OutsideBudget.binds (ps := ["self", "value"]) fun _ _ _ _ _ _ us hl => match us, hl with | [_, _], _ => rfl
  have FI_InvalidSizes := fun_mk (st := s_init_InvalidSizes) il_InvalidSizes ie_InvalidSizes ik_InvalidSizes
  have BI_InvalidSizes := FI_InvalidSizes.binds (ps := ["self", "value"]) fun _ _ _ _ _ _ us hl => match us, hl with | [_, _], _ => rfl
  have FI_InvalidReads := fun_mk (st := s_init_InvalidReads) il_InvalidReads ie_InvalidReads ik_InvalidReads
  have BI_InvalidReads := FI_InvalidReads.binds (ps := ["self", "value"]) fun _ _ _ _ _ _ us hl => match us, hl with | [_, _], _ => rfl
  have FI_InvalidState := fun_mk (st := s_init_InvalidState) il_InvalidState ie_InvalidState ik_InvalidState
  have BI_InvalidState := FI_InvalidState.binds (ps := ["self", "value"]) fun _ _ _ _ _ _ us hl => match us, hl with | [_, _], _ => rfl
  have FI_InvalidMerge := fun_mk (st := s_init_InvalidMerge) il_InvalidMerge ie_InvalidMerge ik_InvalidMerge
  have BI_InvalidMerge := FI_InvalidMerge.binds (ps := ["self", "value"]) fun _ _ _ _ _ _ us hl => match us, hl with | [_, _], _ => rfl
  have FI_InvalidPolicy := fun_mk (st := s_init_InvalidPolicy) il_InvalidPolicy ie_InvalidPolicy ik_InvalidPolicy
  have BI_InvalidPolicy := FI_InvalidPolicy.binds (ps := ["self", "value"]) fun _ _ _ _ _ _ us hl => match us, hl with | [_, _], _ => rfl
  have FI_InvalidKey := fun_mk (st := s_init_InvalidKey) il_InvalidKey ie_InvalidKey ik_InvalidKey
  have BI_InvalidKey := FI_InvalidKey.binds (ps := ["self", "value"]) fun _ _ _ _ _ _ us hl => match us, hl with | [_, _], _ => rfl
  have FI_InvalidValue := fun_mk (st := s_init_InvalidValue) il_InvalidValue ie_InvalidValue ik_InvalidValue
  have BI_InvalidValue := FI_InvalidValue.binds (ps := ["self", "value"]) fun _ _ _ _ _ _ us hl => match us, hl with | [_, _], _ => rfl
  have FI_InvalidMoment := fun_mk (st := s_init_InvalidMoment) il_InvalidMoment ie_InvalidMoment ik_InvalidMoment
  have BI_InvalidMoment := FI_InvalidMoment.binds (ps := ["self", "value"]) fun _ _ _ _ _ _ us hl => match us, hl with | [_, _], _ => rfl
  have FI_InvalidText := fun_mk (st := s_init_InvalidText) il_InvalidText ie_InvalidText ik_InvalidText
  have BI_InvalidText := FI_InvalidText.binds (ps := ["self", "value"]) fun _ _ _ _ _ _ us hl => match us, hl with | [_, _], _ => rfl
  have FI_InvalidLine := fun_mk (st := s_init_InvalidLine) il_InvalidLine ie_InvalidLine ik_InvalidLine
  have BI_InvalidLine := FI_InvalidLine.binds (ps := ["self", "value"]) fun _ _ _ _ _ _ us hl => match us, hl with | [_, _], _ => rfl
  have KT := kitB_mk (K := K) (m := C_MergeBudgetError) [(C_InvalidSchedule, kd_InvalidSchedule), (C_InvalidTree, kd_InvalidTree), (C_InvalidCount, kd_InvalidCount), (C_InvalidIndex, kd_InvalidIndex), (C_InvalidBudget, kd_InvalidBudget), (C_OutsideBudget, kd_OutsideBudget), (C_InvalidSizes, kd_InvalidSizes), (C_InvalidReads, kd_InvalidReads), (C_InvalidState, kd_InvalidState), (C_InvalidMerge, kd_InvalidMerge), (C_InvalidPolicy, kd_InvalidPolicy), (C_InvalidKey, kd_InvalidKey), (C_InvalidValue, kd_InvalidValue), (C_InvalidMoment, kd_InvalidMoment), (C_InvalidText, kd_InvalidText), (C_InvalidLine, kd_InvalidLine), (C_Exhausted, kd_Exhausted), (C_NothingToUndo, kd_NothingToUndo)] (by simp only [List.forall_mem_cons, List.not_mem_nil, false_implies, implies_true, and_true]; exact ⟨⟨kl_InvalidSchedule, kt_InvalidSchedule⟩, ⟨kl_InvalidTree, kt_InvalidTree⟩, ⟨kl_InvalidCount, kt_InvalidCount⟩, ⟨kl_InvalidIndex, kt_InvalidIndex⟩, ⟨kl_InvalidBudget, kt_InvalidBudget⟩, ⟨kl_OutsideBudget, kt_OutsideBudget⟩, ⟨kl_InvalidSizes, kt_InvalidSizes⟩, ⟨kl_InvalidReads, kt_InvalidReads⟩, ⟨kl_InvalidState, kt_InvalidState⟩, ⟨kl_InvalidMerge, kt_InvalidMerge⟩, ⟨kl_InvalidPolicy, kt_InvalidPolicy⟩, ⟨kl_InvalidKey, kt_InvalidKey⟩, ⟨kl_InvalidValue, kt_InvalidValue⟩, ⟨kl_InvalidMoment, kt_InvalidMoment⟩, ⟨kl_InvalidText, kt_InvalidText⟩, ⟨kl_InvalidLine, kt_InvalidLine⟩, ⟨kl_Exhausted, kt_Exhausted⟩, ⟨kl_NothingToUndo, kt_NothingToUndo⟩⟩) kl_MergeBudgetError kt_MergeBudgetError kits
  let TX : Tx K mg := ⟨_, _, F_L_start_draws, PySem.W.mg_of X G a_L_start_draws, B_L_start_draws, _, _, F_L_next, PySem.W.mg_of X G a_L_next, B_L_next, _, _, F_L_pick, PySem.W.mg_of X G a_L_pick, B_L_pick, _, _, F_L_odd, PySem.W.mg_of X G a_L_odd, B_L_odd, _, _, F_L_kinds, PySem.W.mg_of X G a_L_kinds, B_L_kinds, _, _, F_L_made, PySem.W.mg_of X G a_L_made, B_L_made, _, _, F_law, PySem.W.mg_of X G a_law, B_law, PySem.W.mg_none_of X G z_int, PySem.W.mg_none_of X G z_len, PySem.W.mg_none_of X G z_abs, PySem.W.mg_none_of X G z_range, PySem.W.mg_none_of X G z_isinstance, PySem.W.mg_none_of X G z_enumerate, PySem.W.mg_none_of X G z_max, PySem.W.mg_none_of X G z_min, PySem.W.mg_none_of X G z_repr, PySem.W.mg_none_of X G z_ValueError, _, PySem.W.mg_of X G ac_MergeBudgetError, kc_MergeBudgetError, ⟨xp_MergeBudgetError, xq_MergeBudgetError, xr_MergeBudgetError, xs_MergeBudgetError, xt_MergeBudgetError, gsp, gta, xu_MergeBudgetError⟩, ⟨xp_MergeBudgetError, xq_MergeBudgetError, xr_MergeBudgetError, xs_MergeBudgetError⟩, xi_MergeBudgetError, _, PySem.W.mg_of X G ac_InvalidSchedule, kc_InvalidSchedule, ⟨xp_InvalidSchedule, xq_InvalidSchedule, xr_InvalidSchedule, xs_InvalidSchedule, xt_InvalidSchedule, gsp, gta, xu_InvalidSchedule⟩, ⟨xp_InvalidSchedule, xq_InvalidSchedule, xr_InvalidSchedule, xs_InvalidSchedule⟩, ⟨⟨_, _, _, _, _, _, _, _, _, _, _, _, _, _, _, xL_InvalidSchedule, rv_InvalidSchedule⟩, oa_InvalidSchedule, xr_InvalidSchedule, kt_InvalidSchedule, kc_InvalidSchedule⟩, oe_InvalidSchedule, _, _, ic_InvalidSchedule, of_InvalidSchedule, FI_InvalidSchedule, BI_InvalidSchedule, _, PySem.W.mg_of X G ac_InvalidTree, kc_InvalidTree, ⟨xp_InvalidTree, xq_InvalidTree, xr_InvalidTree, xs_InvalidTree, xt_InvalidTree, gsp, gta, xu_InvalidTree⟩, ⟨xp_InvalidTree, xq_InvalidTree, xr_InvalidTree, xs_InvalidTree⟩, ⟨⟨_, _, _, _, _, _, _, _, _, _, _, _, _, _, _, xL_InvalidTree, rv_InvalidTree⟩, oa_InvalidTree, xr_InvalidTree, kt_InvalidTree, kc_InvalidTree⟩, oe_InvalidTree, _, _, ic_InvalidTree, of_InvalidTree, FI_InvalidTree, BI_InvalidTree, _, PySem.W.mg_of X G ac_InvalidCount, kc_InvalidCount, ⟨xp_InvalidCount, xq_InvalidCount, xr_InvalidCount, xs_InvalidCount, xt_InvalidCount, gsp, gta, xu_InvalidCount⟩, ⟨xp_InvalidCount, xq_InvalidCount, xr_InvalidCount, xs_InvalidCount⟩, ⟨⟨_, _, _, _, _, _, _, _, _, _, _, _, _, _, _, xL_InvalidCount, rv_InvalidCount⟩, oa_InvalidCount, xr_InvalidCount, kt_InvalidCount, kc_InvalidCount⟩, oe_InvalidCount, _, _, ic_InvalidCount, of_InvalidCount, FI_InvalidCount, BI_InvalidCount, _, PySem.W.mg_of X G ac_InvalidIndex, kc_InvalidIndex, ⟨xp_InvalidIndex, xq_InvalidIndex, xr_InvalidIndex, xs_InvalidIndex, xt_InvalidIndex, gsp, gta, xu_InvalidIndex⟩, ⟨xp_InvalidIndex, xq_InvalidIndex, xr_InvalidIndex, xs_InvalidIndex⟩, ⟨⟨_, _, _, _, _, _, _, _, _, _, _, _, _, _, _, xL_InvalidIndex, rv_InvalidIndex⟩, oa_InvalidIndex, xr_InvalidIndex, kt_InvalidIndex, kc_InvalidIndex⟩, oe_InvalidIndex, _, _, ic_InvalidIndex, of_InvalidIndex, FI_InvalidIndex, BI_InvalidIndex, _, PySem.W.mg_of X G ac_InvalidBudget, kc_InvalidBudget, ⟨xp_InvalidBudget, xq_InvalidBudget, xr_InvalidBudget, xs_InvalidBudget, xt_InvalidBudget, gsp, gta, xu_InvalidBudget⟩, ⟨xp_InvalidBudget, xq_InvalidBudget, xr_InvalidBudget, xs_InvalidBudget⟩, ⟨⟨_, _, _, _, _, _, _, _, _, _, _, _, _, _, _, xL_InvalidBudget, rv_InvalidBudget⟩, oa_InvalidBudget, xr_InvalidBudget, kt_InvalidBudget, kc_InvalidBudget⟩, oe_InvalidBudget, _, _, ic_InvalidBudget, of_InvalidBudget, FI_InvalidBudget, BI_InvalidBudget, _, PySem.W.mg_of X G ac_OutsideBudget, kc_OutsideBudget, ⟨xp_OutsideBudget, xq_OutsideBudget, xr_OutsideBudget, xs_OutsideBudget, xt_OutsideBudget, gsp, gta, xu_OutsideBudget⟩, ⟨xp_OutsideBudget, xq_OutsideBudget, xr_OutsideBudget, xs_OutsideBudget⟩, ⟨⟨_, _, _, _, _, _, _, _, _, _, _, _, _, _, _, xL_OutsideBudget, rv_OutsideBudget⟩, oa_OutsideBudget, xr_OutsideBudget, kt_OutsideBudget, kc_OutsideBudget⟩, oe_OutsideBudget, _, _, ic_OutsideBudget, of_OutsideBudget, FI_OutsideBudget, BI_OutsideBudget, _, PySem.W.mg_of X G ac_InvalidSizes, kc_InvalidSizes, ⟨xp_InvalidSizes, xq_InvalidSizes, xr_InvalidSizes, xs_InvalidSizes, xt_InvalidSizes, gsp, gta, xu_InvalidSizes⟩, ⟨xp_InvalidSizes, xq_InvalidSizes, xr_InvalidSizes, xs_InvalidSizes⟩, ⟨⟨_, _, _, _, _, _, _, _, _, _, _, _, _, _, _, xL_InvalidSizes, rv_InvalidSizes⟩, oa_InvalidSizes, xr_InvalidSizes, kt_InvalidSizes, kc_InvalidSizes⟩, oe_InvalidSizes, _, _, ic_InvalidSizes, of_InvalidSizes, FI_InvalidSizes, BI_InvalidSizes, _, PySem.W.mg_of X G ac_InvalidReads, kc_InvalidReads, ⟨xp_InvalidReads, xq_InvalidReads, xr_InvalidReads, xs_InvalidReads, xt_InvalidReads, gsp, gta, xu_InvalidReads⟩, ⟨xp_InvalidReads, xq_InvalidReads, xr_InvalidReads, xs_InvalidReads⟩, ⟨⟨_, _, _, _, _, _, _, _, _, _, _, _, _, _, _, xL_InvalidReads, rv_InvalidReads⟩, oa_InvalidReads, xr_InvalidReads, kt_InvalidReads, kc_InvalidReads⟩, oe_InvalidReads, _, _, ic_InvalidReads, of_InvalidReads, FI_InvalidReads, BI_InvalidReads, _, PySem.W.mg_of X G ac_InvalidState, kc_InvalidState, ⟨xp_InvalidState, xq_InvalidState, xr_InvalidState, xs_InvalidState, xt_InvalidState, gsp, gta, xu_InvalidState⟩, ⟨xp_InvalidState, xq_InvalidState, xr_InvalidState, xs_InvalidState⟩, ⟨⟨_, _, _, _, _, _, _, _, _, _, _, _, _, _, _, xL_InvalidState, rv_InvalidState⟩, oa_InvalidState, xr_InvalidState, kt_InvalidState, kc_InvalidState⟩, oe_InvalidState, _, _, ic_InvalidState, of_InvalidState, FI_InvalidState, BI_InvalidState, _, PySem.W.mg_of X G ac_InvalidMerge, kc_InvalidMerge, ⟨xp_InvalidMerge, xq_InvalidMerge, xr_InvalidMerge, xs_InvalidMerge, xt_InvalidMerge, gsp, gta, xu_InvalidMerge⟩, ⟨xp_InvalidMerge, xq_InvalidMerge, xr_InvalidMerge, xs_InvalidMerge⟩, ⟨⟨_, _, _, _, _, _, _, _, _, _, _, _, _, _, _, xL_InvalidMerge, rv_InvalidMerge⟩, oa_InvalidMerge, xr_InvalidMerge, kt_InvalidMerge, kc_InvalidMerge⟩, oe_InvalidMerge, _, _, ic_InvalidMerge, of_InvalidMerge, FI_InvalidMerge, BI_InvalidMerge, _, PySem.W.mg_of X G ac_InvalidPolicy, kc_InvalidPolicy, ⟨xp_InvalidPolicy, xq_InvalidPolicy, xr_InvalidPolicy, xs_InvalidPolicy, xt_InvalidPolicy, gsp, gta, xu_InvalidPolicy⟩, ⟨xp_InvalidPolicy, xq_InvalidPolicy, xr_InvalidPolicy, xs_InvalidPolicy⟩, ⟨⟨_, _, _, _, _, _, _, _, _, _, _, _, _, _, _, xL_InvalidPolicy, rv_InvalidPolicy⟩, oa_InvalidPolicy, xr_InvalidPolicy, kt_InvalidPolicy, kc_InvalidPolicy⟩, oe_InvalidPolicy, _, _, ic_InvalidPolicy, of_InvalidPolicy, FI_InvalidPolicy, BI_InvalidPolicy, _, PySem.W.mg_of X G ac_InvalidKey, kc_InvalidKey, ⟨xp_InvalidKey, xq_InvalidKey, xr_InvalidKey, xs_InvalidKey, xt_InvalidKey, gsp, gta, xu_InvalidKey⟩, ⟨xp_InvalidKey, xq_InvalidKey, xr_InvalidKey, xs_InvalidKey⟩, ⟨⟨_, _, _, _, _, _, _, _, _, _, _, _, _, _, _, xL_InvalidKey, rv_InvalidKey⟩, oa_InvalidKey, xr_InvalidKey, kt_InvalidKey, kc_InvalidKey⟩, oe_InvalidKey, _, _, ic_InvalidKey, of_InvalidKey, FI_InvalidKey, BI_InvalidKey, _, PySem.W.mg_of X G ac_InvalidValue, kc_InvalidValue, ⟨xp_InvalidValue, xq_InvalidValue, xr_InvalidValue, xs_InvalidValue, xt_InvalidValue, gsp, gta, xu_InvalidValue⟩, ⟨xp_InvalidValue, xq_InvalidValue, xr_InvalidValue, xs_InvalidValue⟩, ⟨⟨_, _, _, _, _, _, _, _, _, _, _, _, _, _, _, xL_InvalidValue, rv_InvalidValue⟩, oa_InvalidValue, xr_InvalidValue, kt_InvalidValue, kc_InvalidValue⟩, oe_InvalidValue, _, _, ic_InvalidValue, of_InvalidValue, FI_InvalidValue, BI_InvalidValue, _, PySem.W.mg_of X G ac_InvalidMoment, kc_InvalidMoment, ⟨xp_InvalidMoment, xq_InvalidMoment, xr_InvalidMoment, xs_InvalidMoment, xt_InvalidMoment, gsp, gta, xu_InvalidMoment⟩, ⟨xp_InvalidMoment, xq_InvalidMoment, xr_InvalidMoment, xs_InvalidMoment⟩, ⟨⟨_, _, _, _, _, _, _, _, _, _, _, _, _, _, _, xL_InvalidMoment, rv_InvalidMoment⟩, oa_InvalidMoment, xr_InvalidMoment, kt_InvalidMoment, kc_InvalidMoment⟩, oe_InvalidMoment, _, _, ic_InvalidMoment, of_InvalidMoment, FI_InvalidMoment, BI_InvalidMoment, _, PySem.W.mg_of X G ac_InvalidText, kc_InvalidText, ⟨xp_InvalidText, xq_InvalidText, xr_InvalidText, xs_InvalidText, xt_InvalidText, gsp, gta, xu_InvalidText⟩, ⟨xp_InvalidText, xq_InvalidText, xr_InvalidText, xs_InvalidText⟩, ⟨⟨_, _, _, _, _, _, _, _, _, _, _, _, _, _, _, xL_InvalidText, rv_InvalidText⟩, oa_InvalidText, xr_InvalidText, kt_InvalidText, kc_InvalidText⟩, oe_InvalidText, _, _, ic_InvalidText, of_InvalidText, FI_InvalidText, BI_InvalidText, _, PySem.W.mg_of X G ac_InvalidLine, kc_InvalidLine, ⟨xp_InvalidLine, xq_InvalidLine, xr_InvalidLine, xs_InvalidLine, xt_InvalidLine, gsp, gta, xu_InvalidLine⟩, ⟨xp_InvalidLine, xq_InvalidLine, xr_InvalidLine, xs_InvalidLine⟩, ⟨⟨_, _, _, _, _, _, _, _, _, _, _, _, _, _, _, xL_InvalidLine, rv_InvalidLine⟩, oa_InvalidLine, xr_InvalidLine, kt_InvalidLine, kc_InvalidLine⟩, oe_InvalidLine, _, _, ic_InvalidLine, of_InvalidLine, FI_InvalidLine, BI_InvalidLine, _, PySem.W.mg_of X G ac_Exhausted, kc_Exhausted, ⟨xp_Exhausted, xq_Exhausted, xr_Exhausted, xs_Exhausted, xt_Exhausted, gsp, gta, xu_Exhausted⟩, ⟨xp_Exhausted, xq_Exhausted, xr_Exhausted, xs_Exhausted⟩, xi_Exhausted, _, PySem.W.mg_of X G ac_NothingToUndo, kc_NothingToUndo, ⟨xp_NothingToUndo, xq_NothingToUndo, xr_NothingToUndo, xs_NothingToUndo, xt_NothingToUndo, gsp, gta, xu_NothingToUndo⟩, ⟨xp_NothingToUndo, xq_NothingToUndo, xr_NothingToUndo, xs_NothingToUndo⟩, xi_NothingToUndo, KT, of_decide_eq_true kitn⟩
  exact ⟨TX.fd_law, fun s v => .of_eq rfl, fun base _ _ => ok_law TX⟩
end MB
open PySem PySem.W PyProof.Rows
set_option maxHeartbeats 0 in
theorem PySem.Challenge.cw_mergebudget_k69_exceptions_alone_holds : PySem.Challenge.rw_mergebudget_k69_exceptions_alone.Holds := by
  w_on; o_law; k_head; (case hw => w_witness2)
  k_fill
  refine MB.walk_ofS (l := PySem.Challenge.rw_mergebudget_k69_exceptions_alone) (n := 63) (k := 4) (x := "_law_script") (sp := MB.sp_law) rfl (by decide) rfl ⟨rfl, by decide, by decide⟩ (by decide +kernel) ?KS (fun w h Y => PySem.W.kIn_of Y) ?F (fun _ _ a ns o hl hS hy => ⟨a, ns, o, rfl, hS, hl, hy, fun _ => rfl⟩)
  case F =>
    intro w mg fa h KX G hmg
    refine' MB.all_mk KX G hmg ?a_L_start_draws ?l_L_start_draws ?c_L_start_draws ?k_L_start_draws ?a_L_next ?l_L_next ?c_L_next ?k_L_next ?a_L_pick ?l_L_pick ?c_L_pick ?k_L_pick ?a_L_odd ?l_L_odd ?c_L_odd ?k_L_odd ?a_L_kinds ?l_L_kinds ?c_L_kinds ?k_L_kinds ?a_L_made ?l_L_made ?c_L_made ?k_L_made ?a_law ?l_law ?c_law ?k_law ?z_int ?z_len ?z_abs ?z_range ?z_isinstance ?z_enumerate ?z_max ?z_min ?z_repr ?z_ValueError ?ac_MergeBudgetError ?kc_MergeBudgetError ?kl_MergeBudgetError ?kt_MergeBudgetError ?xp_MergeBudgetError ?xq_MergeBudgetError ?xr_MergeBudgetError ?xs_MergeBudgetError ?xt_MergeBudgetError ?xu_MergeBudgetError ?xi_MergeBudgetError ?ac_InvalidSchedule ?kc_InvalidSchedule ?kl_InvalidSchedule ?kt_InvalidSchedule ?xp_InvalidSchedule ?xq_InvalidSchedule ?xr_InvalidSchedule ?xs_InvalidSchedule ?xt_InvalidSchedule ?xu_InvalidSchedule ?xL_InvalidSchedule ?rv_InvalidSchedule ?ic_InvalidSchedule ?oa_InvalidSchedule ?oe_InvalidSchedule ?of_InvalidSchedule ?il_InvalidSchedule ?ie_InvalidSchedule ?ik_InvalidSchedule ?ac_InvalidTree ?kc_InvalidTree ?kl_InvalidTree ?kt_InvalidTree ?xp_InvalidTree ?xq_InvalidTree ?xr_InvalidTree ?xs_InvalidTree ?xt_InvalidTree ?xu_InvalidTree ?xL_InvalidTree ?rv_InvalidTree ?ic_InvalidTree ?oa_InvalidTree ?oe_InvalidTree ?of_InvalidTree ?il_InvalidTree ?ie_InvalidTree ?ik_InvalidTree ?ac_InvalidCount ?kc_InvalidCount ?kl_InvalidCount ?kt_InvalidCount ?xp_InvalidCount ?xq_InvalidCount ?xr_InvalidCount ?xs_InvalidCount ?xt_InvalidCount ?xu_InvalidCount ?xL_InvalidCount ?rv_InvalidCount ?ic_InvalidCount ?oa_InvalidCount ?oe_InvalidCount ?of_InvalidCount ?il_InvalidCount ?ie_InvalidCount ?ik_InvalidCount ?ac_InvalidIndex ?kc_InvalidIndex ?kl_InvalidIndex ?kt_InvalidIndex ?xp_InvalidIndex ?xq_InvalidIndex ?xr_InvalidIndex ?xs_InvalidIndex ?xt_InvalidIndex ?xu_InvalidIndex ?xL_InvalidIndex ?rv_InvalidIndex ?ic_InvalidIndex ?oa_InvalidIndex ?oe_InvalidIndex ?of_InvalidIndex ?il_InvalidIndex ?ie_InvalidIndex ?ik_InvalidIndex ?ac_InvalidBudget ?kc_InvalidBudget ?kl_InvalidBudget ?kt_InvalidBudget ?xp_InvalidBudget ?xq_InvalidBudget ?xr_InvalidBudget ?xs_InvalidBudget ?xt_InvalidBudget ?xu_InvalidBudget ?xL_InvalidBudget ?rv_InvalidBudget ?ic_InvalidBudget ?oa_InvalidBudget ?oe_InvalidBudget ?of_InvalidBudget ?il_InvalidBudget ?ie_InvalidBudget ?ik_InvalidBudget ?ac_OutsideBudget ?kc_OutsideBudget ?kl_OutsideBudget ?kt_OutsideBudget ?xp_OutsideBudget ?xq_OutsideBudget ?xr_OutsideBudget ?xs_OutsideBudget ?xt_OutsideBudget ?xu_OutsideBudget ?xL_OutsideBudget ?rv_OutsideBudget ?ic_OutsideBudget ?oa_OutsideBudget ?oe_OutsideBudget ?of_OutsideBudget ?il_OutsideBudget ?ie_OutsideBudget ?ik_OutsideBudget ?ac_InvalidSizes ?kc_InvalidSizes ?kl_InvalidSizes ?kt_InvalidSizes ?xp_InvalidSizes ?xq_InvalidSizes ?xr_InvalidSizes ?xs_InvalidSizes ?xt_InvalidSizes ?xu_InvalidSizes ?xL_InvalidSizes ?rv_InvalidSizes ?ic_InvalidSizes ?oa_InvalidSizes ?oe_InvalidSizes ?of_InvalidSizes ?il_InvalidSizes ?ie_InvalidSizes ?ik_InvalidSizes ?ac_InvalidReads ?kc_InvalidReads ?kl_InvalidReads ?kt_InvalidReads ?xp_InvalidReads ?xq_InvalidReads ?xr_InvalidReads ?xs_InvalidReads ?xt_InvalidReads ?xu_InvalidReads ?xL_InvalidReads ?rv_InvalidReads ?ic_InvalidReads ?oa_InvalidReads ?oe_InvalidReads ?of_InvalidReads ?il_InvalidReads ?ie_InvalidReads ?ik_InvalidReads ?ac_InvalidState ?kc_InvalidState ?kl_InvalidState ?kt_InvalidState ?xp_InvalidState ?xq_InvalidState ?xr_InvalidState ?xs_InvalidState ?xt_InvalidState ?xu_InvalidState ?xL_InvalidState ?rv_InvalidState ?ic_InvalidState ?oa_InvalidState ?oe_InvalidState ?of_InvalidState ?il_InvalidState ?ie_InvalidState ?ik_InvalidState ?ac_InvalidMerge ?kc_InvalidMerge ?kl_InvalidMerge ?kt_InvalidMerge ?xp_InvalidMerge ?xq_InvalidMerge ?xr_InvalidMerge ?xs_InvalidMerge ?xt_InvalidMerge ?xu_InvalidMerge ?xL_InvalidMerge ?rv_InvalidMerge ?ic_InvalidMerge ?oa_InvalidMerge ?oe_InvalidMerge ?of_InvalidMerge ?il_InvalidMerge ?ie_InvalidMerge ?ik_InvalidMerge ?ac_InvalidPolicy ?kc_InvalidPolicy ?kl_InvalidPolicy ?kt_InvalidPolicy ?xp_InvalidPolicy ?xq_InvalidPolicy ?xr_InvalidPolicy ?xs_InvalidPolicy ?xt_InvalidPolicy ?xu_InvalidPolicy ?xL_InvalidPolicy ?rv_InvalidPolicy ?ic_InvalidPolicy ?oa_InvalidPolicy ?oe_InvalidPolicy ?of_InvalidPolicy ?il_InvalidPolicy ?ie_InvalidPolicy ?ik_InvalidPolicy ?ac_InvalidKey ?kc_InvalidKey ?kl_InvalidKey ?kt_InvalidKey ?xp_InvalidKey ?xq_InvalidKey ?xr_InvalidKey ?xs_InvalidKey ?xt_InvalidKey ?xu_InvalidKey ?xL_InvalidKey ?rv_InvalidKey ?ic_InvalidKey ?oa_InvalidKey ?oe_InvalidKey ?of_InvalidKey ?il_InvalidKey ?ie_InvalidKey ?ik_InvalidKey ?ac_InvalidValue ?kc_InvalidValue ?kl_InvalidValue ?kt_InvalidValue ?xp_InvalidValue ?xq_InvalidValue ?xr_InvalidValue ?xs_InvalidValue ?xt_InvalidValue ?xu_InvalidValue ?xL_InvalidValue ?rv_InvalidValue ?ic_InvalidValue ?oa_InvalidValue ?oe_InvalidValue ?of_InvalidValue ?il_InvalidValue ?ie_InvalidValue ?ik_InvalidValue ?ac_InvalidMoment ?kc_InvalidMoment ?kl_InvalidMoment ?kt_InvalidMoment ?xp_InvalidMoment ?xq_InvalidMoment ?xr_InvalidMoment ?xs_InvalidMoment ?xt_InvalidMoment ?xu_InvalidMoment ?xL_InvalidMoment ?rv_InvalidMoment ?ic_InvalidMoment ?oa_InvalidMoment ?oe_InvalidMoment ?of_InvalidMoment ?il_InvalidMoment ?ie_InvalidMoment ?ik_InvalidMoment ?ac_InvalidText ?kc_InvalidText ?kl_InvalidText ?kt_InvalidText ?xp_InvalidText ?xq_InvalidText ?xr_InvalidText ?xs_InvalidText ?xt_InvalidText ?xu_InvalidText ?xL_InvalidText ?rv_InvalidText ?ic_InvalidText ?oa_InvalidText ?oe_InvalidText ?of_InvalidText ?il_InvalidText ?ie_InvalidText ?ik_InvalidText ?ac_InvalidLine ?kc_InvalidLine ?kl_InvalidLine ?kt_InvalidLine ?xp_InvalidLine ?xq_InvalidLine ?xr_InvalidLine ?xs_InvalidLine ?xt_InvalidLine ?xu_InvalidLine ?xL_InvalidLine ?rv_InvalidLine ?ic_InvalidLine ?oa_InvalidLine ?oe_InvalidLine ?of_InvalidLine ?il_InvalidLine ?ie_InvalidLine ?ik_InvalidLine ?ac_Exhausted ?kc_Exhausted ?kl_Exhausted ?kt_Exhausted ?xp_Exhausted ?xq_Exhausted ?xr_Exhausted ?xs_Exhausted ?xt_Exhausted ?xu_Exhausted ?xi_Exhausted ?ac_NothingToUndo ?kc_NothingToUndo ?kl_NothingToUndo ?kt_NothingToUndo ?xp_NothingToUndo ?xq_NothingToUndo ?xr_NothingToUndo ?xs_NothingToUndo ?xt_NothingToUndo ?xu_NothingToUndo ?xi_NothingToUndo ?gsp ?gta ?kits ?kitn
    (case a_L_start_draws => k_is); (case l_L_start_draws => k_is); (case c_L_start_draws => k_is); (case k_L_start_draws => k_is); (case a_L_next => k_is); (case l_L_next => k_is); (case c_L_next => k_is); (case k_L_next => k_is); (case a_L_pick => k_is); (case l_L_pick => k_is); (case c_L_pick => k_is); (case k_L_pick => k_is); (case a_L_odd => k_is); (case l_L_odd => k_is); (case c_L_odd => k_is); (case k_L_odd => k_is); (case a_L_kinds => k_is); (case l_L_kinds => k_is); (case c_L_kinds => k_is); (case k_L_kinds => k_is); (case a_L_made => k_is); (case l_L_made => k_is); (case c_L_made => k_is); (case k_L_made => k_is); (case a_law => k_is); (case l_law => k_is); (case c_law => k_is); (case k_law => k_is); (case z_int => k_is); (case z_len => k_is); (case z_abs => k_is); (case z_range => k_is); (case z_isinstance => k_is); (case z_enumerate => k_is); (case z_max => k_is); (case z_min => k_is); (case z_repr => k_is); (case z_ValueError => k_is); (case ac_MergeBudgetError => k_is); (case kc_MergeBudgetError => k_is); (case kl_MergeBudgetError => k_is); (case kt_MergeBudgetError => k_is); (case xp_MergeBudgetError => k_is); (case xq_MergeBudgetError => k_is); (case xr_MergeBudgetError => k_is); (case xs_MergeBudgetError => k_is); (case xt_MergeBudgetError => k_is); (case xu_MergeBudgetError => k_is); (case xi_MergeBudgetError => first | k_exc | k_is); (case ac_InvalidSchedule => k_is); (case kc_InvalidSchedule => k_is); (case kl_InvalidSchedule => k_is); (case kt_InvalidSchedule => k_is); (case xp_InvalidSchedule => k_is); (case xq_InvalidSchedule => k_is); (case xr_InvalidSchedule => k_is); (case xs_InvalidSchedule => k_is); (case xt_InvalidSchedule => k_is); (case xu_InvalidSchedule => k_is); (case xL_InvalidSchedule => k_is); (case rv_InvalidSchedule => decide +kernel); (case ic_InvalidSchedule => k_is); (case oa_InvalidSchedule => k_is); (case oe_InvalidSchedule => k_is); (case of_InvalidSchedule => k_is); (case il_InvalidSchedule => k_is); (case ie_InvalidSchedule => k_is); (case ik_InvalidSchedule => k_is); (case ac_InvalidTree => k_is); (case kc_InvalidTree => k_is); (case kl_InvalidTree => k_is); (case kt_InvalidTree => k_is); (case xp_InvalidTree => k_is); (case xq_InvalidTree => k_is); (case xr_InvalidTree => k_is); (case xs_InvalidTree => k_is); (case xt_InvalidTree => k_is); (case xu_InvalidTree => k_is); (case xL_InvalidTree => k_is); (case rv_InvalidTree => decide +kernel); (case ic_InvalidTree => k_is); (case oa_InvalidTree => k_is); (case oe_InvalidTree => k_is); (case of_InvalidTree => k_is); (case il_InvalidTree => k_is); (case ie_InvalidTree => k_is); (case ik_InvalidTree => k_is); (case ac_InvalidCount => k_is); (case kc_InvalidCount => k_is); (case kl_InvalidCount => k_is); (case kt_InvalidCount => k_is); (case xp_InvalidCount => k_is); (case xq_InvalidCount => k_is); (case xr_InvalidCount => k_is); (case xs_InvalidCount => k_is); (case xt_InvalidCount => k_is); (case xu_InvalidCount => k_is); (case xL_InvalidCount => k_is); (case rv_InvalidCount => decide +kernel); (case ic_InvalidCount => k_is); (case oa_InvalidCount => k_is); (case oe_InvalidCount => k_is); (case of_InvalidCount => k_is); (case il_InvalidCount => k_is); (case ie_InvalidCount => k_is); (case ik_InvalidCount => k_is); (case ac_InvalidIndex => k_is); (case kc_InvalidIndex => k_is); (case kl_InvalidIndex => k_is); (case kt_InvalidIndex => k_is); (case xp_InvalidIndex => k_is); (case xq_InvalidIndex => k_is); (case xr_InvalidIndex => k_is); (case xs_InvalidIndex => k_is); (case xt_InvalidIndex => k_is); (case xu_InvalidIndex => k_is); (case xL_InvalidIndex => k_is); (case rv_InvalidIndex => decide +kernel); (case ic_InvalidIndex => k_is); (case oa_InvalidIndex => k_is); (case oe_InvalidIndex => k_is); (case of_InvalidIndex => k_is); (case il_InvalidIndex => k_is); (case ie_InvalidIndex => k_is); (case ik_InvalidIndex => k_is); (case ac_InvalidBudget => k_is); (case kc_InvalidBudget => k_is); (case kl_InvalidBudget => k_is); (case kt_InvalidBudget => k_is); (case xp_InvalidBudget => k_is); (case xq_InvalidBudget => k_is); (case xr_InvalidBudget => k_is); (case xs_InvalidBudget => k_is); (case xt_InvalidBudget => k_is); (case xu_InvalidBudget => k_is); (case xL_InvalidBudget => k_is); (case rv_InvalidBudget => decide +kernel); (case ic_InvalidBudget => k_is); (case oa_InvalidBudget => k_is); (case oe_InvalidBudget => k_is); (case of_InvalidBudget => k_is); (case il_InvalidBudget => k_is); (case ie_InvalidBudget => k_is); (case ik_InvalidBudget => k_is); (case ac_OutsideBudget => k_is); (case kc_OutsideBudget => k_is); (case kl_OutsideBudget => k_is); (case kt_OutsideBudget => k_is); (case xp_OutsideBudget => k_is); (case xq_OutsideBudget => k_is); (case xr_OutsideBudget => k_is); (case xs_OutsideBudget => k_is); (case xt_OutsideBudget => k_is); (case xu_OutsideBudget => k_is); (case xL_OutsideBudget => k_is); (case rv_OutsideBudget => decide +kernel); (case ic_OutsideBudget => k_is); (case oa_OutsideBudget => k_is); (case oe_OutsideBudget => k_is); (case of_OutsideBudget => k_is); (case il_OutsideBudget => k_is); (case ie_OutsideBudget => k_is); (case ik_OutsideBudget => k_is); (case ac_InvalidSizes => k_is); (case kc_InvalidSizes => k_is); (case kl_InvalidSizes => k_is); (case kt_InvalidSizes => k_is); (case xp_InvalidSizes => k_is); (case xq_InvalidSizes => k_is); (case xr_InvalidSizes => k_is); (case xs_InvalidSizes => k_is); (case xt_InvalidSizes => k_is); (case xu_InvalidSizes => k_is); (case xL_InvalidSizes => k_is); (case rv_InvalidSizes => decide +kernel); (case ic_InvalidSizes => k_is); (case oa_InvalidSizes => k_is); (case oe_InvalidSizes => k_is); (case of_InvalidSizes => k_is); (case il_InvalidSizes => k_is); (case ie_InvalidSizes => k_is); (case ik_InvalidSizes => k_is); (case ac_InvalidReads => k_is); (case kc_InvalidReads => k_is); (case kl_InvalidReads => k_is); (case kt_InvalidReads => k_is); (case xp_InvalidReads => k_is); (case xq_InvalidReads => k_is); (case xr_InvalidReads => k_is); (case xs_InvalidReads => k_is); (case xt_InvalidReads => k_is); (case xu_InvalidReads => k_is); (case xL_InvalidReads => k_is); (case rv_InvalidReads => decide +kernel); (case ic_InvalidReads => k_is); (case oa_InvalidReads => k_is); (case oe_InvalidReads => k_is); (case of_InvalidReads => k_is); (case il_InvalidReads => k_is); (case ie_InvalidReads => k_is); (case ik_InvalidReads => k_is); (case ac_InvalidState => k_is); (case kc_InvalidState => k_is); (case kl_InvalidState => k_is); (case kt_InvalidState => k_is); (case xp_InvalidState => k_is); (case xq_InvalidState => k_is); (case xr_InvalidState => k_is); (case xs_InvalidState => k_is); (case xt_InvalidState => k_is); (case xu_InvalidState => k_is); (case xL_InvalidState => k_is); (case rv_InvalidState => decide +kernel); (case ic_InvalidState => k_is); (case oa_InvalidState => k_is); (case oe_InvalidState => k_is); (case of_InvalidState => k_is); (case il_InvalidState => k_is); (case ie_InvalidState => k_is); (case ik_InvalidState => k_is); (case ac_InvalidMerge => k_is); (case kc_InvalidMerge => k_is); (case kl_InvalidMerge => k_is); (case kt_InvalidMerge => k_is); (case xp_InvalidMerge => k_is); (case xq_InvalidMerge => k_is); (case xr_InvalidMerge => k_is); (case xs_InvalidMerge => k_is); (case xt_InvalidMerge => k_is); (case xu_InvalidMerge => k_is); (case xL_InvalidMerge => k_is); (case rv_InvalidMerge => decide +kernel); (case ic_InvalidMerge => k_is); (case oa_InvalidMerge => k_is); (case oe_InvalidMerge => k_is); (case of_InvalidMerge => k_is); (case il_InvalidMerge => k_is); (case ie_InvalidMerge => k_is); (case ik_InvalidMerge => k_is); (case ac_InvalidPolicy => k_is); (case kc_InvalidPolicy => k_is); (case kl_InvalidPolicy => k_is); (case kt_InvalidPolicy => k_is); (case xp_InvalidPolicy => k_is); (case xq_InvalidPolicy => k_is); (case xr_InvalidPolicy => k_is); (case xs_InvalidPolicy => k_is); (case xt_InvalidPolicy => k_is); (case xu_InvalidPolicy => k_is); (case xL_InvalidPolicy => k_is); (case rv_InvalidPolicy => decide +kernel); (case ic_InvalidPolicy => k_is); (case oa_InvalidPolicy => k_is); (case oe_InvalidPolicy => k_is); (case of_InvalidPolicy => k_is); (case il_InvalidPolicy => k_is); (case ie_InvalidPolicy => k_is); (case ik_InvalidPolicy => k_is); (case ac_InvalidKey => k_is); (case kc_InvalidKey => k_is); (case kl_InvalidKey => k_is); (case kt_InvalidKey => k_is); (case xp_InvalidKey => k_is); (case xq_InvalidKey => k_is); (case xr_InvalidKey => k_is); (case xs_InvalidKey => k_is); (case xt_InvalidKey => k_is); (case xu_InvalidKey => k_is); (case xL_InvalidKey => k_is); (case rv_InvalidKey => decide +kernel); (case ic_InvalidKey => k_is); (case oa_InvalidKey => k_is); (case oe_InvalidKey => k_is); (case of_InvalidKey => k_is); (case il_InvalidKey => k_is); (case ie_InvalidKey => k_is); (case ik_InvalidKey => k_is); (case ac_InvalidValue => k_is); (case kc_InvalidValue => k_is); (case kl_InvalidValue => k_is); (case kt_InvalidValue => k_is); (case xp_InvalidValue => k_is); (case xq_InvalidValue => k_is); (case xr_InvalidValue => k_is); (case xs_InvalidValue => k_is); (case xt_InvalidValue => k_is); (case xu_InvalidValue => k_is); (case xL_InvalidValue => k_is); (case rv_InvalidValue => decide +kernel); (case ic_InvalidValue => k_is); (case oa_InvalidValue => k_is); (case oe_InvalidValue => k_is); (case of_InvalidValue => k_is); (case il_InvalidValue => k_is); (case ie_InvalidValue => k_is); (case ik_InvalidValue => k_is); (case ac_InvalidMoment => k_is); (case kc_InvalidMoment => k_is); (case kl_InvalidMoment => k_is); (case kt_InvalidMoment => k_is); (case xp_InvalidMoment => k_is); (case xq_InvalidMoment => k_is); (case xr_InvalidMoment => k_is); (case xs_InvalidMoment => k_is); (case xt_InvalidMoment => k_is); (case xu_InvalidMoment => k_is); (case xL_InvalidMoment => k_is); (case rv_InvalidMoment => decide +kernel); (case ic_InvalidMoment => k_is); (case oa_InvalidMoment => k_is); (case oe_InvalidMoment => k_is); (case of_InvalidMoment => k_is); (case il_InvalidMoment => k_is); (case ie_InvalidMoment => k_is); (case ik_InvalidMoment => k_is); (case ac_InvalidText => k_is); (case kc_InvalidText => k_is); (case kl_InvalidText => k_is); (case kt_InvalidText => k_is); (case xp_InvalidText => k_is); (case xq_InvalidText => k_is); (case xr_InvalidText => k_is); (case xs_InvalidText => k_is); (case xt_InvalidText => k_is); (case xu_InvalidText => k_is); (case xL_InvalidText => k_is); (case rv_InvalidText => decide +kernel); (case ic_InvalidText => k_is); (case oa_InvalidText => k_is); (case oe_InvalidText => k_is); (case of_InvalidText => k_is); (case il_InvalidText => k_is); (case ie_InvalidText => k_is); (case ik_InvalidText => k_is); (case ac_InvalidLine => k_is); (case kc_InvalidLine => k_is); (case kl_InvalidLine => k_is); (case kt_InvalidLine => k_is); (case xp_InvalidLine => k_is); (case xq_InvalidLine => k_is); (case xr_InvalidLine => k_is); (case xs_InvalidLine => k_is); (case xt_InvalidLine => k_is); (case xu_InvalidLine => k_is); (case xL_InvalidLine => k_is); (case rv_InvalidLine => decide +kernel); (case ic_InvalidLine => k_is); (case oa_InvalidLine => k_is); (case oe_InvalidLine => k_is); (case of_InvalidLine => k_is); (case il_InvalidLine => k_is); (case ie_InvalidLine => k_is); (case ik_InvalidLine => k_is); (case ac_Exhausted => k_is); (case kc_Exhausted => k_is); (case kl_Exhausted => k_is); (case kt_Exhausted => k_is); (case xp_Exhausted => k_is); (case xq_Exhausted => k_is); (case xr_Exhausted => k_is); (case xs_Exhausted => k_is); (case xt_Exhausted => k_is); (case xu_Exhausted => k_is); (case xi_Exhausted => first | k_exc | k_is); (case ac_NothingToUndo => k_is); (case kc_NothingToUndo => k_is); (case kl_NothingToUndo => k_is); (case kt_NothingToUndo => k_is); (case xp_NothingToUndo => k_is); (case xq_NothingToUndo => k_is); (case xr_NothingToUndo => k_is); (case xs_NothingToUndo => k_is); (case xt_NothingToUndo => k_is); (case xu_NothingToUndo => k_is); (case xi_NothingToUndo => first | k_exc | k_is); (case gsp => k_is); (case gta => k_is); (case kits => decide +kernel); (case kitn => decide +kernel)
  case KS => exact fun p => by first | rfl | decide +kernel | k_is
