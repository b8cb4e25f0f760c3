import PyProof.Rows.All
import Wide.All
import OpenK.AllK
import Wide.FinOn
import HandS.ForMost
import HandS.IsInst
import HandS.Wide
import HandS.TupAny
import HandS.TupMul
import HandS.Rev
import HandS.Style
import HandS.Strs
import HandS.Walk
import KE.GoesEnum
import HandS.Conv
import KE.DatumOrd
import HandS.RevRange
import HandS.Zip
import PySem.Challenge.RW_mergebudget_k39_optimum_known_by_hand
set_option Elab.async false
set_option linter.all false
set_option maxRecDepth 100000
namespace MB
inductive T where
  | nil
  | node (l r : T)
  deriving DecidableEq

namespace T
def size : T → Nat
  | nil => 0
  | node l r => l.size + 1 + r.size
def runs : T → Nat
  | nil => 0
  | node _ r => 1 + r.runs
def sch : T → List Nat
  | nil => []
  | node l r => l.sch ++ l.runs :: r.sch
def rc : T → List Nat
  | nil => []
  | node l r => l.rc ++ 1 :: r.rc.map (· + 1)
def wr : T → List Nat
  | nil => []
  | node l r => l.wr.map (· + 1) ++ 1 :: r.wr
/-- parents: off, the number of the first node; p, the parent of the root -/
def par (off p : Int) : T → List Int
  | nil => []
  | node l r => par off (off + l.size) l ++ p :: par (off + l.size + 1) (off + l.size) r
def mir : T → T
  | nil => nil
  | node l r => node r.mir l.mir
def push (t : T) (m : Nat) : T :=
  if m = t.runs then node t nil else match t with
    | nil => nil
    | node l r => node l (push r m)
/-- the first flush of the run that a flush that merges m writes -/
def start (t : T) (m : Nat) : Nat :=
  if m = t.runs then 0 else match t with
    | nil => 0
    | node l r => l.size + 1 + start r m
/-- the stack: intervals of the right spine -/
def stk (off : Nat) : T → List (Nat × Nat)
  | nil => []
  | node l r => (off, off + l.size + 1) :: stk (off + l.size + 1) r
def graft : T → T → T
  | nil, t => t
  | node l r, t => node l (graft r t)

theorem sch_len : ∀ t : T, t.sch.length = t.size
  | nil => rfl
  | node l r => by simp [sch, size, sch_len l, sch_len r]; omega
theorem rc_len : ∀ t : T, t.rc.length = t.size
  | nil => rfl
  | node l r => by simp [rc, size, rc_len l, rc_len r]; omega
theorem wr_len : ∀ t : T, t.wr.length = t.size
  | nil => rfl
  | node l r => by simp [wr, size, wr_len l, wr_len r]; omega
theorem par_len : ∀ (t : T) (off p : Int), (t.par off p).length = t.size
  | nil, _, _ => rfl
  | node l r, off, p => by simp [par, size, par_len l, par_len r]; omega
theorem runs_le : ∀ t : T, t.runs ≤ t.size
  | nil => Nat.le_refl _
  | node l r => by have := runs_le r; simp [runs, size]; omega
theorem sum_sch : ∀ t : T, t.sch.sum + t.runs = t.size
  | nil => rfl
  | node l r => by
    have h1 := sum_sch l; have h2 := sum_sch r
    simp [sch, runs, size, List.sum_append]; omega
theorem stk_len : ∀ (t : T) (off : Nat), (t.stk off).length = t.runs
  | nil, _ => rfl
  | node l r, off => by simp [stk, runs, stk_len r]; omega

/-! ### push -/
theorem push_eq {t : T} : t.push t.runs = node t nil := by
  unfold push; rw [if_pos rfl]
theorem push_node {l r : T} {m : Nat} (h : m ≤ r.runs) : (node l r).push m = node l (r.push m) := by
  conv => lhs; unfold push
  rw [if_neg (by simp [runs]; omega)]
theorem start_eq {t : T} : t.start t.runs = 0 := by
  unfold start; rw [if_pos rfl]
theorem start_node {l r : T} {m : Nat} (h : m ≤ r.runs) : (node l r).start m = l.size + 1 + r.start m := by
  conv => lhs; unfold start
  rw [if_neg (by simp [runs]; omega)]
/-- the two ways of a push -/
theorem push_ind {C : T → Nat → Prop} (h1 : ∀ t, C t t.runs) (h2 : ∀ l r m, m ≤ r.runs → C r m → C (node l r) m) : ∀ (t : T) (m : Nat), m ≤ t.runs → C t m
  | nil, m, h => by
    have : m = nil.runs := by simp [runs] at h ⊢; omega
    rw [this]; exact h1 nil
  | node l r, m, h => by
    by_cases e : m = (node l r).runs
    · rw [e]; exact h1 _
    · have hm : m ≤ r.runs := by simp [runs] at h e; omega
      exact h2 l r m hm (push_ind h1 h2 r m hm)
theorem push_sch : ∀ (t : T) (m : Nat), m ≤ t.runs → (t.push m).sch = t.sch ++ [m] :=
  push_ind (fun t => by rw [push_eq]; simp [sch]) fun l r m h ih => by rw [push_node h]; simp [sch, ih]
theorem push_size : ∀ (t : T) (m : Nat), m ≤ t.runs → (t.push m).size = t.size + 1 :=
  push_ind (fun t => by rw [push_eq]; simp [size]) fun l r m h ih => by rw [push_node h]; simp [size, ih]; omega
theorem push_runs : ∀ (t : T) (m : Nat), m ≤ t.runs → (t.push m).runs = t.runs - m + 1 :=
  push_ind (fun t => by rw [push_eq]; simp [runs]) fun l r m h ih => by rw [push_node h]; simp [runs, ih]; omega
theorem push_rc : ∀ (t : T) (m : Nat), m ≤ t.runs → (t.push m).rc = t.rc ++ [t.runs - m + 1] :=
  push_ind (fun t => by rw [push_eq]; simp [rc]) fun l r m h ih => by
    rw [push_node h]; simp [rc, ih, runs]; omega
theorem start_le : ∀ (t : T) (m : Nat), m ≤ t.runs → t.start m ≤ t.size :=
  push_ind (fun t => by rw [start_eq]; omega) fun l r m h ih => by rw [start_node h]; simp [size]; omega
theorem push_wr : ∀ (t : T) (m : Nat), m ≤ t.runs → (t.push m).wr = t.wr.take (t.start m) ++ ((t.wr.drop (t.start m)).map (· + 1) ++ [1]) :=
  push_ind (fun t => by rw [push_eq, start_eq]; simp [wr]) fun l r m h ih => by
    rw [push_node h, start_node h]
    have e : (wr (node l r)) = (l.wr.map (· + 1) ++ [1]) ++ r.wr := by simp [wr]
    have el : (l.wr.map (· + 1) ++ [1]).length = l.size + 1 := by simp [wr_len]
    rw [e, List.take_append, List.drop_append, el]
    rw [List.take_of_length_le (by rw [el]; omega), List.drop_eq_nil_of_le (by rw [el]; omega)]
    rw [show l.size + 1 + r.start m - (l.size + 1) = r.start m by omega]
    simp [wr, ih]
theorem stk_push : ∀ (t : T) (m : Nat), m ≤ t.runs → ∀ off, (t.push m).stk off = (t.stk off).take (t.runs - m) ++ [(off + t.start m, off + t.size + 1)] :=
  push_ind (fun t off => by rw [push_eq, start_eq]; simp [stk]) fun l r m h ih off => by
    rw [push_node h, start_node h]
    have hh : (node l r).runs - m = (r.runs - m) + 1 := by simp [runs]; omega
    rw [hh]
    simp [stk, ih, size]
    omega
theorem stk_at : ∀ (t : T) (m : Nat), m ≤ t.runs → ∀ off, 0 < m → ∃ e, (t.stk off)[t.runs - m]? = some (off + t.start m, e) :=
  push_ind (fun t off h => by
      rw [start_eq, Nat.sub_self]
      cases t with
      | nil => simp [runs] at h
      | node l r => exact ⟨_, rfl⟩) fun l r m h ih off h0 => by
    rw [start_node h]
    have hh : (node l r).runs - m = (r.runs - m) + 1 := by simp [runs]; omega
    rw [hh]
    obtain ⟨e, he⟩ := ih (off + l.size + 1) h0
    refine ⟨e, ?_⟩
    simp only [stk, List.getElem?_cons_succ, he]
    congr 2; omega
theorem start_zero : ∀ (t : T) (m : Nat), m ≤ t.runs → m = 0 → t.start m = t.size :=
  push_ind (fun t h => by
      rw [start_eq]
      cases t with
      | nil => rfl
      | node l r => simp [runs] at h) fun l r m h ih h0 => by
    rw [start_node h, ih h0]; simp [size]

/-! ### schedules and trees -/
theorem graft_nil : ∀ t : T, t.graft nil = t
  | nil => rfl
  | node l r => by simp [graft, graft_nil r]
theorem graft_assoc : ∀ a b c : T, (a.graft b).graft c = a.graft (b.graft c)
  | nil, _, _ => rfl
  | node l r, b, c => by simp [graft, graft_assoc r b c]
theorem graft_runs : ∀ a b : T, (a.graft b).runs = a.runs + b.runs
  | nil, b => by simp [graft, runs]
  | node l r, b => by simp [graft, runs, graft_runs r b]; omega
theorem graft_push : ∀ (u l : T), (u.graft l).push l.runs = u.graft (node l nil)
  | nil, l => by simp [graft, push_eq]
  | node a b, l => by
    simp only [graft]
    rw [push_node (by rw [graft_runs]; omega), graft_push b l]
theorem foldl_sch : ∀ (t u : T), t.sch.foldl push u = u.graft t
  | nil, u => by simp [sch, graft_nil]
  | node l r, u => by
    simp only [sch, List.foldl_append, List.foldl_cons]
    rw [foldl_sch l u, graft_push, foldl_sch r, graft_assoc]
    rfl
theorem sch_inj {a b : T} (h : a.sch = b.sch) : a = b := by
  have e1 := foldl_sch a nil
  have e2 := foldl_sch b nil
  rw [h, e2] at e1
  exact e1.symm
end T

/-- a schedule that begins with `runs` runs -/
def Ok : Nat → List Nat → Prop
  | _, [] => True
  | k, m :: r => m ≤ k ∧ Ok (k - m + 1) r
theorem ok_tree : ∀ (p : List Nat) (u : T), Ok u.runs p → ∃ t : T, t.sch = u.sch ++ p ∧ p.foldl T.push u = t
  | [], u, _ => ⟨u, by simp, rfl⟩
  | m :: r, u, h => by
    obtain ⟨h1, h2⟩ := h
    rw [← T.push_runs u m h1] at h2
    obtain ⟨t, e1, e2⟩ := ok_tree r (u.push m) h2
    exact ⟨t, by rw [e1, T.push_sch u m h1]; simp, e2⟩
theorem tree_ex {p : List Nat} (h : Ok 0 p) : ∃ t : T, t.sch = p := by
  obtain ⟨t, e, _⟩ := ok_tree p .nil h
  exact ⟨t, by rw [e]; rfl⟩
theorem ok_app : ∀ (p q : List Nat) (k k' : Nat), Ok k p → k' + p.sum = k + p.length → Ok k' q → Ok k (p ++ q)
  | [], q, k, k', _, e, h => by
    have : k' = k := by simpa using e
    subst this; exact h
  | m :: r, q, k, k', h, e, hq => ⟨h.1, ok_app r q (k - m + 1) k' h.2 (by have := h.1; simp at e; omega) hq⟩
theorem ok_sch_from : ∀ (t : T) (k : Nat), Ok k t.sch
  | .nil, _ => trivial
  | .node l r, k => by
    refine ok_app l.sch _ k (k + l.runs) (ok_sch_from l k) (by have := T.sum_sch l; rw [T.sch_len]; omega) ?_
    exact ⟨by omega, ok_sch_from r _⟩
theorem ok_take : ∀ (p : List Nat) (k i : Nat), Ok k p → Ok k (p.take i)
  | [], _, i, _ => by cases i <;> trivial
  | m :: r, k, 0, _ => trivial
  | m :: r, k, i + 1, h => ⟨h.1, ok_take r _ i h.2⟩
/-- the tree of the first i flushes -/
def pre (t : T) (i : Nat) : T := (t.sch.take i).foldl T.push .nil
theorem pre_sch (t : T) (i : Nat) : (pre t i).sch = t.sch.take i := by
  obtain ⟨u, e1, e2⟩ := ok_tree (t.sch.take i) .nil (ok_take _ _ i (ok_sch_from t _))
  unfold pre; rw [e2, e1]; rfl
theorem pre_size {t : T} {i : Nat} (h : i ≤ t.size) : (pre t i).size = i := by
  rw [← T.sch_len, pre_sch, List.length_take, T.sch_len]; omega
theorem pre_zero (t : T) : pre t 0 = .nil := rfl
theorem pre_all (t : T) : pre t t.size = t := T.sch_inj (by rw [pre_sch, List.take_of_length_le (by rw [T.sch_len]; exact Nat.le_refl _)])
theorem ok_last : ∀ (p : List Nat) (k m : Nat) (q : List Nat), Ok k (p ++ m :: q) → m + p.sum ≤ k + p.length
  | [], k, m, q, h => by simpa using h.1
  | a :: r, k, m, q, h => by
    have := ok_last r (k - a + 1) m q h.2
    have h1 := h.1
    simp; omega
theorem pre_succ {t : T} {i : Nat} {m : Nat} (h : t.sch[i]? = some m) : pre t (i + 1) = (pre t i).push m ∧ m ≤ (pre t i).runs := by
  have hi : i < t.sch.length := (List.getElem?_eq_some_iff.mp h).1
  constructor
  · unfold pre
    rw [List.take_add_one, h]
    simp
  · have e : t.sch = t.sch.take i ++ m :: t.sch.drop (i + 1) := by
      have h2 := List.getElem?_eq_some_iff.mp h
      obtain ⟨h3, h4⟩ := h2
      rw [← h4]
      simp
    have h1 := ok_sch_from t 0
    rw [e] at h1
    have h2 := ok_last _ _ _ _ h1
    have h3 := T.sum_sch (pre t i)
    rw [pre_sch] at h3
    have h4 : (pre t i).size = (t.sch.take i).length := by rw [← T.sch_len, pre_sch]
    omega
theorem rc_take : ∀ (t : T) (i : Nat), (pre t i).rc = t.rc.take i := by
  intro t i
  by_cases hi : i ≤ t.size
  · suffices h : ∀ k, i + k = t.size → (pre t i).rc = t.rc.take i from h (t.size - i) (by omega)
    intro k
    induction k generalizing i with
    | zero =>
      intro e
      rw [show i = t.size by omega, pre_all, List.take_of_length_le (by rw [T.rc_len]; omega)]
    | succ k ih =>
      intro e
      have hl : i < t.sch.length := by rw [T.sch_len]; omega
      obtain ⟨e1, h1⟩ := pre_succ (List.getElem?_eq_getElem hl)
      have h2 := ih (i + 1) (by omega) (by omega)
      rw [e1, T.push_rc _ _ h1] at h2
      have h3 := congrArg (List.take i) h2
      rw [List.take_append_of_le_length (by rw [T.rc_len, pre_size (by omega)]; omega), List.take_take, List.take_of_length_le (by rw [T.rc_len, pre_size (by omega)]; omega)] at h3
      rw [h3]; congr 1; omega
  · have e : t.sch.take i = t.sch := List.take_of_length_le (by rw [T.sch_len]; omega)
    have : pre t i = t := T.sch_inj (by rw [pre_sch, e])
    rw [this, List.take_of_length_le (by rw [T.rc_len]; omega)]
theorem rc_at {t : T} {i m : Nat} (h : t.sch[i]? = some m) : t.rc[i]? = some ((pre t i).runs - m + 1) := by
  obtain ⟨e1, h1⟩ := pre_succ h
  have hi : i < t.size := by rw [← T.sch_len]; exact (List.getElem?_eq_some_iff.mp h).1
  have h2 := rc_take t (i + 1)
  rw [e1, T.push_rc _ _ h1] at h2
  have h3 := congrArg (fun l : List Nat => l[i]?) h2
  simp only [List.getElem?_take] at h3
  rw [List.getElem?_append_right (by rw [T.rc_len, pre_size (by omega)]; omega), T.rc_len, pre_size (by omega)] at h3
  simp at h3
  exact h3.symm
theorem pre_runs {t : T} {i : Nat} (h : i < t.size) : t.rc[i]? = some (pre t (i + 1)).runs := by
  have hl : i < t.sch.length := by rw [T.sch_len]; exact h
  obtain ⟨e1, h1⟩ := pre_succ (List.getElem?_eq_getElem hl)
  rw [rc_at (List.getElem?_eq_getElem hl), e1, T.push_runs _ _ h1]
/-! ### write counts by place -/
theorem wr_step {t : T} {m : Nat} (h : m ≤ t.runs) (k : Nat) : ((t.push m).wr.getD k 0) = if t.start m ≤ k ∧ k < t.size + 1 then t.wr.getD k 0 + 1 else t.wr.getD k 0 := by
  have hs := T.start_le t m h
  have hl := T.wr_len t
  rw [T.push_wr t m h]
  simp only [List.getD_eq_getElem?_getD]
  by_cases h1 : k < t.start m
  · rw [List.getElem?_append_left (by rw [List.length_take]; omega), List.getElem?_take, if_pos h1, if_neg (by omega)]
  · have e : (t.wr.take (t.start m)).length = t.start m := by rw [List.length_take]; omega
    rw [List.getElem?_append_right (by omega), e]
    by_cases h2 : k < t.size
    · rw [List.getElem?_append_left (by rw [List.length_map, List.length_drop]; omega), List.getElem?_map, List.getElem?_drop, if_pos (by omega), show t.start m + (k - t.start m) = k by omega]
      rw [List.getElem?_eq_getElem (by omega)]
      rfl
    · by_cases h3 : k = t.size
      · have e2 : ((t.wr.drop (t.start m)).map (· + 1)).length = k - t.start m := by rw [List.length_map, List.length_drop]; omega
        rw [List.getElem?_append_right (by omega), e2, Nat.sub_self, if_pos (by omega), List.getElem?_eq_none (by omega : t.wr.length ≤ k)]
        rfl
      · rw [List.getElem?_eq_none (by simp; omega), if_neg (by omega), List.getElem?_eq_none (by omega : t.wr.length ≤ k)]
theorem list_by {c d : List Nat} (hl : c.length = d.length) (h : ∀ k, k < c.length → c[k]? = some (d.getD k 0)) : c = d := by
  refine List.ext_getElem? fun k => ?_
  by_cases hk : k < c.length
  · rw [h k hk, List.getD_eq_getElem?_getD, List.getElem?_eq_getElem (by omega)]
    rfl
  · rw [List.getElem?_eq_none (by omega), List.getElem?_eq_none (by omega)]
theorem stk_last {t : T} {i m : Nat} (h : t.sch[i]? = some m) : (pre t (i + 1)).stk 0 = ((pre t i).stk 0).take ((pre t i).runs - m) ++ [((pre t i).start m, i + 1)] := by
  obtain ⟨e, h1⟩ := pre_succ h
  have hi : i < t.size := by rw [← T.sch_len]; exact (List.getElem?_eq_some_iff.mp h).1
  rw [e, T.stk_push _ _ h1, Nat.zero_add, Nat.zero_add, pre_size (by omega)]

/-! ### subtrees -/
inductive Sub (t : T) : Nat → T → Nat → Int → Prop
  | root : Sub t 0 t 1 (-1)
  | left {off k : Nat} {p : Int} {l r : T} : Sub t off (.node l r) k p → Sub t off l k ((off + l.size : Nat) : Int)
  | right {off k : Nat} {p : Int} {l r : T} : Sub t off (.node l r) k p → Sub t (off + l.size + 1) r (k + 1) ((off + l.size : Nat) : Int)
def T.parOf (t : T) : List Int := t.par 0 (-1)
theorem slice_left {α : Type} {L a b : List α} {x : α} {off : Nat} (h : (L.drop off).take (a.length + 1 + b.length) = a ++ x :: b) : (L.drop off).take a.length = a := by
  have := congrArg (List.take a.length) h
  rw [List.take_take, List.take_left' rfl, show min a.length (a.length + 1 + b.length) = a.length by omega] at this
  exact this
theorem slice_mid {α : Type} {L a b : List α} {x : α} {off : Nat} (h : (L.drop off).take (a.length + 1 + b.length) = a ++ x :: b) : L[off + a.length]? = some x := by
  have := congrArg (fun l : List α => l[a.length]?) h
  simp only [List.getElem?_take, List.getElem?_drop] at this
  rw [if_pos (by omega), List.getElem?_append_right (Nat.le_refl _), Nat.sub_self] at this
  simpa using this
theorem slice_right {α : Type} {L a b : List α} {x : α} {off : Nat} (h : (L.drop off).take (a.length + 1 + b.length) = a ++ x :: b) : (L.drop (off + a.length + 1)).take b.length = b := by
  have := congrArg (List.drop (a.length + 1)) h
  rw [List.drop_take, List.drop_drop] at this
  have e2 : List.drop (a.length + 1) (a ++ x :: b) = b := by
    rw [List.drop_append]; simp
  rw [e2] at this
  have h2 := congrArg (List.take b.length) this
  rw [List.take_take, List.take_length] at h2
  rw [← Nat.add_assoc] at h2
  rw [show b.length = min b.length (a.length + 1 + b.length - (a.length + 1)) by omega]
  exact h2
theorem sub_le {t : T} {off k : Nat} {s : T} {p : Int} (h : Sub t off s k p) : off + s.size ≤ t.size ∧ 1 ≤ k ∧ k ≤ off + 1 := by
  induction h with
  | root => exact ⟨by omega, by omega, by omega⟩
  | left _ ih => simp only [T.size] at ih; omega
  | right _ ih => simp only [T.size] at ih; omega
theorem sub_out {t : T} {off k : Nat} {s : T} {p : Int} (h : Sub t off s k p) : (p = -1 ∨ ((0 ≤ p ∧ p < t.size) ∧ (p + 1 = off ∨ p = ((off + s.size : Nat) : Int)))) := by
  cases h with
  | root => exact .inl rfl
  | left h => have := sub_le h; simp only [T.size] at this; exact .inr ⟨by omega, .inr rfl⟩
  | right h => have := sub_le h; simp only [T.size] at this; exact .inr ⟨by omega, .inl (by omega)⟩
theorem sub_rc {t : T} {off k : Nat} {s : T} {p : Int} (h : Sub t off s k p) : (t.rc.drop off).take s.size = s.rc.map (· + (k - 1)) := by
  induction h with
  | root => simp [← T.rc_len]
  | @left off k p l r h ih =>
    have e : (T.node l r).rc.map (· + (k - 1)) = l.rc.map (· + (k - 1)) ++ (1 + (k - 1)) :: (r.rc.map (· + 1)).map (· + (k - 1)) := by simp [T.rc]
    rw [e] at ih
    have hl : (l.rc.map (· + (k - 1))).length = l.size := by rw [List.length_map, T.rc_len]
    have hr : ((r.rc.map (· + 1)).map (· + (k - 1))).length = r.size := by rw [List.length_map, List.length_map, T.rc_len]
    have := slice_left (a := l.rc.map (· + (k - 1))) (b := (r.rc.map (· + 1)).map (· + (k - 1))) (L := t.rc) (off := off) (x := 1 + (k - 1)) (by rw [hl, hr]; exact ih)
    rw [hl] at this
    exact this
  | @right off k p l r h ih =>
    have e : (T.node l r).rc.map (· + (k - 1)) = l.rc.map (· + (k - 1)) ++ (1 + (k - 1)) :: (r.rc.map (· + 1)).map (· + (k - 1)) := by simp [T.rc]
    rw [e] at ih
    have hl : (l.rc.map (· + (k - 1))).length = l.size := by rw [List.length_map, T.rc_len]
    have hr : ((r.rc.map (· + 1)).map (· + (k - 1))).length = r.size := by rw [List.length_map, List.length_map, T.rc_len]
    have := slice_right (a := l.rc.map (· + (k - 1))) (b := (r.rc.map (· + 1)).map (· + (k - 1))) (L := t.rc) (off := off) (x := 1 + (k - 1)) (by rw [hl, hr]; exact ih)
    rw [hl, hr] at this
    rw [this, List.map_map]
    refine List.map_congr_left fun a _ => ?_
    have := (sub_le h).2.1
    simp only [Function.comp]
    omega
theorem sub_par {t : T} {off k : Nat} {s : T} {p : Int} (h : Sub t off s k p) : (t.parOf.drop off).take s.size = s.par (off : Int) p := by
  induction h with
  | root => simp only [T.parOf]; rw [List.drop_zero, List.take_of_length_le (by rw [T.par_len]; omega)]; rfl
  | @left off k p l r h ih =>
    simp only [T.par] at ih
    have hl := T.par_len l (off : Int) ((off : Int) + l.size)
    have hr := T.par_len r ((off : Int) + l.size + 1) ((off : Int) + l.size)
    have := slice_left (a := l.par (off : Int) ((off : Int) + l.size)) (b := r.par ((off : Int) + l.size + 1) ((off : Int) + l.size)) (L := t.parOf) (off := off) (x := p) (by rw [hl, hr]; exact ih)
    rw [hl] at this
    rw [this, Int.natCast_add]
  | @right off k p l r h ih =>
    simp only [T.par] at ih
    have hl := T.par_len l (off : Int) ((off : Int) + l.size)
    have hr := T.par_len r ((off : Int) + l.size + 1) ((off : Int) + l.size)
    have := slice_right (a := l.par (off : Int) ((off : Int) + l.size)) (b := r.par ((off : Int) + l.size + 1) ((off : Int) + l.size)) (L := t.parOf) (off := off) (x := p) (by rw [hl, hr]; exact ih)
    rw [hl, hr] at this
    rw [this]
    simp only [Int.natCast_add]
    rfl
theorem sub_root {t : T} {off k : Nat} {l r : T} {p : Int} (h : Sub t off (.node l r) k p) : t.parOf[off + l.size]? = some p := by
  have ih := sub_par h
  simp only [T.par] at ih
  have hl := T.par_len l (off : Int) ((off : Int) + l.size)
  have hr := T.par_len r ((off : Int) + l.size + 1) ((off : Int) + l.size)
  have := slice_mid (a := l.par (off : Int) ((off : Int) + l.size)) (b := r.par ((off : Int) + l.size + 1) ((off : Int) + l.size)) (L := t.parOf) (off := off) (x := p) (by rw [hl, hr]; exact ih)
  rw [hl] at this
  exact this
/-- the parents of a subtree: the root's alone lies outside -/
theorem par_in : ∀ (s : T) (off p : Int) (i : Nat) (q : Int), (s.par off p)[i]? = some q → (∃ l r, s = .node l r ∧ i = l.size ∧ q = p) ∨ (off ≤ q ∧ q < off + s.size ∧ ∀ l r, s = .node l r → i ≠ l.size)
  | .nil, _, _, _, _, h => by simp [T.par] at h
  | .node l r, off, p, i, q, h => by
    simp only [T.par] at h
    have hl := T.par_len l off (off + l.size)
    by_cases h1 : i < l.size
    · rw [List.getElem?_append_left (by omega)] at h
      refine .inr ?_
      rcases par_in l off (off + l.size) i q h with ⟨a, b, e, e2, e3⟩ | ⟨h2, h3, _⟩
      · refine ⟨by omega, by simp only [T.size]; omega, fun l' r' e' => by cases e'; omega⟩
      · refine ⟨by omega, by simp only [T.size]; omega, fun l' r' e' => by cases e'; omega⟩
    · rw [List.getElem?_append_right (by omega), hl] at h
      by_cases h2 : i = l.size
      · subst h2
        rw [Nat.sub_self] at h
        have : p = q := by simpa using h
        exact .inl ⟨l, r, rfl, rfl, this.symm⟩
      · obtain ⟨j, e⟩ : ∃ j, i - l.size = j + 1 := ⟨i - l.size - 1, by omega⟩
        rw [e, List.getElem?_cons_succ] at h
        refine .inr ?_
        rcases par_in r (off + l.size + 1) (off + l.size) j q h with ⟨a, b, e4, e2, e3⟩ | ⟨h4, h3, _⟩
        · refine ⟨by omega, by simp only [T.size]; omega, fun l' r' e' => by cases e'; omega⟩
        · refine ⟨by omega, by simp only [T.size]; omega, fun l' r' e' => by cases e'; omega⟩
theorem rc_pos : ∀ (s : T) (i v : Nat), s.rc[i]? = some v → 1 ≤ v
  | .nil, _, _, h => by simp [T.rc] at h
  | .node l r, i, v, h => by
    simp only [T.rc] at h
    by_cases h1 : i < l.size
    · rw [List.getElem?_append_left (by rw [T.rc_len]; exact h1)] at h
      exact rc_pos l i v h
    · rw [List.getElem?_append_right (by rw [T.rc_len]; omega), T.rc_len] at h
      rcases Nat.eq_zero_or_pos (i - l.size) with e | e
      · rw [e] at h; simp at h; omega
      · obtain ⟨j, e⟩ : ∃ j, i - l.size = j + 1 := ⟨i - l.size - 1, by omega⟩
        rw [e, List.getElem?_cons_succ, List.getElem?_map] at h
        cases h2 : r.rc[j]? with
        | none => rw [h2] at h; cases h
        | some u => rw [h2] at h; simp at h; omega
theorem rc_one {l r : T} {i : Nat} (h : (T.node l r).rc[i]? = some 1) : i ≤ l.size := by
  simp only [T.rc] at h
  by_cases h1 : i ≤ l.size
  · exact h1
  · rw [List.getElem?_append_right (by rw [T.rc_len]; omega), T.rc_len] at h
    obtain ⟨j, e⟩ : ∃ j, i - l.size = j + 1 := ⟨i - l.size - 1, by omega⟩
    rw [e, List.getElem?_cons_succ, List.getElem?_map] at h
    cases h2 : r.rc[j]? with
    | none => rw [h2] at h; cases h
    | some u =>
      have := rc_pos r j u h2
      rw [h2] at h; simp at h; omega
theorem rc_root (l r : T) : (T.node l r).rc[l.size]? = some 1 := by
  simp only [T.rc]
  rw [List.getElem?_append_right (by rw [T.rc_len]; exact Nat.le_refl _), T.rc_len, Nat.sub_self]; rfl
theorem sub_rc_at {t : T} {off k : Nat} {s : T} {p : Int} (h : Sub t off s k p) {i : Nat} (hi : i < s.size) : ∃ v, s.rc[i]? = some v ∧ t.rc[off + i]? = some (v + (k - 1)) := by
  have e := congrArg (fun l : List Nat => l[i]?) (sub_rc h)
  simp only [List.getElem?_take, List.getElem?_drop, List.getElem?_map] at e
  rw [if_pos hi] at e
  have hv := List.getElem?_eq_getElem (show i < s.rc.length by rw [T.rc_len]; exact hi)
  rw [hv] at e
  exact ⟨_, hv, e⟩
theorem sub_par_at {t : T} {off k : Nat} {s : T} {p : Int} (h : Sub t off s k p) {i : Nat} (hi : i < s.size) : ∃ q, (s.par (off : Int) p)[i]? = some q ∧ t.parOf[off + i]? = some q := by
  have e := congrArg (fun l : List Int => l[i]?) (sub_par h)
  simp only [List.getElem?_take, List.getElem?_drop] at e
  rw [if_pos hi] at e
  have hv := List.getElem?_eq_getElem (show i < (s.par (off : Int) p).length by rw [T.par_len]; exact hi)
  rw [hv] at e
  exact ⟨_, hv, e⟩
theorem filter_one {f : Nat → Bool} {n c : Nat} (hc : c < n) (h1 : f c = true) (h2 : ∀ i, i < n → f i = true → i = c) : (List.range n).filter f = [c] := by
  induction n with
  | zero => omega
  | succ n ih =>
    rw [List.range_succ, List.filter_append]
    by_cases e : c = n
    · subst e
      have e0 : (List.range c).filter f = [] := List.filter_eq_nil_iff.mpr fun i hi hf => by
        have := List.mem_range.mp hi
        have := h2 i (by omega) hf
        omega
      rw [e0]; simp [h1]
    · rw [ih (by omega) fun i hi hf => h2 i (by omega) hf]
      have : f n = false := by
        cases hf : f n with
        | false => rfl
        | true => exact absurd (h2 n (by omega) hf) (by omega)
      simp [this]
/-- the work of a list of subtrees -/
def todo : List (Nat × T × Nat × Int) → Nat
  | [] => 0
  | x :: r => 2 * x.2.1.size + 1 + todo r
theorem todo_app : ∀ a b, todo (a ++ b) = todo a + todo b
  | [], b => by simp [todo]
  | x :: r, b => by simp [todo, todo_app r b]; omega
theorem len_todo : ∀ L, L.length ≤ todo L
  | [] => Nat.le_refl _
  | x :: r => by have := len_todo r; simp [todo]; omega

/-! ### one step up -/
theorem getD_app_l {a b : List Nat} {i : Nat} (h : i < a.length) : (a ++ b).getD i 0 = a.getD i 0 := by
  simp only [List.getD_eq_getElem?_getD, List.getElem?_append_left h]
theorem getD_app_r {a b : List Nat} {i : Nat} (h : a.length ≤ i) : (a ++ b).getD i 0 = b.getD (i - a.length) 0 := by
  simp only [List.getD_eq_getElem?_getD, List.getElem?_append_right h]
theorem getD_map1 {a : List Nat} {i : Nat} (h : i < a.length) : (a.map (· + 1)).getD i 0 = a.getD i 0 + 1 := by
  simp only [List.getD_eq_getElem?_getD, List.getElem?_map, List.getElem?_eq_getElem h]; rfl
theorem wr_l {l r : T} {i : Nat} (h : i < l.size) : (T.node l r).wr.getD i 0 = l.wr.getD i 0 + 1 := by
  simp only [T.wr]
  rw [getD_app_l (by rw [List.length_map, T.wr_len]; exact h), getD_map1 (by rw [T.wr_len]; exact h)]
theorem wr_m {l r : T} : (T.node l r).wr.getD l.size 0 = 1 := by
  simp only [T.wr]
  rw [getD_app_r (by rw [List.length_map, T.wr_len]; exact Nat.le_refl _), List.length_map, T.wr_len, Nat.sub_self]; rfl
theorem wr_r {l r : T} {j : Nat} : (T.node l r).wr.getD (l.size + 1 + j) 0 = r.wr.getD j 0 := by
  simp only [T.wr]
  rw [getD_app_r (by rw [List.length_map, T.wr_len]; omega), List.length_map, T.wr_len, show l.size + 1 + j - l.size = j + 1 by omega, List.getD_cons_succ]
theorem rc_l {l r : T} {i : Nat} (h : i < l.size) : (T.node l r).rc.getD i 0 = l.rc.getD i 0 := by
  simp only [T.rc]
  rw [getD_app_l (by rw [T.rc_len]; exact h)]
theorem rc_m {l r : T} : (T.node l r).rc.getD l.size 0 = 1 := by
  simp only [T.rc]
  rw [getD_app_r (by rw [T.rc_len]; exact Nat.le_refl _), T.rc_len, Nat.sub_self]; rfl
theorem rc_r {l r : T} {j : Nat} (h : j < r.size) : (T.node l r).rc.getD (l.size + 1 + j) 0 = r.rc.getD j 0 + 1 := by
  simp only [T.rc]
  rw [getD_app_r (by rw [T.rc_len]; omega), T.rc_len, show l.size + 1 + j - l.size = j + 1 by omega, List.getD_cons_succ, getD_map1 (by rw [T.rc_len]; exact h)]
theorem up : ∀ (s : T) (off p : Int) (i : Nat) (q : Int), (s.par off p)[i]? = some q →
    (q = p ∧ s.wr.getD i 0 = 1 ∧ s.rc.getD i 0 = 1) ∨
    ∃ j : Nat, q = off + j ∧ j < s.size ∧ j ≠ i ∧ (i < j → s.wr.getD i 0 = s.wr.getD j 0 + 1 ∧ s.rc.getD i 0 = s.rc.getD j 0) ∧ (j < i → s.wr.getD i 0 = s.wr.getD j 0 ∧ s.rc.getD i 0 = s.rc.getD j 0 + 1)
  | .nil, _, _, _, _, h => by simp [T.par] at h
  | .node l r, off, p, i, q, h => by
    simp only [T.par] at h
    have hl := T.par_len l off (off + l.size)
    by_cases h1 : i < l.size
    · rw [List.getElem?_append_left (by omega)] at h
      refine .inr ?_
      rcases up l off (off + l.size) i q h with ⟨e, e1, e2⟩ | ⟨j, e, hj, hne, c1, c2⟩
      · exact ⟨l.size, e, by simp only [T.size]; omega, by omega, fun _ => ⟨by rw [wr_l h1, wr_m, e1], by rw [rc_l h1, rc_m, e2]⟩, fun z => by omega⟩
      · exact ⟨j, e, by simp only [T.size]; omega, hne, fun z => ⟨by rw [wr_l h1, wr_l hj, (c1 z).1], by rw [rc_l h1, rc_l hj, (c1 z).2]⟩, fun z => ⟨by rw [wr_l h1, wr_l hj, (c2 z).1], by rw [rc_l h1, rc_l hj, (c2 z).2]⟩⟩
    · rw [List.getElem?_append_right (by omega), hl] at h
      by_cases h2 : i = l.size
      · subst h2
        rw [Nat.sub_self] at h
        have : p = q := by simpa using h
        exact .inl ⟨this.symm, wr_m, rc_m⟩
      · obtain ⟨k, e⟩ : ∃ k, i = l.size + 1 + k := ⟨i - l.size - 1, by omega⟩
        subst e
        rw [show l.size + 1 + k - l.size = k + 1 by omega, List.getElem?_cons_succ] at h
        have hk : k < r.size := by
          have := (List.getElem?_eq_some_iff.mp h).1
          rw [T.par_len] at this; exact this
        refine .inr ?_
        rcases up r (off + l.size + 1) (off + l.size) k q h with ⟨e, e1, e2⟩ | ⟨j, e, hj, hne, c1, c2⟩
        · exact ⟨l.size, e, by simp only [T.size]; omega, by omega, fun z => by omega, fun _ => ⟨by rw [wr_r, wr_m, e1], by rw [rc_r hk, rc_m, e2]⟩⟩
        · exact ⟨l.size + 1 + j, by rw [e]; omega, by simp only [T.size]; omega, by omega, fun z => ⟨by rw [wr_r, wr_r, (c1 (by omega)).1], by rw [rc_r hk, rc_r hj, (c1 (by omega)).2]⟩, fun z => ⟨by rw [wr_r, wr_r, (c2 (by omega)).1], by rw [rc_r hk, rc_r hj, (c2 (by omega)).2]⟩⟩
theorem wr_pos {t : T} {i : Nat} (h : i < t.size) : 1 ≤ t.wr.getD i 0 := by
  induction t generalizing i with
  | nil => simp [T.size] at h
  | node l r ihl ihr =>
    by_cases h1 : i < l.size
    · rw [wr_l h1]; omega
    · by_cases h2 : i = l.size
      · subst h2; rw [wr_m]; exact Nat.le_refl _
      · obtain ⟨k, e⟩ : ∃ k, i = l.size + 1 + k := ⟨i - l.size - 1, by omega⟩
        subst e
        rw [wr_r]; exact ihr (by simp only [T.size] at h; omega)
theorem rc_posD {t : T} {i : Nat} (h : i < t.size) : 1 ≤ t.rc.getD i 0 := by
  have := List.getElem?_eq_getElem (show i < t.rc.length by rw [T.rc_len]; exact h)
  rw [List.getD_eq_getElem?_getD, this]
  exact rc_pos t i _ this

/-! ### mirrors -/
def mirN (N : Int) (q : Int) : Int := if q = -1 then -1 else N - 1 - q
theorem mir_size : ∀ t : T, t.mir.size = t.size
  | .nil => rfl
  | .node l r => by simp [T.mir, T.size, mir_size l, mir_size r]; omega
theorem mir_par : ∀ (s : T) (N off p : Int), 0 ≤ off → ((s.par off p).reverse).map (mirN N) = s.mir.par (N - off - s.size) (mirN N p)
  | .nil, _, _, _, _ => rfl
  | .node l r, N, off, p, h => by
    simp only [T.par, T.mir, List.reverse_append, List.reverse_cons, List.map_append, List.map_cons, List.map_nil]
    rw [mir_par l N off (off + l.size) h, mir_par r N (off + l.size + 1) (off + l.size) (by omega), mir_size]
    have e1 : mirN N (off + l.size) = N - 1 - (off + l.size) := by unfold mirN; rw [if_neg (by omega)]
    rw [e1]
    have e2 : N - off - ((T.node l r).size : Int) = N - (off + l.size + 1) - r.size := by simp only [T.size]; omega
    rw [e2]
    have e3 : N - (off + ↑l.size + 1) - ↑r.size + ↑r.size = N - 1 - (off + ↑l.size) := by omega
    rw [e3, show N - 1 - (off + (l.size : Int)) + 1 = N - off - l.size by omega]
    simp
theorem mir_parOf (t : T) : t.mir.parOf = (t.parOf.reverse).map (mirN t.size) := by
  unfold T.parOf
  rw [mir_par t t.size 0 (-1) (by omega)]
  rw [show ((t.size : Int) - 0 - t.size) = 0 by omega]
  rfl
theorem mir_wr : ∀ t : T, t.mir.wr = t.rc.reverse
  | .nil => rfl
  | .node l r => by simp [T.mir, T.wr, T.rc, mir_wr l, mir_wr r]
theorem mir_rc : ∀ t : T, t.mir.rc = t.wr.reverse
  | .nil => rfl
  | .node l r => by simp [T.mir, T.wr, T.rc, mir_rc l, mir_rc r]
theorem mir_mir : ∀ t : T, t.mir.mir = t
  | .nil => rfl
  | .node l r => by simp [T.mir, mir_mir l, mir_mir r]

/-! ### parents of a joined tree -/
theorem par_below {N : Int} : ∀ (s : T) (off p : Int), 0 ≤ off → (s.par off p).map (fun q => if q = -1 then N else q) = s.par off (if p = -1 then N else p)
  | .nil, _, _, _ => rfl
  | .node l r, off, p, h => by
    simp only [T.par, List.map_append, List.map_cons]
    rw [par_below l off _ h, par_below r (off + l.size + 1) _ (by omega), if_neg (by omega : ¬ off + (l.size : Int) = -1)]
theorem par_beyond {N : Int} : ∀ (s : T) (off p : Int), 0 ≤ off → (s.par off p).map (fun q => if q = -1 then N else q + N + 1) = s.par (off + N + 1) (if p = -1 then N else p + N + 1)
  | .nil, _, _, _ => rfl
  | .node l r, off, p, h => by
    simp only [T.par, List.map_append, List.map_cons]
    rw [par_beyond l off _ h, par_beyond r (off + l.size + 1) _ (by omega), if_neg (by omega : ¬ off + (l.size : Int) = -1)]
    have e1 : off + (l.size : Int) + N + 1 = off + N + 1 + l.size := by omega
    have e2 : off + (l.size : Int) + 1 + N + 1 = off + N + 1 + l.size + 1 := by omega
    rw [e1, e2]
theorem parOf_node (s u : T) : (T.node s u).parOf = s.parOf.map (fun q => if q = -1 then (s.size : Int) else q) ++ [-1] ++ u.parOf.map (fun q => if q = -1 then (s.size : Int) else q + s.size + 1) := by
  unfold T.parOf
  rw [par_below s 0 (-1) (by omega), par_beyond u 0 (-1) (by omega)]
  simp only [T.par]
  simp
theorem parOf_root (s u : T) : (T.node s u).parOf[s.size]? = some (-1) := by
  have := sub_root (t := T.node s u) .root
  simpa using this
theorem parOf_first {s u : T} {m : Nat} (h : m < s.size) : (T.node s u).parOf[m]? ≠ some (-1) := fun e => by
  rcases par_in _ _ _ _ _ e with ⟨l, r, e1, e2, _⟩ | ⟨h1, _, _⟩
  · cases e1; omega
  · omega

/-! ### runs as lists of flushes -/
theorem stk_pair : ∀ (t : T) (off j : Nat), j + 1 ≤ t.runs → (t.stk off)[t.runs - (j + 1)]? = some (off + t.start (j + 1), off + t.start j)
  | .nil, _, _, h => by simp [T.runs] at h
  | .node l r, off, j, h => by
    by_cases e : j = r.runs
    · subst e
      have e1 : (T.node l r).runs = r.runs + 1 := by simp [T.runs]; omega
      rw [e1, Nat.sub_self, ← e1, T.start_eq, T.start_node (Nat.le_refl _), T.start_eq]
      rfl
    · have h1 : j + 1 ≤ r.runs := by simp [T.runs] at h; omega
      have e1 : (T.node l r).runs - (j + 1) = (r.runs - (j + 1)) + 1 := by simp [T.runs]; omega
      rw [e1, T.start_node h1, T.start_node (by omega)]
      simp only [T.stk, List.getElem?_cons_succ]
      rw [stk_pair r (off + l.size + 1) j h1]
      congr 2 <;> omega
theorem start_anti : ∀ (t : T) (j : Nat), j + 1 ≤ t.runs → t.start (j + 1) < t.start j
  | .nil, _, h => by simp [T.runs] at h
  | .node l r, j, h => by
    by_cases e : j = r.runs
    · subst e
      have e1 : (T.node l r).runs = r.runs + 1 := by simp [T.runs]; omega
      rw [← e1, T.start_eq, T.start_node (Nat.le_refl _), T.start_eq]
      omega
    · have h1 : j + 1 ≤ r.runs := by simp [T.runs] at h; omega
      rw [T.start_node h1, T.start_node (by omega)]
      have := start_anti r j h1
      omega
/-- the flushes of [a, b) -/
def seg (a b : Nat) : List Nat := List.range' a (b - a)
theorem seg_app {a b c : Nat} (h1 : a ≤ b) (h2 : b ≤ c) : seg a b ++ seg b c = seg a c := by
  unfold seg
  have := List.range'_append_1 (s := a) (m := b - a) (n := c - b)
  rw [show a + (b - a) = b by omega, show b - a + (c - b) = c - a by omega] at this
  exact this
theorem seg_one (a : Nat) : seg a (a + 1) = [a] := by
  unfold seg
  rw [show a + 1 - a = 1 by omega]; rfl
theorem seg_nil (a : Nat) : seg a a = [] := by unfold seg; rw [Nat.sub_self]; rfl
theorem seg_len (a b : Nat) : (seg a b).length = b - a := by unfold seg; rw [List.length_range']
theorem seg_at {a b k : Nat} (h : a + k < b) : (seg a b)[k]? = some (a + k) := by
  unfold seg
  rw [List.getElem?_range' (by omega)]
  simp
theorem stk_take_succ {t : T} {j : Nat} (off : Nat) (h : j + 1 ≤ t.runs) : (t.stk off).take (t.runs - j) = (t.stk off).take (t.runs - (j + 1)) ++ [(off + t.start (j + 1), off + t.start j)] := by
  rw [show t.runs - j = (t.runs - (j + 1)) + 1 by omega, List.take_add_one, stk_pair t off j h]; rfl
/-- adjacent, from off on -/
theorem stk_starts : ∀ (t : T) (off : Nat), (t.stk off).map (·.1) = (off :: (t.stk off).map (·.2)).dropLast
  | .nil, _ => rfl
  | .node l r, off => by
    have ih := stk_starts r (off + l.size + 1)
    simp only [T.stk, List.map_cons]
    rw [ih]; rfl
theorem stk_stops : ∀ (t : T) (off : Nat), (off :: (t.stk off).map (·.2)).getLast? = some (off + t.size)
  | .nil, off => by simp [T.stk, T.size]
  | .node l r, off => by
    have ih := stk_stops r (off + l.size + 1)
    simp only [T.stk, List.map_cons, T.size]
    rw [List.getLast?_cons_cons, ih]
    congr 1; omega
theorem stk_lt : ∀ (t : T) (off : Nat) (p : Nat × Nat), p ∈ t.stk off → off ≤ p.1 ∧ p.1 < p.2 ∧ p.2 ≤ off + t.size
  | .nil, _, _, h => by simp [T.stk] at h
  | .node l r, off, p, h => by
    simp only [T.stk] at h
    rcases List.mem_cons.mp h with rfl | h
    · simp only [T.size]; omega
    · have := stk_lt r _ p h
      simp only [T.size]; omega
end MB

set_option maxHeartbeats 4000000
namespace MB
open PySem PySem.Spec PyProof.Rows L2

/-! ### great powers -/
def CPowW (i j : Int) : Prop := 0 ≤ j ∧ (Builtin.Int.intBits i : Int) * j ≤ 2 ^ 27
theorem op_powW {X : Cx} : OpR X (binaryOp .Pow) (rI CPowW fun i j => .int (i ^ j.toNat)) := opI fun _ _ _ _ _ _ _ hc q => pow_int hc.1 hc.2 q

/-! ### xs[i] op= e -/
theorem get_list {X : Cx} : PGet X (rIxL X.K) := by
  intro pins s σ H x y v u Q I rx ry h
  obtain ⟨p, xs, i, z, rfl, rfl, hq, he, q⟩ := h
  cases rx
  obtain ⟨t, rfl⟩ := ry
  obtain ⟨its, r, pl, hz⟩ := I.list hq
  obtain ⟨j, h1, h2, h3, h4, h5⟩ := atI_get he
  obtain ⟨w, ew, rw'⟩ := r.get h2
  have hl := r.length
  have hn := line63
  have fin : EP X pins σ Q w s := ⟨z, H, I, rw', q⟩
  by_cases h0 : 0 ≤ i
  · have hj : i.toNat = j := by
      rw [seqIndex_of h0 h5] at h1
      exact Option.some.inj h1
    exact getItem_listL pl.isList h0 (by omega) (by rw [hj]; exact ew) fin
  · have hj : (i + (its.toArray.size : Int)).toNat = j := by
      rw [seqIndex_neg (by omega) h4] at h1
      rw [List.size_toArray, ← hl]
      exact Option.some.inj h1
    exact wpAny_getItem_list_neg pl.isList (by omega) (by rw [List.size_toArray] <;> omega) (by omega) (by rw [hj]; simpa using ew) fin

/-! ### sum of a tuple of ints -/
theorem ints_at : ∀ {ns : List Int} {its : List Value}, Vals (ns.map V.int) its → ∀ (i : Nat) (v : Value), its[i]? = some v → ∃ t, v = .int (ns.getD i 0) t
  | [], _, .nil, i, v, h => by simp at h
  | n :: ns, u :: us, .cons r rr, 0, v, h => by
    obtain ⟨t, rfl⟩ := r
    simp at h
    exact ⟨t, by simp [h]⟩
  | n :: ns, u :: us, .cons r rr, i + 1, v, h => by
    have := ints_at rr i v (by simpa using h)
    simpa using this
theorem preSum_getD (ns : List Int) : ∀ k, k ≤ ns.length → preSum (fun i => ns.getD i 0) k = (ns.take k).sum
  | 0, _ => by simp [preSum]
  | k + 1, h => by
    have e : ns[k]? = some (ns.getD k 0) := by
      rw [List.getElem?_eq_getElem (by omega), List.getD_eq_getElem?_getD, List.getElem?_eq_getElem (by omega)]
      rfl
    rw [preSum, preSum_getD ns k (by omega), L2.sum_take e]
def rSumT (K : PySem.W.Frag) : List V → Hp → VK → Prop := fun xs H Q => ∃ (a : Addr) (ns : List Int), xs = [V.ref a] ∧ SqT K H a (ns.map V.int) ∧ Q (.int ns.sum) H
theorem cr_sumT {X : Cx} (hc : X.calm = true) : CallR X (.builtin "sum") (rSumT X.K) := by
  intro pins s σ H vs us Q I r h
  obtain ⟨a, ns, rfl, hs, q⟩ := h
  obtain ⟨its, rv, hl, _⟩ := I.tuple hs
  rw [Vals.ref1 r]
  have hT : s.heap.IsTuple a its.toArray := hl
  have hlt : a < s.heap.objs.size := by obtain ⟨_, e, _⟩ := hl; exact Heap.lt_size e
  refine PySem.call_sum_walkG (wpAny_pyIter_tuple hT ?_)
  refine ⟨s.heap.objs.size, [s.heap.objs.size, a], [s.heap.objs.size], its.toArray.size, _, _, fun i => ns.getD i 0, rfl, Walks.tuple (A := X.A.in1) (I.ok.hd hc) _ a (Nat.ne_of_lt hlt) its.toArray, ⟨⟨_, Heap.get?_push_size _ rfl, rfl, rfl⟩, hT.at fun o e => Heap.get?_push_of_some _ e⟩, fun b hb => ?_, fun i v hv => ints_at rv i v (by simpa using hv), fun h' tk t' hk => ?_⟩
  · show b < (s.heap.push _).objs.size
    rw [Heap.size_push]
    have e : b = s.heap.objs.size ∨ b = a := by simpa using hb
    rcases e with e | e
    · rw [e]; exact Nat.lt_succ_self _
    · rw [e]; exact Nat.lt_succ_of_lt hlt
  · have el : its.toArray.size = ns.length := by rw [List.size_toArray, ← rv.length, List.length_map]
    rw [el, preSum_getD ns _ (Nat.le_refl _), List.take_length]
    refine ⟨.int ns.sum, H, I.kept fun b o e => hk b o ?_ (Heap.get?_push_of_some _ e), ⟨_, rfl⟩, q⟩
    have := Heap.lt_size e
    simp only [List.mem_singleton]
    exact Nat.ne_of_lt this

/-! ### enumerate(tuple) -/
set_option maxHeartbeats 4000000 in
theorem meets_enumerate_newT (l : Addr) (items : Array Value) (n : Nat) (dct : Option Addr) (sl : Array (Option Value)) :
    Meets (Builtin.«enumerate.__new__» ⟨[.type "enumerate", .ref l], []⟩) (fun _ R s => s.heap.get? l = some { cls := .type "tuple", dict := dct, data := .seq items n, slots := sl } ∧
      R (.ok (.ret (.ref (s.heap.push { cls := .type "tuple_iterator", data := .fields #[.ref l, .int 0 0] }).objs.size)))
        { s with heap := (s.heap.push { cls := .type "tuple_iterator", data := .fields #[.ref l, .int 0 0] }).push { cls := .type "enumerate", data := .fields #[.none, .bool false, .ref s.heap.objs.size, rawInt 0, .none, .none] } }) :=
  .of_wp fun prog w A R s h => by
    obtain ⟨hp, g, d, tk, os⟩ := s; obtain ⟨hl, h⟩ := h
    have hsub := sub_enumerate
    have hL : Heap.IsTuple (Shared.heap ⟨hp, g, d, tk, os⟩) l items := ⟨_, hl, rfl, n, rfl⟩
    wp_walk using AutoSeq1.wpAny_loadPart' hl
    refine wpAny_stack_any fun st => wpAny_pure ?_
    split
    · rename_i c _ _ _ _ _
      cases (c == Value.type "enumerate")
      · wp_walk using AutoSeq1.wpAny_loadPart' hl, wpAny_pyIter_tuple hL
        exact ⟨_, rfl, h⟩
      · wp_walk using AutoSeq1.wpAny_loadPart' hl, wpAny_pyIter_tuple hL
        exact ⟨_, rfl, h⟩
    · wp_walk using AutoSeq1.wpAny_loadPart' hl, wpAny_pyIter_tuple hL
      exact ⟨_, rfl, h⟩
section
variable {prog : Program} {w : World} {A : Around} {E : Value → Shared → Prop} {s : Shared}
theorem call_enumerate_tuple {l : Addr} {items : Array Value} {Q : Value → Shared → Prop} (hL : s.heap.IsTuple l items)
    (h : ∀ h', IsEnum h' (s.heap.objs.size + 1) s.heap.objs.size 0 .none → h'.IsTupleIter s.heap.objs.size l 0 → h'.objs.size = s.heap.objs.size + 2 →
      (∀ b o, s.heap.get? b = some o → h'.get? b = some o) → Q (.ref (s.heap.objs.size + 1)) { s with heap := h' }) :
    wpAny (model prog w) A (call (.type "enumerate") [.ref l]) Q E s := by
  obtain ⟨⟨c, dct, dt, sl⟩, hl, hc, n, hd⟩ := hL
  replace hc : c = .type "tuple" := hc
  replace hd : dt = .seq items n := hd
  subst hc hd
  refine callType_new F.called_enumerate (by decide) (F.typeCall_enumerate_1 _) (F.newCall_enumerate_1 _) (fun obj => F.args_object_init_2 obj _) F.entry_enumerate_new
    (meets_enumerate_newT l items n dct sl) ⟨hl, ?_⟩
  have hz : (s.heap.push { cls := .type "tuple_iterator", data := .fields #[.ref l, .int 0 0] }).objs.size = s.heap.objs.size + 1 := Heap.size_push ..
  show _ ∧ _
  rw [hz]
  have he : IsEnum ((s.heap.push { cls := .type "tuple_iterator", data := .fields #[.ref l, .int 0 0] }).push
      { cls := .type "enumerate", data := .fields #[.none, .bool false, .ref s.heap.objs.size, rawInt 0, .none, .none] }) (s.heap.objs.size + 1) s.heap.objs.size 0 .none := by
    have := Heap.get?_push_size (s.heap.push { cls := .type "tuple_iterator", data := .fields #[.ref l, .int 0 0] })
      (o := { cls := .type "enumerate", data := .fields #[.none, .bool false, .ref s.heap.objs.size, rawInt 0, .none, .none] }) rfl
    rw [hz] at this; exact this
  refine ⟨⟨_, he, rfl⟩, h _ he ⟨_, Heap.get?_push_of_some _ (Heap.get?_push_size _ rfl), rfl, rfl⟩ (by rw [Heap.size_push, hz]) fun b o x => Heap.get?_push_of_some _ (Heap.get?_push_of_some _ x)⟩
end
def IteT (K : PySem.W.Frag) (a : Addr) : It :=
  ⟨fun i H => ∃ (xs : List V) (x : V), SqT K H a xs ∧ xs[i]? = some x, fun i H v H' => ∃ T x, v = .ref T ∧ H T = none ∧ H' = upd H T (.tup [.int (i : Nat), x]) ∧ ∀ xs, SqT K H a xs → xs[i]? = some x, fun i H => ∃ xs : List V, SqT K H a xs ∧ xs.length = i⟩
theorem tup_ne {h : Heap} {a it : Addr} {items : Array Value} {i : Nat} (h1 : h.IsTuple a items) (h2 : h.IsTupleIter it a i) : a ≠ it := fun e => by
  obtain ⟨o, ho, hc, n, hd⟩ := h1
  obtain ⟨o', ho', hc', hd'⟩ := h2
  rw [e] at ho
  rw [ho] at ho'
  cases ho'
  rw [hd] at hd'
  cases hd'
theorem turn_enumT {P : Program} {w : World} {K : PySem.W.Frag} {elts : List Expr} {kk : Nat} {tpos : Pos} (a e it : Addr) (hae : a ≠ e) :
    Turn P w K (.Tuple elts kk tpos) (IteT K a) [e, it] e (fun i h => (∃ old, IsEnum h e it ((i : Nat) : Int) old) ∧ h.IsTupleIter it a i ∧ e ≠ it) where
  mem := by simp
  obj := fun i h st b hb => by
    obtain ⟨⟨old, he⟩, ⟨o, ho, hc, hd⟩, _⟩ := st
    have e' : b = e ∨ b = it := by simpa using hb
    rcases e' with z | z
    · rw [z]; exact ⟨_, he, fun v q => nomatch q⟩
    · rw [z]; exact ⟨o, ho, fun v q => by rw [hd] at q; cases q⟩
  keep := fun i h h' st k => let ⟨⟨old, he⟩, hi, hne⟩ := st; ⟨⟨old, k e (by simp) _ he⟩, hi.at fun o q => k it (by simp) o q, hne⟩
  item := by
    intro X hP hw hK hc i pins s σ H E I hf st hg
    subst hP hw hK
    obtain ⟨⟨old, he⟩, hit, hne⟩ := st
    obtain ⟨xs, x, hq, hx⟩ := hg
    obtain ⟨its, rv, p, hz⟩ := I.tuple hq
    have p : s.heap.IsTuple a its.toArray := p
    have hat : a ≠ it := tup_ne p hit
    have hel : e < s.heap.objs.size := Heap.lt_size he
    have hil : it < s.heap.objs.size := by obtain ⟨_, q, _⟩ := hit; exact Heap.lt_size q
    have hlen : i < its.toArray.size := by
      rw [List.size_toArray, ← rv.length]; exact (List.getElem?_eq_some_iff.mp hx).1
    refine wpAny_pyNext_enum_itemD (Draws.tuple (prog := X.prog) (w := X.w) (A := X.A.in1) (I.ok.hd hc) it a hat its.toArray) he ⟨hit, p⟩ hlen hne (by simp; exact ⟨hne, fun z => hae z.symm⟩) fun u h' tk hu ho hit' hT hsz hk => ?_
    obtain ⟨u', hu', ru'⟩ := rv.get hx
    have eu : u = u' := by
      have h1 : its[i]? = some u := by simpa using hu
      rw [h1] at hu'; exact Option.some.inj hu'
    subst eu
    refine ⟨_, rfl, wpAny_letOwnedTupleGo_enum (s := { s with heap := h', toks := tk + 1 }) ho fun h'' he' sb => ?_⟩
    have hT2 : h''.get? s.heap.objs.size = some { cls := .type "tuple", data := .seq #[.int i tk, u] } := (sb.2 _ (Nat.ne_of_gt hel)).trans hT
    have new : ObjOk X.prog X.w (upd H s.heap.objs.size (.tup [.int (i : Nat), x])) h'' s.heap.objs.size (.tup [.int (i : Nat), x]) :=
      ⟨by show 2 ≤ sizeLine; decide, [.int i tk, u], .cons ⟨_, rfl⟩ (.cons ru' .nil), ⟨_, hT2, rfl, _, rfl⟩⟩
    have I1 : Inv X pins σ (upd H s.heap.objs.size (.tup [.int (i : Nat), x])) { s with heap := h'', toks := tk + 1 } :=
      I.turnedNew (ch := [e, it]) (fun b ob hb q => (sb.2 b (fun z => hb (by simp [z]))).trans (hk b ob (fun z => hb (by simp [z])) (fun z => hb (by simp [z])) q)) hf (Nat.le_refl _) new
    refine ⟨.ref s.heap.objs.size, _, I1, rfl, ⟨_, x, rfl, I.hok.fresh (Nat.le_refl _), rfl, fun ys hy => by rw [I.tuple_inj hy hq]; exact hx⟩, ⟨⟨u, ?_⟩, hit'.1.at fun o q => (sb.2 it (Ne.symm hne)).trans q, hne⟩, fun b hb => ?_⟩
    · have e1 : ((i + 1 : Nat) : Int) = (i : Int) + 1 := by omega
      rw [e1]; exact he'
    · have hb' : b < s.heap.objs.size := by
        have e' : b = e ∨ b = it := by simpa using hb
        rcases e' with z | z
        · rw [z]; exact hel
        · rw [z]; exact hil
      rw [upd_ne (Nat.ne_of_lt hb')]
      exact (hf b hb).1
  done := by
    intro X hP hw hK hc i pins s σ H E I hf st hg
    subst hP hw hK
    obtain ⟨⟨old, he⟩, hit, hne⟩ := st
    obtain ⟨xs, hq, hx⟩ := hg
    obtain ⟨its, rv, p, hz⟩ := I.tuple hq
    have p : s.heap.IsTuple a its.toArray := p
    have hat : a ≠ it := tup_ne p hit
    obtain ⟨f0, f1, f2, f3, f4, f5⟩ := hf it (by simp)
    have hlen : its.toArray.size = i := by rw [List.size_toArray, ← rv.length, hx]
    refine wpAny_pyNext_enum_endD (Draws.tuple (prog := X.prog) (w := X.w) (A := X.A.in1) (I.ok.hd hc) it a hat its.toArray) he ?_ fun h' eb => ⟨rfl, I.turned (t' := s.toks) (fun b o hb q => eb b o hb q) f0 f1 f3 f4 f5⟩
    rw [hlen]
    exact ⟨hit, p⟩
  self := fun A i s Q E st h => let ⟨⟨_, he⟩, _⟩ := st; wpAny_pyIter_enum he h
def iEnumT (K : PySem.W.Frag) (ta : TA) : TI := fun σ H R => ta σ H fun vs H1 => ∃ a xs, vs = [.ref a] ∧ SqT K H1 a xs ∧ R (IteT K a) H1
theorem pi_enumT {X : Cx} {e : Expr} {ta : TA} {p pos tpos : Pos} {elts : List Expr} {kk : Nat} (hg : Gl X "enumerate") (hm : X.mg "enumerate" = none) (ha : PA X [e] ta) (hs : starEach [e] X.env = [(false, eval e X.env)] := by rfl) :
    PI X (.Tuple elts kk tpos) (.Call (.Name "enumerate" p) [e] [] pos) (iEnumT X.K ta) := by
  refine ⟨fun pins s σ H R I h => ?_⟩
  refine Call_ (ld_blt I hg hm boot_enumerate (PyProof.Rows.callWith_type1 (thn (ha.run pos pins s σ H _ I h) fun us s1 ⟨vs, H1, I1, r1, q1⟩ => ?_) hs rfl))
  obtain ⟨a, xs, ex, hq, q⟩ := q1
  subst ex
  cases r1 with
  | cons r rr =>
    cases rr
    cases r
    obtain ⟨its, rv, p', hz⟩ := I1.tuple hq
    have hlt : a < s1.heap.objs.size := by obtain ⟨_, e, _⟩ := p'; exact Heap.lt_size e
    refine call_enumerate_tuple p' fun h' he hit hsz hk => wpAny_pyIter_enum he ?_
    have I2 : Inv X pins σ H1 { s1 with heap := h' } := I1.kept (t' := s1.toks) hk
    refine ⟨s1.heap.objs.size + 1, [s1.heap.objs.size + 1, s1.heap.objs.size], _, _, H1, rfl, I2, turn_enumT a (s1.heap.objs.size + 1) s1.heap.objs.size (Nat.ne_of_lt (Nat.lt_succ_of_lt hlt)), ⟨⟨.none, he⟩, hit, Nat.succ_ne_self _⟩, fun b hb => ?_, q⟩
    have e' : b = s1.heap.objs.size + 1 ∨ b = s1.heap.objs.size := by simpa using hb
    have hle : s1.heap.objs.size ≤ b := by
      rcases e' with z | z
      · rw [z]; exact Nat.le_add_right _ _
      · rw [z]; exact Nat.le_refl _
    exact I1.fpOk hle (I1.hok.fresh hle)
theorem walk_enumT {K : PySem.W.Frag} {a : Addr} {xs : List V} : Walk (IteT K a) xs.length (fun H => SqT K H a xs) (YPair (fun i => some (.int (i : Nat))) (fun i => xs[i]?)) := by
  refine ⟨fun i H hi hG => ⟨xs, xs[i], hG, List.getElem?_eq_getElem hi⟩, fun H hG => ⟨xs, hG, rfl⟩, fun i H x H' hi hG y => ?_⟩
  obtain ⟨T, x, e1, e2, e3, e4⟩ := y
  exact ⟨T, _, x, e1, e2, e3, rfl, e4 xs hG⟩

/-! ### tuple.index of an int -/
theorem flat_ints (ns : List Int) : (ns.map V.int).all flatV = true := by
  rw [List.all_map]
  exact List.all_eq_true.mpr fun _ _ => rfl
theorem mt_tindex {X : Cx} : MtR X "tuple.index" (fun x xs H Q => ∃ p, ∃ ys : List Int, ∃ z j, x = .ref p ∧ xs = [.int z] ∧ SqT X.K H p (ys.map V.int) ∧ ys[j]? = some z ∧ (∀ m, m < j → ys[m]? ≠ some z) ∧ Q (.int (j : Nat)) H) := by
  intro pins s σ H x xs v us Q I rx rs h
  obtain ⟨p, ys, z, j, rfl, rfl, hq, hy, hno, q⟩ := h
  cases rx
  obtain ⟨u, rfl, t, rfl⟩ := vals1 rs
  obtain ⟨its, r, pl, hz⟩ := I.tuple hq
  obtain ⟨⟨cls, dd, dt, sl⟩, ho, hc, n, hd⟩ := pl
  simp only at hc hd
  subst hc
  subst hd
  have hl : its.toArray.size = ys.length := by rw [List.size_toArray, ← r.length, List.length_map]
  have hj : j < its.toArray.size := by rw [hl]; exact (List.getElem?_eq_some_iff.mp hy).1
  have at' : ∀ (m : Nat) (hm : m < its.toArray.size), ∃ y t', ys[m]? = some y ∧ its.toArray[m] = Value.int y t' := fun m hm => by
    have hm' : m < ys.length := by rw [← hl]; exact hm
    obtain ⟨w, hw, t', hw'⟩ := r.get (i := m) (x := .int ys[m]) (by simp [hm'])
    refine ⟨ys[m], t', List.getElem?_eq_getElem hm', ?_⟩
    have e := (List.getElem?_eq_some_iff.mp hw).2
    rw [← hw', ← e]
    simp
  refine call_meets PySem.F.slot_tuple_index ⟨_, ho, rfl⟩ PySem.F.entry_tuple_index (PySem.F.args_tuple_index_2 _ _) (TI.tuple_indexAt p its.toArray n dd sl (.int z t) (eqU (.int z)) j hj ?_ ?_)
    ⟨ho, fun w hw => mem_eqAt (x := .int z) ⟨t, rfl⟩ rfl r (flat_ints ys) w (by simpa using hw), ⟨.int (j : Nat), H, I.tok _, ⟨_, rfl⟩, q⟩⟩
  · obtain ⟨y, t', h1, h2⟩ := at' j hj
    rw [hy] at h1
    cases h1
    rw [h2]
    show (z == z) = true
    exact beq_self_eq_true z
  · intro m hm hmj
    obtain ⟨y, t', h1, h2⟩ := at' m hm
    rw [h2]
    show (y == z) = false
    exact beq_eq_false_iff_ne.mpr fun e => hno m hmj (e ▸ h1)

/-! ### rules by the written part K itself (for a comprehension's block) -/
def rLen (K : PySem.W.Frag) : List V → Hp → VK → Prop := fun xs H Q => ∃ p ys, xs = [.ref p] ∧ (SqL K H p ys ∨ SqT K H p ys) ∧ Q (.int ys.length) H
def rTupOf (K : PySem.W.Frag) : List V → Hp → VK → Prop := fun xs H Q => ∃ p ys, xs = [.ref p] ∧ ((SqL K H p ys ∧ ∀ l, H l = none → Q (.ref l) (upd H l (.tup ys))) ∨ (SqT K H p ys ∧ Q (.ref p) H))
def rListOf (K : PySem.W.Frag) : List V → Hp → VK → Prop := fun xs H Q => ∃ p ys, xs = [.ref p] ∧ (SqL K H p ys ∨ SqT K H p ys) ∧ ∀ l, H l = none → Q (.ref l) (upd H l (.lst ys))
section
variable {X : Cx} {K : PySem.W.Frag}
theorem k_len (hK : X.K = K) : CallR X (.builtin "len") (rLen K) := by subst hK; exact call_len_seq
theorem k_tupOf (hK : X.K = K) : CallR X (.type "tuple") (rTupOf K) := by subst hK; exact call_tuple_of
theorem k_listOf (hK : X.K = K) : CallR X (.type "list") (rListOf K) := by subst hK; exact call_list_of
theorem k_isi (hK : X.K = K) : CallR X (.builtin "isinstance") (rIsi K) := by subst hK; exact call_isi
theorem k_ixT (hK : X.K = K) : IxR X (rIxT K) := by subst hK; exact ix_tup
theorem k_ixL (hK : X.K = K) : IxR X (rIxL K) := by subst hK; exact ix_list
theorem k_slT (hK : X.K = K) : SlR X (rSlA K) := by subst hK; exact sl_tupA
theorem k_catT (hK : X.K = K) : OpR X (binaryOp .Add) (rCatA K) := by subst hK; exact op_catA
theorem k_sumT (hK : X.K = K) (hc : X.calm = true) : CallR X (.builtin "sum") (rSumT K) := by subst hK; exact cr_sumT hc
end

/-! ### a statement, then the rest, with a word between them -/
def tCut (t u : TS) : TS := fun D σ H => ∃ Mid : L2.St → Hp → Prop, t { D with nx := Mid } σ H ∧ ∀ σ' H', Mid σ' H' → u D σ' H'
theorem pss_cut {X : Cx} {st : Stmt} {rest : List Stmt} {t u : TS} (h1 : PS X st t) (h2 : PSs X rest u) : PSs X (st :: rest) (tCut t u) := by
  refine ⟨fun pins s σ H D I h => ?_⟩
  obtain ⟨Mid, hm, hu⟩ := h
  refine wpAny_execs_cons (thn (h1.run pins s σ H { D with nx := Mid } I hm) fun f s1 q => ?_)
  cases f with
  | next =>
    obtain ⟨σ', H', I', q⟩ := q
    exact h2.run pins s1 σ' H' D I' (hu σ' H' q)
  | ret v => exact q
  | brk => exact q
  | cont => exact q

/-! ### a tuple that is known to be plain; its method index -/
def rTupOfZ (K : PySem.W.Frag) : List V → Hp → VK → Prop := fun xs H Q => ∃ p ys, xs = [.ref p] ∧ SqL K H p ys ∧ ∀ l o, H l = none → o.dict = none → Q (.ref l) (upd H l (.frz o (.tup ys)))
theorem k_tupOfZ {X : Cx} {K : PySem.W.Frag} (hK : X.K = K) : CallR X (.type "tuple") (rTupOfZ K) := by
  subst hK
  intro pins s σ H xs us Q I r h
  obtain ⟨p, ys, rfl, hq, q⟩ := h
  obtain ⟨u, rfl, rx⟩ := vals1 r
  cases rx
  obtain ⟨its, r', pl, hz⟩ := I.list hq
  have hlen := r'.length
  refine call_tuple_list pl.isList (fun h' kp => ?_) (by simp only [List.size_toArray] <;> omega)
  have I1 : Inv X pins σ H { s with heap := h' } := I.kept (t' := s.toks) kp
  have I2 : Inv X pins σ (upd H h'.objs.size (.frz { cls := .type "tuple", data := .seq its.toArray } (.tup ys))) { s with heap := h'.push { cls := .type "tuple", data := .seq its.toArray } } :=
    I1.laid (t' := s.toks) (fun b o e => Heap.get?_push_of_some _ e) (Nat.le_refl _) (show ObjOk X.prog X.w _ _ _ (.frz _ (.tup ys)) from ⟨Heap.get?_push_size _ rfl, hz, its, r', IsTup.new _ _⟩)
  exact ⟨.ref h'.objs.size, _, I2, rfl, q _ _ (I1.hok.fresh (Nat.le_refl _)) rfl⟩
def tTM (r : V → List V → Hp → VK → Prop) (to : TE) (t : TA) : TE := fun σ H Q => to σ H fun x H1 => (∃ a ob xs, x = .ref a ∧ H1 a = some (.frz ob (.tup xs)) ∧ ob.dict = none) ∧ t σ H1 fun xs H2 => r x xs H2 Q
theorem pe_tm {X : Cx} {o e : Expr} {es : List Expr} {to : TE} {t : TA} {name : Str} {apos cpos : Pos} {id : String} {r : V → List V → Hp → VK → Prop} (slot : Slot "tuple" name id) (hty : typeOf (.builtin id) = pure (.type "method_descriptor")) (hm : MtR X id r) (ho : PE X o to) (ha : PA X (e :: es) t)
    (hbase : attributeBase o name X.env (eval o X.env) = eval o X.env := by rfl)
    (hfew : ((backTo cpos (starEach (e :: es) X.env)).all (fun x => !x.1) && (backToKw cpos (keywordEach [] X.env)).all (fun x => x.1.isSome)
      && decide ((e :: es).length + ([] : List Keyword).length + (if ([] : List Keyword).isEmpty then 0 else 1) < 30)) = true := by rfl)
    (hline : (apos.endLine == cpos.line) = true := by rfl) (hs : starEach (e :: es) X.env = (false, eval e X.env) :: starEach es X.env := by rfl) (hplain : (backTo cpos (starEach es X.env)).any (·.1) = false := by rfl) :
    PE X (.Call (.Attribute o name apos) (e :: es) [] cpos) (tTM r to t) := by
  refine ⟨fun pins s σ H Q I h => ?_⟩
  refine wpAny_Call_method_late hbase hfew hline rfl (thn (ho.run pins s σ H _ I h) fun v s1 ⟨x, H1, I1, r1, ty, q1⟩ => ?_)
  obtain ⟨a, ob, xs, rfl, hf, hd⟩ := ty
  cases r1
  obtain ⟨hg, hz, its, rv, o', ho', hc, _⟩ := (show ObjOk X.prog X.w H1 s1.heap a (.frz ob (.tup xs)) from I1.hok a _ hf)
  have hc' : ob.cls = .type "tuple" := by rw [hg] at ho'; cases ho'; exact hc
  refine ⟨"tuple", id, PySem.F.plainAttrs_tuple, slot, hty, ⟨ob, hg, hc'⟩, fun b e => by cases e; exact ⟨ob, hg, hd⟩, ?_⟩
  have hA := ha.run cpos pins s1 σ H1 _ I1 q1
  rw [hs] at hA ⊢
  refine Calls.callWith_builtin (by show (false || (backTo cpos (starEach es X.env)).any (·.1)) = false; rw [hplain] <;> rfl) (Calls.evalArgs_plain ?_)
  exact thn hA fun us s2 ⟨vs, H2, I2, r2, q2⟩ => hm pins s2 σ H2 (.ref a) vs (.ref a) us Q I2 rfl r2 q2

/-! ### places in the text -/
def xAsg : Stmt → Expr
  | .Assign _ e _ => e
  | _ => .Constant .none 0 ⟨0, 0, 0, 0⟩
def xArg (i : Nat) : Expr → Expr
  | .Call _ as _ _ => as.getD i (.Constant .none 0 ⟨0, 0, 0, 0⟩)
  | _ => .Constant .none 0 ⟨0, 0, 0, 0⟩
def xLcSc : Expr → Scope
  | .ListComp _ _ sc _ => sc
  | _ => { kind := .function, names := [], isGenerator := false, isCoroutine := false }
/-! ### readings are monotone -/
theorem mono_pair {K : PySem.W.Frag} {n i j : Nat} (x : V) (σ' : L2.St) (H' : Hp) (Q Q' : L2.St → Hp → Prop) (h : ∀ a b, Q a b → Q' a b) (e : gTup K n (gCons (gName i) (gCons (gName j) gNil)) x σ' H' Q) : gTup K n (gCons (gName i) (gCons (gName j) gNil)) x σ' H' Q' := by
  obtain ⟨a, xs, e1, e2, e3, v, r, e4, v', r', e5, e6, q⟩ := e
  exact ⟨a, xs, e1, e2, e3, v, r, e4, v', r', e5, e6, h _ _ q⟩

section
variable {X : Cx} {K : PySem.W.Frag}
theorem k_piL {tg l : Expr} {tl : TE} (hK : X.K = K) (hl : PE X l tl) : PI X tg l (iList K tl) := by subst hK; exact pi_list hl
theorem k_piT {tg l : Expr} {tl : TE} (hK : X.K = K) (hl : PE X l tl) : PI X tg l (iTup K tl) := by subst hK; exact pi_tup hl
theorem k_pgT2 {x y : Str} {px py : Pos} {k : Nat} {pos : Pos} {t1 t2 : TG} (hK : X.K = K) (hc : X.calm = true) (h1 : PG X (.Name x px) t1) (h2 : PG X (.Name y py) t2) : PG X (.Tuple [.Name x px, .Name y py] k pos) (gTup K 2 (gCons t1 (gCons t2 gNil))) := by
  subst hK
  exact pg_tup hc (pgs_cons h1 (pgs_cons h2 pgs_nil))
end
end MB

set_option maxHeartbeats 4000000
namespace MB
open PySem PySem.Spec PyProof.Rows L2

/-! ### heaps -/
theorem same_upd {H : Hp} {p : Addr} {o : HO} (h : H p = none) : Same H (upd H p o) := fun b x e => by
  rw [upd_ne (ne_of_none e h)]
  exact e
/-- an object that was not tracked may change -/
theorem Same.mut {H H' : Hp} {p : Addr} {o : HO} (s : Same H H') (h : H p = none) : Same H (upd H' p o) := fun b x e => by
  rw [upd_ne (ne_of_none e h)]
  exact s _ _ e
theorem Same.tup {K : PySem.W.Frag} {H H' : Hp} {a : Addr} {xs : List V} (e : Same H H') (h : SqT K H a xs) : SqT K H' a xs := by
  rcases h with (h | ⟨o, h⟩) | h
  · exact .inl (.inl (e _ _ h))
  · exact .inl (.inr ⟨o, e _ _ h⟩)
  · exact .inr h
theorem Same.tupF {K : PySem.W.Frag} {H H' : Hp} {a : Addr} {o : Obj} {xs : List V} (e : Same H H') (h : H a = some (.frz o (.tup xs))) : SqT K H' a xs := .inl (.inr ⟨o, e _ _ h⟩)
theorem Dp.same {K : PySem.W.Frag} {H H' : Hp} (e : Same H H') : ∀ {v : V} {d : PyData}, Dp K H v d → Dp K H' v d := by
  intro v d h
  refine Dp.rec (motive_1 := fun v d _ => Dp K H' v d) (motive_2 := fun vs ds _ => DpAll K H' vs ds) ?_ ?_ ?_ ?_ ?_ ?_ ?_ ?_ h
  · exact .non
  · intro b; exact .bl b
  · intro i; exact .int i
  · intro x; exact .str x
  · intro a xs ds hs _ ih; exact .lst (e.seq hs) ih
  · intro a xs ds hs _ ih; exact .tup (Same.tup e hs) ih
  · exact .nil
  · intro v vs d ds _ _ h1 h2; exact .cons h1 h2
theorem DpAll.get {K : PySem.W.Frag} {H : Hp} : ∀ {vs : List V} {ds : List PyData}, DpAll K H vs ds → ∀ {i : Nat} {d : PyData}, ds[i]? = some d → ∃ v, vs[i]? = some v ∧ Dp K H v d
  | _, _, .nil, i, d, h => by simp at h
  | _, _, .cons a b, 0, d, h => by
    simp at h; subst h
    exact ⟨_, rfl, a⟩
  | _, _, .cons a b, i + 1, d, h => by
    obtain ⟨v, h1, h2⟩ := DpAll.get b (i := i) (d := d) (by simpa using h)
    exact ⟨v, by simpa using h1, h2⟩
theorem DpAll.len {K : PySem.W.Frag} {H : Hp} : ∀ {vs : List V} {ds : List PyData}, DpAll K H vs ds → vs.length = ds.length
  | _, _, .nil => rfl
  | _, _, .cons a b => by simp [DpAll.len b]
theorem DpAll.take {K : PySem.W.Frag} {H : Hp} : ∀ {vs : List V} {ds : List PyData} (n : Nat), DpAll K H vs ds → DpAll K H (vs.take n) (ds.take n)
  | _, _, 0, _ => .nil
  | _, _, _ + 1, .nil => .nil
  | _, _, n + 1, .cons a b => .cons a (DpAll.take n b)
theorem DpAll.append {K : PySem.W.Frag} {H : Hp} : ∀ {vs ws : List V} {ds es : List PyData}, DpAll K H vs ds → DpAll K H ws es → DpAll K H (vs ++ ws) (ds ++ es)
  | _, _, _, _, .nil, s => s
  | _, _, _, _, .cons a b, s => .cons a (DpAll.append b s)
theorem DpAll.same {K : PySem.W.Frag} {H H' : Hp} (e : Same H H') : ∀ {vs : List V} {ds : List PyData}, DpAll K H vs ds → DpAll K H' vs ds
  | _, _, .nil => .nil
  | _, _, .cons a b => .cons (Dp.same e a) (DpAll.same e b)
theorem dp_ints {K : PySem.W.Frag} {H : Hp} : ∀ ns : List Int, DpAll K H (ns.map V.int) (ns.map PyData.int)
  | [] => .nil
  | n :: ns => .cons (.int n) (dp_ints ns)
theorem ty_tup {K : PySem.W.Frag} {H : Hp} {a : Addr} {xs : List V} (h : SqT K H a xs) : TyX K H (.ref a) (.type "tuple") := by
  rcases h with (h | ⟨o, h⟩) | ⟨o, its, n, h, hc, _⟩
  · exact .base (.tup h)
  · exact .fTuple h
  · exact .kTuple h hc

/-! ### lists of numbers -/
def vi (p : List Nat) : List V := p.map fun (m : Nat) => V.int (m : Int)
def ci (p : List Nat) : List Int := p.map fun (m : Nat) => (m : Int)
theorem vi_ci (p : List Nat) : vi p = (ci p).map V.int := by simp [vi, ci]
theorem vi_len (p : List Nat) : (vi p).length = p.length := by simp [vi]
theorem vi_get {p : List Nat} {i m : Nat} (h : p[i]? = some m) : (vi p)[i]? = some (.int (m : Int)) := by simp [vi, h]
theorem vi_app (p q : List Nat) : vi (p ++ q) = vi p ++ vi q := by simp [vi]
theorem at_vi {p : List Nat} {i m : Nat} (h : p[i]? = some m) : atI (vi p) (i : Int) = some (.int (m : Int)) := atI_nat (vi_get h)
theorem sz60 {n : Nat} (h : n ≤ 100000) : n ≤ sizeLine := Nat.le_trans h (by decide)
theorem sz61 {n : Nat} (h : n ≤ 100000) : n < sizeLine := Nat.lt_of_le_of_lt h (by decide)
theorem decT {c : Prop} [Decidable c] (h : c) {A B : Prop} (a : A) : if decide c = true then A else B := by
  rw [if_pos (decide_eq_true h)]; exact a
theorem decF {c : Prop} [Decidable c] (h : ¬ c) {A B : Prop} (b : B) : if decide c = true then A else B := by
  rw [if_neg (by simp [h])]; exact b

/-! ### data of tuples: no list within -/
inductive Tf : PyData → Prop
  | non : Tf .none
  | bl (b : Bool) : Tf (.bool b)
  | int (i : Int) : Tf (.int i)
  | str (x : Str) : Tf (.str x)
  | tup {ds : List PyData} : (∀ d, d ∈ ds → Tf d) → Tf (.tuple ds)
theorem Tf.items {ds : List PyData} (h : Tf (.tuple ds)) : ∀ d, d ∈ ds → Tf d := by
  cases h with
  | tup h => exact h
theorem tf_ints (ns : List Int) : ∀ d, d ∈ ns.map PyData.int → Tf d := fun d h => by
  obtain ⟨i, _, rfl⟩ := List.mem_map.mp h
  exact .int i
/-- all tuples stay -/
def Keep (K : PySem.W.Frag) (H H' : Hp) : Prop := ∀ a xs, SqT K H a xs → SqT K H' a xs
theorem Keep.of {K : PySem.W.Frag} {H H' : Hp} (s : Same H H') : Keep K H H' := fun _ _ h => Same.tup s h
theorem Keep.trans {K : PySem.W.Frag} {H H1 H2 : Hp} (a : Keep K H H1) (b : Keep K H1 H2) : Keep K H H2 := fun _ _ h => b _ _ (a _ _ h)
theorem Keep.refl {K : PySem.W.Frag} {H : Hp} : Keep K H H := fun _ _ h => h
/-- all but the list at l stay -/
def But (l : Addr) (H H' : Hp) : Prop := ∀ b o, b ≠ l → H b = some o → H' b = some o
theorem But.refl {l : Addr} {H : Hp} : But l H H := fun _ _ _ h => h
theorem But.trans {l : Addr} {H H1 H2 : Hp} (a : But l H H1) (b : But l H1 H2) : But l H H2 := fun c o n h => b c o n (a c o n h)
theorem But.of {l : Addr} {H H' : Hp} (s : Same H H') : But l H H' := fun c o _ h => s c o h
theorem But.upd {l : Addr} {H : Hp} {o : HO} : But l H (L2.upd H l o) := fun c u n h => by rw [upd_ne n]; exact h
theorem But.keep {K : PySem.W.Frag} {l : Addr} {H H' : Hp} {ys : List V} (s : But l H H') (hl : H l = some (.lst ys)) : Keep K H H' := fun a xs h => by
  rcases h with (h | ⟨o, h⟩) | h
  · exact .inl (.inl (s _ _ (fun e => by rw [e, hl] at h; cases h) h))
  · exact .inl (.inr ⟨o, s _ _ (fun e => by rw [e, hl] at h; cases h) h⟩)
  · exact .inr h
theorem But.same {l : Addr} {H0 H H' : Hp} (s : Same H0 H) (b : But l H H') (n : H0 l = none) : Same H0 H' := fun c o e => b c o (ne_of_none e n) (s c o e)
theorem Dp.keep {K : PySem.W.Frag} {H H' : Hp} (e : Keep K H H') : ∀ {v : V} {d : PyData}, Tf d → Dp K H v d → Dp K H' v d := by
  intro v d t h
  refine Dp.rec (motive_1 := fun v d _ => Tf d → Dp K H' v d) (motive_2 := fun vs ds _ => (∀ d, d ∈ ds → Tf d) → DpAll K H' vs ds) ?_ ?_ ?_ ?_ ?_ ?_ ?_ ?_ h t
  · intro _; exact .non
  · intro b _; exact .bl b
  · intro i _; exact .int i
  · intro x _; exact .str x
  · intro a xs ds hs _ ih t; cases t
  · intro a xs ds hs _ ih t; exact .tup (e _ _ hs) (ih t.items)
  · intro _; exact .nil
  · intro v vs d ds _ _ h1 h2 t; exact .cons (h1 (t _ (List.mem_cons_self ..))) (h2 fun d hd => t d (List.mem_cons_of_mem _ hd))
theorem DpAll.keep {K : PySem.W.Frag} {H H' : Hp} (e : Keep K H H') : ∀ {vs : List V} {ds : List PyData}, (∀ d, d ∈ ds → Tf d) → DpAll K H vs ds → DpAll K H' vs ds
  | _, _, _, .nil => .nil
  | _, _, t, .cons a b => .cons (Dp.keep e (t _ (List.mem_cons_self ..)) a) (DpAll.keep e (fun d hd => t d (List.mem_cons_of_mem _ hd)) b)
theorem dp_ints_inv {K : PySem.W.Frag} {H : Hp} : ∀ {ns : List Int} {vs : List V}, DpAll K H vs (ns.map PyData.int) → vs = ns.map V.int
  | [], _, .nil => rfl
  | n :: ns, _, .cons a b => by
    cases a
    rw [dp_ints_inv b]
    rfl
theorem Dp.tupInv {K : PySem.W.Frag} {H : Hp} {v : V} {ds : List PyData} (h : Dp K H v (.tuple ds)) : ∃ a xs, v = .ref a ∧ SqT K H a xs ∧ DpAll K H xs ds := by
  cases h with
  | tup h1 h2 => exact ⟨_, _, rfl, h1, h2⟩
theorem Dp.intsInv {K : PySem.W.Frag} {H : Hp} {v : V} {ns : List Int} (h : Dp K H v (.tuple (ns.map PyData.int))) : ∃ a, v = .ref a ∧ SqT K H a (ns.map V.int) := by
  obtain ⟨a, xs, e, h1, h2⟩ := Dp.tupInv h
  rw [dp_ints_inv h2] at h1
  exact ⟨a, e, h1⟩

/-! ### a comprehension that gives an item at each turn -/
theorem lc_all {K : PySem.W.Frag} {J : It} {n : Nat} {G : Hp → Prop} {Y : Nat → Hp → V → Hp → Prop} (w : Walk J n G Y) {g : TG} {tt : TT} {te : TE} {vs : List Nat} {σ : L2.St} {H1 : Hp} {D : Addr} {Qd : Hp → Prop}
    (ds : List PyData) (hl : ds.length = n) (ht : ∀ d, d ∈ ds → Tf d) (hn : n ≤ 1000) (hD : H1 D = none) (hG : ∀ H, Same H1 H → G H)
    (hs : ∀ i x H H', i < n → Same H1 H → Y i H x H' → ∀ d, ds[i]? = some d → ∀ R : V → Hp → Prop, (∀ y H4, Same H H4 → Dp K H4 y d → R y H4) →
      g x (wipe σ vs) H' fun σ2 H2 => wipe σ2 vs = wipe σ vs ∧ tt σ2 H2 fun b H3 => b = true ∧ te σ2 H3 R)
    (hd : ∀ H acc, Same H1 H → H D = some (.lst acc) → DpAll K H acc ds → Qd H)
    (mg : ∀ x σ' H' (Q Q' : L2.St → Hp → Prop), (∀ a b, Q a b → Q' a b) → g x σ' H' Q → g x σ' H' Q') (mt : ∀ σ' H' (Q Q' : Bool → Hp → Prop), (∀ a b, Q a b → Q' a b) → tt σ' H' Q → tt σ' H' Q') :
    ∃ W : Nat → Nat → Hp → Prop, (∃ m, W 0 m (upd H1 D (.lst []))) ∧ ∀ i m H, W i m H →
      (J.stop i H ∧ Qd H) ∨ (J.go i H ∧ ∃ Nx : Hp → Prop, (∀ H', Nx H' → ∃ m', m' < m ∧ W (i + 1) m' H') ∧ ∀ x H', J.yld i H x H' → g x (wipe σ vs) H' fun σ2 H2 => wipe σ2 vs = wipe σ vs ∧ tt σ2 H2 fun b H3 =>
        if b = true then te σ2 H3 fun y H4 => ∃ acc, H4 D = some (.lst acc) ∧ acc.length < sizeLine ∧ Nx (upd H4 D (.lst (acc ++ [y]))) else Nx H3) := by
  refine lc_it w (fun i H => Same H1 H ∧ ∃ acc, H D = some (.lst acc) ∧ DpAll K H acc (ds.take i)) ⟨same_upd hD, [], upd_same, .nil⟩ (fun i H _ h => hG H h.1) ?_ ?_
  · rintro i x H H' hi ⟨s1, acc, ha, hA⟩ hy
    have hd' : ds[i]? = some ds[i] := List.getElem?_eq_getElem (by omega)
    have hlen := DpAll.len hA
    rw [List.length_take] at hlen
    refine mg _ _ _ _ _ ?_ (hs i x H H' hi s1 hy ds[i] hd' (fun y H4 => ∃ acc, H4 D = some (.lst acc) ∧ acc.length < sizeLine ∧ (Same H1 (upd H4 D (.lst (acc ++ [y]))) ∧ ∃ acc', (upd H4 D (.lst (acc ++ [y]))) D = some (.lst acc') ∧ DpAll K (upd H4 D (.lst (acc ++ [y]))) acc' (ds.take (i + 1)))) ?_)
    · rintro σ2 H2 ⟨h1, h2⟩
      refine ⟨h1, mt _ _ _ _ ?_ h2⟩
      rintro b H3 ⟨rfl, h3⟩
      exact iteT h3
    · intro y H4 s4 hy4
      refine ⟨acc, s4 _ _ ha, sz61 (by omega), Same.mut (s1.trans s4) hD, acc ++ [y], upd_same, ?_⟩
      have kp : Keep K H4 (upd H4 D (.lst (acc ++ [y]))) := But.keep But.upd (s4 _ _ ha)
      rw [List.take_add_one, hd']
      refine DpAll.keep kp (fun d h => ?_) (DpAll.append (DpAll.same s4 hA) (.cons hy4 .nil))
      rcases List.mem_append.mp h with h | h
      · exact ht d (List.mem_of_mem_take h)
      · have e : d = ds[i] := by simpa using h
        rw [e]; exact ht _ (List.getElem_mem ..)
  · rintro H ⟨s1, acc, ha, hA⟩
    rw [List.take_of_length_le (by omega)] at hA
    exact hd H acc s1 ha hA

/-! ### tuples cut and joined -/
theorem cut_to {xs : List V} {k : Nat} (h : k ≤ xs.length) : cutV xs none (some (k : Int)) = xs.take k := by
  unfold cutV
  rw [HT.sIx_none, HT.sIx_nat, Nat.min_eq_left h]
  simp
theorem cut_from {xs : List V} {k : Nat} (h : k ≤ xs.length) : cutV xs (some (k : Int)) none = xs.drop k := by
  unfold cutV
  rw [HT.sIx_none, HT.sIx_nat, Nat.min_eq_left h]
  rw [List.take_of_length_le (by rw [List.length_drop]; omega)]
theorem sl_read {K : PySem.W.Frag} {H : Hp} {a : Addr} {xs : List V} {lo hi : Option Int} {Q : VK} (h : SqT K H a xs) (q : ∀ p H', Same H H' → SqT K H' p (cutV xs lo hi) → Q (.ref p) H') : rSlA K (.ref a) lo hi H Q := by
  refine ⟨a, xs, rfl, h, fun e => q a H (Same.refl H) ?_, fun _ p hp => q p _ (same_upd hp) (.inl (.inl upd_same))⟩
  unfold cutV
  rw [e.1, e.2]
  simpa using h
theorem cat_read {K : PySem.W.Frag} {H : Hp} {a b : Addr} {xs ys : List V} {Q : VK} (ha : SqT K H a xs) (hb : SqT K H b ys) (hz : xs.length + ys.length ≤ 100000) (q : ∀ p H', Same H H' → SqT K H' p (xs ++ ys) → Q (.ref p) H') : rCatA K (.ref a) (.ref b) H Q := by
  refine ⟨a, b, xs, ys, rfl, rfl, ha, hb, sz60 hz, fun e => q b H (Same.refl H) ?_, fun _ e => q a H (Same.refl H) ?_, fun _ _ p hp => q p _ (same_upd hp) (.inl (.inl upd_same))⟩
  · rw [e]; exact hb
  · rw [e, List.append_nil]; exact ha
theorem DpAll.snoc {K : PySem.W.Frag} {H : Hp} : ∀ {vs : List V} {ds : List PyData} {d : PyData}, DpAll K H vs (ds ++ [d]) → ∃ us v, vs = us ++ [v] ∧ DpAll K H us ds ∧ Dp K H v d
  | _, [], _, .cons a .nil => ⟨[], _, rfl, .nil, a⟩
  | _, _ :: ds, _, .cons a b => by
    obtain ⟨us, v, e, h1, h2⟩ := DpAll.snoc b
    exact ⟨_ :: us, v, by rw [e]; rfl, .cons a h1, h2⟩
theorem ixN_of {n j : Nat} (hj : j < n) : ixN n (j : Int) = some j := by
  unfold ixN
  rw [if_pos (by omega), if_pos (by omega)]
  simp
theorem vi_set (c : List Nat) (k v : Nat) : (vi c).set k (.int (v : Int)) = vi (c.set k v) := by
  unfold vi
  rw [List.map_set]
theorem vi_rep (n v : Nat) : vi (List.replicate n v) = List.replicate n (.int (v : Int)) := by simp [vi]

/-! ### [x for x in range(lo, hi) if ..] -/
theorem lc_fil {lo : Int} {n j : Nat} {vs : List Nat} {σ : L2.St} {H1 : Hp} {D : Addr} {Qd : Hp → Prop} {tt : TT} (f : Nat → Bool) (hn : n ≤ 1000) (hD : H1 D = none)
    (hw : ∀ x, wipe ((wipe σ vs).set j (some x)) vs = wipe σ vs) (hj : ∀ x : V, ((wipe σ vs).set j (some x))[j]? = some (some x))
    (ht : ∀ (i : Nat) H (Q : Bool → Hp → Prop), i < n → Same H1 H → Q (f i) H → tt ((wipe σ vs).set j (some (.int (lo + (i : Nat))))) H Q)
    (hd : ∀ H, Same H1 H → H D = some (.lst (((List.range n).filter f).map fun (i : Nat) => V.int (lo + (i : Nat)))) → Qd H) :
    ∃ W : Nat → Nat → Hp → Prop, (∃ m, W 0 m (upd H1 D (.lst []))) ∧ ∀ i m H, W i m H →
      ((Itr lo n).stop i H ∧ Qd H) ∨ ((Itr lo n).go i H ∧ ∃ Nx : Hp → Prop, (∀ H', Nx H' → ∃ m', m' < m ∧ W (i + 1) m' H') ∧ ∀ x H', (Itr lo n).yld i H x H' → gName j x (wipe σ vs) H' fun σ2 H2 => wipe σ2 vs = wipe σ vs ∧ tt σ2 H2 fun b H3 =>
        if b = true then tVar j σ2 H3 fun y H4 => ∃ acc, H4 D = some (.lst acc) ∧ acc.length < sizeLine ∧ Nx (upd H4 D (.lst (acc ++ [y]))) else Nx H3) := by
  refine lc_range (lo := lo) (n := n) (fun i H => Same H1 H ∧ H D = some (.lst (((List.range i).filter f).map fun (i : Nat) => V.int (lo + (i : Nat))))) ⟨same_upd hD, upd_same⟩ ?_ ?_
  · rintro i H hi ⟨s1, h1⟩
    refine ⟨hw _, ht i H _ hi s1 ?_⟩
    have hlen : (((List.range i).filter f).map fun (i : Nat) => V.int (lo + (i : Nat))).length ≤ i := by
      rw [List.length_map]
      have := List.length_filter_le f (List.range i)
      rw [List.length_range] at this
      exact this
    by_cases hf : f i = true
    · rw [hf]
      refine iteT ⟨_, hj _, _, h1, sz61 (by omega), Same.mut s1 hD, ?_⟩
      rw [List.range_succ, List.filter_append, List.map_append]
      simp only [List.filter_cons, hf, if_true, List.filter_nil, List.map_cons, List.map_nil]
      exact upd_same
    · have hf' : f i = false := by simpa using hf
      rw [hf']
      refine iteF ⟨s1, ?_⟩
      rw [List.range_succ, List.filter_append, List.map_append]
      simpa [hf'] using h1
  · rintro H ⟨s1, h1⟩
    exact hd H s1 h1
theorem iteB1 {b : Bool} {A B : Prop} (h : b = true) (a : A) : if b = true then A else B := by rw [if_pos h]; exact a
theorem iteB0 {b : Bool} {A B : Prop} (h : b = false) (a : B) : if b = true then A else B := by rw [if_neg (by rw [h]; decide)]; exact a

/-! ### deep comparisons -/
theorem lay_all : ∀ {ds : List PyData}, (∀ d, d ∈ ds → d.canLay0 = true) → PyData.canLayAll0 ds = true
  | [], _ => by simp [PyData.canLayAll0]
  | d :: ds, h => by
    simp only [PyData.canLayAll0]
    rw [h d (List.mem_cons_self ..), lay_all fun e he => h e (List.mem_cons_of_mem _ he)]; rfl
theorem dep_all {k : Nat} : ∀ {ds : List PyData}, (∀ d, d ∈ ds → d.depth ≤ k) → PyData.depthAll ds ≤ k
  | [], _ => by simp [PyData.depthAll]
  | d :: ds, h => by
    simp only [PyData.depthAll]
    have h1 := h d (List.mem_cons_self ..)
    have h2 := dep_all (k := k) fun e he => h e (List.mem_cons_of_mem _ he)
    omega
/-- plain data of at most so many levels -/
def Sh (k : Nat) (d : PyData) : Prop := d.canLay0 = true ∧ d.depth ≤ k
theorem Sh.shaped {k : Nat} {d : PyData} (h : Sh k d) (hk : k ≤ 64) : SeqAt.shaped d = true := by
  unfold SeqAt.shaped
  rw [h.1, decide_eq_true (by have := h.2; omega)]; rfl
theorem Sh.tup {k : Nat} {ds : List PyData} (h : ∀ d, d ∈ ds → Sh k d) : Sh (k + 1) (.tuple ds) :=
  ⟨by simp only [PyData.canLay0]; exact lay_all fun d hd => (h d hd).1, by simp only [PyData.depth]; have := dep_all (k := k) (ds := ds) fun d hd => (h d hd).2; omega⟩
theorem Sh.lst {k : Nat} {ds : List PyData} (h : ∀ d, d ∈ ds → Sh k d) : Sh (k + 1) (.list ds) :=
  ⟨by simp only [PyData.canLay0]; exact lay_all fun d hd => (h d hd).1, by simp only [PyData.depth]; have := dep_all (k := k) (ds := ds) fun d hd => (h d hd).2; omega⟩
theorem Sh.int (i : Int) {k : Nat} : Sh k (.int i) := ⟨by simp [PyData.canLay0], by simp [PyData.depth]⟩
theorem Sh.ints {k : Nat} (ns : List Int) : ∀ d, d ∈ ns.map PyData.int → Sh k d := fun d h => by
  obtain ⟨i, _, rfl⟩ := List.mem_map.mp h
  exact .int i
theorem eq_data {K : PySem.W.Frag} {H : Hp} {x y : V} {d : PyData} {Q : VK} {k : Nat} (hx : Dp K H x d) (hy : Dp K H y d) (hs : Sh k d) (hk : k ≤ 64) (q : Q (.bl true) H) : rEqD K x y H Q :=
  ⟨d, d, hx, hy, hs.shaped hk, hs.shaped hk, by rw [SeqAt.eqv_refl d hs.1]; exact q⟩
theorem ne_data {K : PySem.W.Frag} {H : Hp} {x y : V} {d : PyData} {Q : VK} {k : Nat} (hx : Dp K H x d) (hy : Dp K H y d) (hs : Sh k d) (hk : k ≤ 64) (q : Q (.bl false) H) : rNeD K x y H Q :=
  ⟨d, d, hx, hy, hs.shaped hk, hs.shaped hk, by rw [SeqAt.eqv_refl d hs.1]; exact q⟩
theorem dp_tup {K : PySem.W.Frag} {H : Hp} {a : Addr} {ns : List Int} (h : SqT K H a (ns.map V.int)) : Dp K H (.ref a) (.tuple (ns.map PyData.int)) := .tup h (dp_ints ns)
theorem ne_ints {K : PySem.W.Frag} {H : Hp} {a b : Addr} {ns : List Int} {Q : VK} (ha : SqT K H a (ns.map V.int)) (hb : SqT K H b (ns.map V.int)) (q : Q (.bl false) H) : rNeD K (.ref a) (.ref b) H Q :=
  ne_data (dp_tup ha) (dp_tup hb) (Sh.tup (k := 0) (Sh.ints ns)) (by decide) q
end MB

set_option maxHeartbeats 4000000
namespace MB
open PySem PySem.Spec PyProof.Rows L2
/-- tuple(range(i, j, k)) -/
def tTupR3 (ta : TA) : TE := fun σ H Q => ta σ H fun vs H1 => ∃ (i j k : Int) (n : Nat), vs = [.int i, .int j, .int k] ∧ RgC i j k n ∧ n ≤ 2 ^ 24 ∧ ∀ q, H1 q = none → Q (.ref q) (upd H1 q (.tup ((List.range n).map fun (m : Nat) => V.int (i + (m : Int) * k))))
theorem pe_tupR3 {X : Cx} {a b c : Expr} {ta : TA} {p p' pos pos' : Pos} (hc : X.calm = true) (hg : Gl X "tuple") (hm : X.mg "tuple" = none) (hg' : Gl X "range") (hm' : X.mg "range" = none) (ha : PA X [a, b, c] ta)
    (hs : starEach [a, b, c] X.env = (false, eval a X.env) :: starEach [b, c] X.env := by rfl) (hpl : (backTo pos' (starEach [b, c] X.env)).any (·.1) = false := by rfl)
    (na : starEach [.Call (.Name "range" p') [a, b, c] [] pos'] X.env = (false, eval (.Call (.Name "range" p') [a, b, c] [] pos') X.env) :: starEach [] X.env := by rfl) :
    PE X (.Call (.Name "tuple" p) [.Call (.Name "range" p') [a, b, c] [] pos'] [] pos) (tTupR3 ta) := by
  refine ⟨fun pins s σ H Q I h => ?_⟩
  refine Call_ (ld_blt I hg hm boot_tuple (PyProof.Rows.callWith_type1 (args_cons (Call_ (ld_blt I hg' hm' boot_range (PyProof.Rows.callWith_type1 (thn (ha.run pos' pins s σ H _ I h) fun us s1 ⟨vs, H1, I1, r1, q1⟩ => ?_) hs hpl))) na) na))
  obtain ⟨i, j, k, n, rfl, ⟨c0, c1, c2, c3⟩, hn, q⟩ := q1
  obtain ⟨u1, u2, u3, rfl, ⟨t1, rfl⟩, ⟨t2, rfl⟩, ⟨t3, rfl⟩⟩ : ∃ u1 u2 u3, us = [u1, u2, u3] ∧ RelV (.int i) u1 ∧ RelV (.int j) u2 ∧ RelV (.int k) u3 := by
    cases r1 with
    | cons x1 y1 => cases y1 with
      | cons x2 y2 => cases y2 with
        | cons x3 y3 => cases y3; exact ⟨_, _, _, rfl, x1, x2, x3⟩
  refine call_range_3 c0 (args_nil ?_) (.inl (PyProof.noPylong_small c1))
  have I2 : Inv X pins σ H1 { s1 with heap := s1.heap.push { cls := .type "range", data := .fields #[.int i t1, .int j t2, .int k t3] } } := I1.kept (t' := s1.toks) fun b o e => Heap.get?_push_of_some _ e
  refine call_tuple_range (n := n) (I2.ok.hd hc) (IsRange.new ..) c2 c3 hn fun h' tk acc hk hi => ?_
  have I3 : Inv X pins σ H1 { s1 with heap := h', toks := tk } := I2.kept hk
  have hv : Vals ((List.range n).map fun (m : Nat) => V.int (i + (m : Int) * k)) acc.toList := by
    have e : acc.toList.length = n := by rw [Array.length_toList]; exact hi.1
    rw [← e]
    refine vals_of_get acc.toList _ fun m u hj => ?_
    obtain ⟨t, rfl⟩ := hi.2 m u (by rw [← hj, Array.getElem?_toList])
    exact ⟨t, rfl⟩
  refine ⟨.ref h'.objs.size, _, I3.laid (o := .tup ((List.range n).map fun (m : Nat) => V.int (i + (m : Int) * k))) (t' := tk) (fun c o e => Heap.get?_push_of_some _ e) (Nat.le_refl _) ⟨?_, acc.toList, hv, ?_⟩, rfl, q _ (I3.hok.fresh (Nat.le_refl _))⟩
  · rw [List.length_map, List.length_range, sizeLine_eq]; omega
  · rw [Array.toArray_toList]; exact IsTup.new _ _
end MB

set_option maxHeartbeats 4000000
namespace MB
open PySem PySem.Spec PyProof.Rows L2
theorem blT {c : Prop} [Decidable c] (h : c) : V.bl (decide c) = V.bl true := by rw [decide_eq_true h]
theorem blF {c : Prop} [Decidable c] (h : ¬ c) : V.bl (decide c) = V.bl false := by rw [decide_eq_false h]
theorem nblF {c : Prop} [Decidable c] (h : c) : V.bl (!decide c) = V.bl false := by rw [decide_eq_true h]; rfl
theorem nblT {c : Prop} [Decidable c] (h : ¬ c) : V.bl (!decide c) = V.bl true := by rw [decide_eq_false h]; rfl
theorem int_ne {i j : Int} (h : i ≠ j) : ¬ V.int i = V.int j := fun e => h (by injection e)
theorem dp_bls_inv {K : PySem.W.Frag} {H : Hp} : ∀ {ns : List Bool} {vs : List V}, DpAll K H vs (ns.map PyData.bool) → vs = ns.map V.bl
  | [], _, .nil => rfl
  | n :: ns, _, .cons a b => by
    cases a
    rw [dp_bls_inv b]
    rfl
/-- a comprehension whose items are truth values -/
theorem lc_bools {K : PySem.W.Frag} {J : It} {n : Nat} {G : Hp → Prop} {Y : Nat → Hp → V → Hp → Prop} (w : Walk J n G Y) {g : TG} {tt : TT} {te : TE} {vs : List Nat} {σ : L2.St} {H1 : Hp} {D : Addr} {Qd : Hp → Prop}
    (bs : List Bool) (hl : bs.length = n) (hn : n ≤ 1000) (hD : H1 D = none) (hG : ∀ H, Same H1 H → G H)
    (hs : ∀ i x H H', i < n → Same H1 H → Y i H x H' → ∀ b, bs[i]? = some b → ∀ R : V → Hp → Prop, (∀ H4, Same H H4 → R (.bl b) H4) →
      g x (wipe σ vs) H' fun σ2 H2 => wipe σ2 vs = wipe σ vs ∧ tt σ2 H2 fun b H3 => b = true ∧ te σ2 H3 R)
    (hd : ∀ H, Same H1 H → H D = some (.lst (bs.map V.bl)) → Qd H)
    (mg : ∀ x σ' H' (Q Q' : L2.St → Hp → Prop), (∀ a b, Q a b → Q' a b) → g x σ' H' Q → g x σ' H' Q') (mt : ∀ σ' H' (Q Q' : Bool → Hp → Prop), (∀ a b, Q a b → Q' a b) → tt σ' H' Q → tt σ' H' Q') :
    ∃ W : Nat → Nat → Hp → Prop, (∃ m, W 0 m (upd H1 D (.lst []))) ∧ ∀ i m H, W i m H →
      (J.stop i H ∧ Qd H) ∨ (J.go i H ∧ ∃ Nx : Hp → Prop, (∀ H', Nx H' → ∃ m', m' < m ∧ W (i + 1) m' H') ∧ ∀ x H', J.yld i H x H' → g x (wipe σ vs) H' fun σ2 H2 => wipe σ2 vs = wipe σ vs ∧ tt σ2 H2 fun b H3 =>
        if b = true then te σ2 H3 fun y H4 => ∃ acc, H4 D = some (.lst acc) ∧ acc.length < sizeLine ∧ Nx (upd H4 D (.lst (acc ++ [y]))) else Nx H3) := by
  refine lc_all (K := K) w (bs.map PyData.bool) (by rw [List.length_map, hl]) (fun d h => ?_) hn hD hG ?_ ?_ mg mt
  · obtain ⟨b, _, rfl⟩ := List.mem_map.mp h
    exact .bl b
  · intro i x H H' hi s y d hd' R hR
    rw [List.getElem?_map] at hd'
    cases e : bs[i]? with
    | none => rw [e] at hd'; cases hd'
    | some b =>
      rw [e] at hd'
      cases hd'
      exact hs i x H H' hi s y b e R fun H4 s4 => hR _ _ s4 (.bl b)
  · intro H acc s ha hA
    rw [dp_bls_inv hA] at ha
    exact hd H s ha
/-- a comprehension whose items are numbers -/
theorem lc_ints {K : PySem.W.Frag} {J : It} {n : Nat} {G : Hp → Prop} {Y : Nat → Hp → V → Hp → Prop} (w : Walk J n G Y) {g : TG} {tt : TT} {te : TE} {vs : List Nat} {σ : L2.St} {H1 : Hp} {D : Addr} {Qd : Hp → Prop}
    (bs : List Int) (hl : bs.length = n) (hn : n ≤ 1000) (hD : H1 D = none) (hG : ∀ H, Same H1 H → G H)
    (hs : ∀ i x H H', i < n → Same H1 H → Y i H x H' → ∀ b, bs[i]? = some b → ∀ R : V → Hp → Prop, (∀ H4, Same H H4 → R (.int b) H4) →
      g x (wipe σ vs) H' fun σ2 H2 => wipe σ2 vs = wipe σ vs ∧ tt σ2 H2 fun b H3 => b = true ∧ te σ2 H3 R)
    (hd : ∀ H, Same H1 H → H D = some (.lst (bs.map V.int)) → Qd H)
    (mg : ∀ x σ' H' (Q Q' : L2.St → Hp → Prop), (∀ a b, Q a b → Q' a b) → g x σ' H' Q → g x σ' H' Q') (mt : ∀ σ' H' (Q Q' : Bool → Hp → Prop), (∀ a b, Q a b → Q' a b) → tt σ' H' Q → tt σ' H' Q') :
    ∃ W : Nat → Nat → Hp → Prop, (∃ m, W 0 m (upd H1 D (.lst []))) ∧ ∀ i m H, W i m H →
      (J.stop i H ∧ Qd H) ∨ (J.go i H ∧ ∃ Nx : Hp → Prop, (∀ H', Nx H' → ∃ m', m' < m ∧ W (i + 1) m' H') ∧ ∀ x H', J.yld i H x H' → g x (wipe σ vs) H' fun σ2 H2 => wipe σ2 vs = wipe σ vs ∧ tt σ2 H2 fun b H3 =>
        if b = true then te σ2 H3 fun y H4 => ∃ acc, H4 D = some (.lst acc) ∧ acc.length < sizeLine ∧ Nx (upd H4 D (.lst (acc ++ [y]))) else Nx H3) := by
  refine lc_all (K := K) w (bs.map PyData.int) (by rw [List.length_map, hl]) (tf_ints _) hn hD hG ?_ ?_ mg mt
  · intro i x H H' hi s y d hd' R hR
    rw [List.getElem?_map] at hd'
    cases e : bs[i]? with
    | none => rw [e] at hd'; cases hd'
    | some b =>
      rw [e] at hd'
      cases hd'
      exact hs i x H H' hi s y b e R fun H4 s4 => hR _ _ s4 (.int b)
  · intro H acc s ha hA
    rw [dp_ints_inv hA] at ha
    exact hd H s ha
theorem k_pgTN {X : Cx} {K : PySem.W.Frag} {x y z : Str} {px py pz p1 : Pos} {k k1 : Nat} {pos : Pos} {t1 t2 : TG} (hK : X.K = K) (hc : X.calm = true) (h1 : PG X (.Tuple [.Name x px, .Name y py] k1 p1) t1) (h2 : PG X (.Name z pz) t2) : PG X (.Tuple [.Tuple [.Name x px, .Name y py] k1 p1, .Name z pz] k pos) (gTup K 2 (gCons t1 (gCons t2 gNil))) := by
  subst hK
  exact pg_tup hc (pgs_cons h1 (pgs_cons h2 pgs_nil))
theorem mono_pair2 {K : PySem.W.Frag} {n n' i j l : Nat} (x : V) (σ' : L2.St) (H' : Hp) (Q Q' : L2.St → Hp → Prop) (h : ∀ a b, Q a b → Q' a b) (e : gTup K n (gCons (gTup K n' (gCons (gName i) (gCons (gName j) gNil))) (gCons (gName l) gNil)) x σ' H' Q) : gTup K n (gCons (gTup K n' (gCons (gName i) (gCons (gName j) gNil))) (gCons (gName l) gNil)) x σ' H' Q' := by
  obtain ⟨a, xs, e1, e2, e3, v, r, e4, b, ys, f1, f2, f3, v1, r1, f4, v2, r2, f5, f6, v', r', e5, e6, q⟩ := e
  exact ⟨a, xs, e1, e2, e3, v, r, e4, b, ys, f1, f2, f3, v1, r1, f4, v2, r2, f5, f6, v', r', e5, e6, h _ _ q⟩
theorem ci_sum : ∀ p : List Nat, (ci p).sum = ((p.sum : Nat) : Int)
  | [] => rfl
  | x :: p => by
    have := ci_sum p
    simp only [ci, List.map_cons, List.sum_cons, Int.natCast_add] at this ⊢
    rw [this]
theorem cutV_to {p : List Nat} {m : Nat} (h : m ≤ p.length) : cutV (vi p) none (some (m : Int)) = vi (p.take m) := by
  rw [cut_to (by rw [vi_len]; exact h)]; simp [vi, List.map_take]
theorem cutV_from {p : List Nat} {m : Nat} (h : m ≤ p.length) : cutV (vi p) (some (m : Int)) none = vi (p.drop m) := by
  rw [cut_from (by rw [vi_len]; exact h)]; simp [vi, List.map_drop]
theorem cut_drop {p : List Nat} {m : Nat} (h : m ≤ p.length) : cutV (vi p) (some (m : Int)) none = (ci (p.drop m)).map V.int := by
  rw [cutV_from h, vi_ci]
theorem isi_int {K : PySem.W.Frag} {H : Hp} {i : Int} {Q : VK} (q : Q (.bl true) H) : rIsi K [.int i, .ty "int"] H Q :=
  ⟨.int i, .ty "int", .type "int", .type "int", true, rfl, .ty _, .base (.int i), kit_ty (by decide +kernel), q⟩
theorem isi_bool {K : PySem.W.Frag} {H : Hp} {i : Int} {Q : VK} (q : Q (.bl false) H) : rIsi K [.int i, .ty "bool"] H Q :=
  ⟨.int i, .ty "bool", .type "int", .type "bool", false, rfl, .ty _, .base (.int i), kit_ty (by decide +kernel), q⟩
theorem nth3 {n : Nat} (x : List V) (h : x.length = n) (i : Nat) (hi : i < (if (if (x.length : Int) < 3 then (x.length : Int) else 3) > 1 then (if (x.length : Int) < 3 then (x.length : Int) else 3) else 1 : Int).toNat) : i ≤ 62 := by
  have : (if (if (x.length : Int) < 3 then (x.length : Int) else 3) > 1 then (if (x.length : Int) < 3 then (x.length : Int) else 3) else 1) ≤ 3 := by split <;> split <;> omega
  omega
end MB

set_option maxHeartbeats 4000000
namespace MB
/-- the first of the least among f 0 .. f n -/
def amin (f : Nat → Int) : Nat → Nat
  | 0 => 0
  | n + 1 => if f (n + 1) < f (amin f n) then n + 1 else amin f n
theorem amin_le (f : Nat → Int) : ∀ n, amin f n ≤ n
  | 0 => Nat.le_refl _
  | n + 1 => by
    have := amin_le f n
    unfold amin
    split <;> omega
theorem amin_min (f : Nat → Int) : ∀ n k, k ≤ n → f (amin f n) ≤ f k
  | 0, k, h => by
    have : k = 0 := by omega
    rw [this]
    exact Int.le_refl _
  | n + 1, k, h => by
    have ih := amin_min f n
    unfold amin
    split
    · rename_i hlt
      by_cases e : k = n + 1
      · rw [e]
        exact Int.le_refl _
      · have := ih k (by omega)
        omega
    · rename_i hlt
      by_cases e : k = n + 1
      · rw [e]
        omega
      · exact ih k (by omega)
theorem amin_first (f : Nat → Int) : ∀ n k, k < amin f n → f (amin f n) < f k
  | 0, k, h => by simp [amin] at h
  | n + 1, k, h => by
    have ih := amin_first f n
    have hm := amin_min f n
    unfold amin at h ⊢
    split at h
    · rename_i hlt
      rw [if_pos hlt]
      have := hm k (by omega)
      omega
    · rename_i hlt
      rw [if_neg hlt]
      exact ih k h
theorem amin_uniq {f : Nat → Int} {n a : Nat} (ha : a ≤ n) (h1 : ∀ k, k ≤ n → f a ≤ f k) (h2 : ∀ k, k < a → f a < f k) : amin f n = a := by
  rcases Nat.lt_trichotomy (amin f n) a with h | h | h
  · have := h2 _ h
    have := amin_min f n a ha
    omega
  · exact h
  · have := amin_first f n a h
    have := h1 _ (amin_le f n)
    omega
theorem amin_like {f g : Nat → Int} {n : Nat} (h : ∀ j k, j ≤ n → k ≤ n → (f j < f k ↔ g j < g k)) : amin f n = amin g n := by
  refine amin_uniq (amin_le g n) (fun k hk => ?_) (fun k hk => ?_)
  · have h1 := amin_min g n k hk
    have h2 := h k (amin g n) hk (amin_le g n)
    by_cases e : f k < f (amin g n)
    · have := h2.mp e; omega
    · omega
  · have h0 := amin_le g n
    exact (h _ _ (amin_le g n) (by omega)).mpr (amin_first g n k hk)
theorem amin_congr {f g : Nat → Int} {n : Nat} (h : ∀ k, k ≤ n → f k = g k) : amin f n = amin g n :=
  amin_like fun j k hj hk => by rw [h j hj, h k hk]
/-- the cost of the root i + k of the m flushes from i on -/
def cst (S R : Nat → Int) (i m k : Nat) : Int := S (i + k + 1) - S i + R (i + m) - R (i + k)
def lwF (S R : Nat → Int) : Nat → Nat → Nat → Int
  | 0, _, _ => 0
  | _ + 1, _, 0 => 0
  | f + 1, i, m + 1 => (fun k => lwF S R f i k + lwF S R f (i + k + 1) (m - k) + cst S R i (m + 1) k) (amin (fun k => lwF S R f i k + lwF S R f (i + k + 1) (m - k) + cst S R i (m + 1) k) m)
theorem lwF_eq (S R : Nat → Int) : ∀ f m i, m ≤ f → lwF S R f i m = lwF S R m i m := by
  have key : ∀ f, ∀ m i, m ≤ f → lwF S R (f + 1) i m = lwF S R f i m := by
    intro f
    induction f with
    | zero => intro m i h; have : m = 0 := by omega
              subst this; rfl
    | succ f ih =>
      intro m i h
      cases m with
      | zero => rfl
      | succ m =>
        have e : ∀ k, k ≤ m → lwF S R (f + 1) i k + lwF S R (f + 1) (i + k + 1) (m - k) + cst S R i (m + 1) k = lwF S R f i k + lwF S R f (i + k + 1) (m - k) + cst S R i (m + 1) k := fun k hk => by
          rw [ih k i (by omega), ih (m - k) (i + k + 1) (by omega)]
        show (fun k => lwF S R (f + 1) i k + lwF S R (f + 1) (i + k + 1) (m - k) + cst S R i (m + 1) k) (amin (fun k => lwF S R (f + 1) i k + lwF S R (f + 1) (i + k + 1) (m - k) + cst S R i (m + 1) k) m) = (fun k => lwF S R f i k + lwF S R f (i + k + 1) (m - k) + cst S R i (m + 1) k) (amin (fun k => lwF S R f i k + lwF S R f (i + k + 1) (m - k) + cst S R i (m + 1) k) m)
        rw [amin_congr e]
        exact e _ (amin_le _ _)
  intro f m i h
  induction f with
  | zero => have : m = 0 := by omega
            subst this; rfl
  | succ f ih =>
    by_cases e : m ≤ f
    · rw [key f m i e, ih e]
    · have : m = f + 1 := by omega
      rw [this]
/-- the least work of the m flushes from i on -/
def lw (S R : Nat → Int) (i m : Nat) : Int := lwF S R m i m
/-- the least work of the m + 1 flushes from i on with the root i + k -/
def via (S R : Nat → Int) (i m k : Nat) : Int := lw S R i k + lw S R (i + k + 1) (m - k) + cst S R i (m + 1) k
def rt (S R : Nat → Int) (i m : Nat) : Nat := amin (via S R i m) m
theorem lw_zero (S R : Nat → Int) (i : Nat) : lw S R i 0 = 0 := rfl
theorem lw_succ (S R : Nat → Int) (i m : Nat) : lw S R i (m + 1) = via S R i m (rt S R i m) := by
  have e : ∀ k, k ≤ m → lwF S R m i k + lwF S R m (i + k + 1) (m - k) + cst S R i (m + 1) k = via S R i m k := fun k hk => by
    rw [lwF_eq S R m k i hk, lwF_eq S R m (m - k) (i + k + 1) (by omega)]; rfl
  show (fun k => lwF S R m i k + lwF S R m (i + k + 1) (m - k) + cst S R i (m + 1) k) (amin (fun k => lwF S R m i k + lwF S R m (i + k + 1) (m - k) + cst S R i (m + 1) k) m) = _
  rw [amin_congr e]
  exact e _ (amin_le _ _)
theorem rt_le (S R : Nat → Int) (i m : Nat) : rt S R i m ≤ m := amin_le _ _
theorem lw_le (S R : Nat → Int) (i : Nat) {m k : Nat} (h : k ≤ m) : lw S R i (m + 1) ≤ via S R i m k := by
  rw [lw_succ]
  exact amin_min _ _ _ h
def ltF (S R : Nat → Int) : Nat → Nat → Nat → T
  | 0, _, _ => .nil
  | _ + 1, _, 0 => .nil
  | f + 1, i, m + 1 => .node (ltF S R f i (rt S R i m)) (ltF S R f (i + rt S R i m + 1) (m - rt S R i m))
theorem ltF_eq (S R : Nat → Int) : ∀ f m i, m ≤ f → ltF S R f i m = ltF S R m i m := by
  have key : ∀ f, ∀ m i, m ≤ f → ltF S R (f + 1) i m = ltF S R f i m := by
    intro f
    induction f with
    | zero => intro m i h; have : m = 0 := by omega
              subst this; rfl
    | succ f ih =>
      intro m i h
      cases m with
      | zero => rfl
      | succ m =>
        have hr := rt_le S R i m
        show T.node (ltF S R (f + 1) i (rt S R i m)) (ltF S R (f + 1) (i + rt S R i m + 1) (m - rt S R i m)) = T.node (ltF S R f i (rt S R i m)) (ltF S R f (i + rt S R i m + 1) (m - rt S R i m))
        rw [ih _ _ (by omega), ih _ _ (by omega)]
  intro f m i h
  induction f with
  | zero => have : m = 0 := by omega
            subst this; rfl
  | succ f ih =>
    by_cases e : m ≤ f
    · rw [key f m i e, ih e]
    · have : m = f + 1 := by omega
      rw [this]
/-- the tree of least roots of the m flushes from i on -/
def lt (S R : Nat → Int) (i m : Nat) : T := ltF S R m i m
theorem lt_zero (S R : Nat → Int) (i : Nat) : lt S R i 0 = .nil := rfl
theorem lt_succ (S R : Nat → Int) (i m : Nat) : lt S R i (m + 1) = .node (lt S R i (rt S R i m)) (lt S R (i + rt S R i m + 1) (m - rt S R i m)) := by
  have hr := rt_le S R i m
  show T.node (ltF S R m i (rt S R i m)) (ltF S R m (i + rt S R i m + 1) (m - rt S R i m)) = _
  rw [ltF_eq S R m _ i hr, ltF_eq S R m _ (i + rt S R i m + 1) (by omega)]; rfl
theorem lt_size (S R : Nat → Int) : ∀ m i, (lt S R i m).size = m := by
  intro m
  induction m using Nat.strongRecOn with
  | ind m ih =>
    intro i
    cases m with
    | zero => rfl
    | succ m =>
      have hr := rt_le S R i m
      rw [lt_succ]
      show (lt S R i (rt S R i m)).size + 1 + (lt S R (i + rt S R i m + 1) (m - rt S R i m)).size = m + 1
      rw [ih _ (by omega), ih _ (by omega)]
      omega
/-- only the differences count -/
theorem lw_shift {S R S' R' : Nat → Int} {d : Nat} {c c' : Int} : ∀ m i, (∀ j, i ≤ j → j ≤ i + m → S j = S' (j + d) + c ∧ R j = R' (j + d) + c') → lw S R i m = lw S' R' (i + d) m ∧ lt S R i m = lt S' R' (i + d) m := by
  intro m
  induction m using Nat.strongRecOn with
  | ind m ih =>
    intro i h
    cases m with
    | zero => exact ⟨rfl, rfl⟩
    | succ m =>
      have ev : ∀ k, k ≤ m → via S R i m k = via S' R' (i + d) m k := fun k hk => by
        have e1 := (ih k (by omega) i fun j h1 h2 => h j h1 (by omega)).1
        have e2 := (ih (m - k) (by omega) (i + k + 1) fun j h1 h2 => h j (by omega) (by omega)).1
        have a1 := (h (i + k + 1) (by omega) (by omega)).1
        have a2 := (h i (by omega) (by omega)).1
        have a3 := (h (i + (m + 1)) (by omega) (by omega)).2
        have a4 := (h (i + k) (by omega) (by omega)).2
        rw [show i + k + 1 + d = i + d + k + 1 by omega] at a1
        rw [show i + (m + 1) + d = i + d + (m + 1) by omega] at a3
        rw [show i + k + d = i + d + k by omega] at a4
        rw [show i + k + 1 + d = i + d + k + 1 by omega] at e2
        unfold via cst
        rw [e1, e2, a1, a2, a3, a4]
        omega
      have er : rt S R i m = rt S' R' (i + d) m := amin_congr ev
      have hr := rt_le S' R' (i + d) m
      refine ⟨?_, ?_⟩
      · rw [lw_succ, lw_succ, er]
        exact ev _ hr
      · rw [lt_succ, lt_succ, er]
        rw [(ih (rt S' R' (i + d) m) (by omega) i fun j h1 h2 => h j h1 (by omega)).2]
        rw [(ih (m - rt S' R' (i + d) m) (by omega) (i + rt S' R' (i + d) m + 1) fun j h1 h2 => h j (by omega) (by omega)).2]
        rw [show i + rt S' R' (i + d) m + 1 + d = i + d + rt S' R' (i + d) m + 1 by omega]
theorem rt_shift {S R S' R' : Nat → Int} {d : Nat} {c c' : Int} {m i : Nat} (h : ∀ j, i ≤ j → j ≤ i + (m + 1) → S j = S' (j + d) + c ∧ R j = R' (j + d) + c') : rt S R i m = rt S' R' (i + d) m := by
  refine amin_congr fun k hk => ?_
  have e1 := (lw_shift (S := S) (R := R) (S' := S') (R' := R') k i fun j h1 h2 => h j h1 (by omega)).1
  have e2 := (lw_shift (S := S) (R := R) (S' := S') (R' := R') (m - k) (i + k + 1) fun j h1 h2 => h j (by omega) (by omega)).1
  have a1 := (h (i + k + 1) (by omega) (by omega)).1
  have a2 := (h i (by omega) (by omega)).1
  have a3 := (h (i + (m + 1)) (by omega) (by omega)).2
  have a4 := (h (i + k) (by omega) (by omega)).2
  rw [show i + k + 1 + d = i + d + k + 1 by omega] at a1
  rw [show i + (m + 1) + d = i + d + (m + 1) by omega] at a3
  rw [show i + k + d = i + d + k by omega] at a4
  rw [show i + k + 1 + d = i + d + k + 1 by omega] at e2
  unfold via cst
  rw [e1, e2, a1, a2, a3, a4]
  omega
theorem lw_scale {S R : Nat → Int} {c : Int} (hc : 0 < c) : ∀ m i, lw (fun j => c * S j) (fun j => c * R j) i m = c * lw S R i m := by
  intro m
  induction m using Nat.strongRecOn with
  | ind m ih =>
    intro i
    cases m with
    | zero => rw [lw_zero, lw_zero, Int.mul_zero]
    | succ m =>
      have ev : ∀ k, k ≤ m → via (fun j => c * S j) (fun j => c * R j) i m k = c * via S R i m k := fun k hk => by
        unfold via cst
        rw [ih k (by omega), ih (m - k) (by omega)]
        simp only [Int.mul_add, Int.mul_sub]
      have er : rt (fun j => c * S j) (fun j => c * R j) i m = rt S R i m := amin_like fun j k hj hk => by
        rw [ev j hj, ev k hk]
        exact Int.mul_lt_mul_left hc
      rw [lw_succ, lw_succ, er]
      exact ev _ (rt_le _ _ _ _)
theorem rt_scale {S R : Nat → Int} {c : Int} (hc : 0 < c) (i m : Nat) : rt (fun j => c * S j) (fun j => c * R j) i m = rt S R i m :=
  amin_like fun j k hj hk => by
    have ev : ∀ k, k ≤ m → via (fun j => c * S j) (fun j => c * R j) i m k = c * via S R i m k := fun k hk => by
      unfold via cst
      rw [lw_scale hc, lw_scale hc]
      simp only [Int.mul_add, Int.mul_sub]
    rw [ev j hj, ev k hk]
    exact Int.mul_lt_mul_left hc
theorem lw_add {S R S' R' : Nat → Int} : ∀ m i, lw S R i m + lw S' R' i m ≤ lw (fun j => S j + S' j) (fun j => R j + R' j) i m := by
  intro m
  induction m using Nat.strongRecOn with
  | ind m ih =>
    intro i
    cases m with
    | zero => rw [lw_zero, lw_zero, lw_zero]; decide
    | succ m =>
      rw [lw_succ (fun j => S j + S' j)]
      generalize hk : rt (fun j => S j + S' j) (fun j => R j + R' j) i m = k
      have hk2 : k ≤ m := by rw [← hk]; exact rt_le _ _ _ _
      have h1 := lw_le S R i hk2
      have h2 := lw_le S' R' i hk2
      have h3 := ih k (by omega) i
      have h4 := ih (m - k) (by omega) (i + k + 1)
      unfold via cst at *
      dsimp only at *
      omega
def Mono (S : Nat → Int) : Prop := ∀ a b, a ≤ b → S a ≤ S b
theorem lw_nonneg {S R : Nat → Int} (hS : Mono S) (hR : Mono R) : ∀ m i, 0 ≤ lw S R i m := by
  intro m
  induction m using Nat.strongRecOn with
  | ind m ih =>
    intro i
    cases m with
    | zero => exact Int.le_refl _
    | succ m =>
      rw [lw_succ]
      have hk2 := rt_le S R i m
      generalize rt S R i m = k at hk2 ⊢
      have h3 := ih k (by omega) i
      have h4 := ih (m - k) (by omega) (i + k + 1)
      have h5 := hS i (i + k + 1) (by omega)
      have h6 := hR (i + k) (i + (m + 1)) (by omega)
      unfold via cst
      omega
theorem lw_last {S R : Nat → Int} (hS : Mono S) (hR : Mono R) : ∀ m i, lw S R i m + (S (i + m + 1) - S (i + m)) + (R (i + m + 1) - R (i + m)) ≤ lw S R i (m + 1) := by
  intro m
  induction m using Nat.strongRecOn with
  | ind m ih =>
    intro i
    rw [lw_succ]
    have hk2 := rt_le S R i m
    generalize rt S R i m = k at hk2 ⊢
    by_cases e : k = m
    · subst e
      unfold via cst
      rw [Nat.sub_self, lw_zero]
      have := hS i (i + k) (by omega)
      rw [show i + (k + 1) = i + k + 1 by omega]
      omega
    · obtain ⟨m', rfl⟩ : ∃ m', m = m' + 1 := ⟨m - 1, by omega⟩
      have h3 := ih (m' - k) (by omega) (i + k + 1)
      rw [show i + k + 1 + (m' - k) + 1 = i + (m' + 1) + 1 by omega, show i + k + 1 + (m' - k) = i + (m' + 1) by omega, show m' - k + 1 = m' + 1 - k by omega] at h3
      have h4 := lw_le S R i (show k ≤ m' by omega)
      have h5 := hR (i + (m' + 1)) (i + (m' + 1) + 1) (by omega)
      unfold via cst at *
      rw [show i + (m' + 1 + 1) = i + (m' + 1) + 1 by omega]
      omega
theorem lw_front {S R : Nat → Int} (hS : Mono S) (hR : Mono R) : ∀ m i, lw S R (i + 1) m ≤ lw S R i (m + 1) := by
  intro m
  induction m using Nat.strongRecOn with
  | ind m ih =>
    intro i
    rw [lw_succ S R i]
    have hk2 := rt_le S R i m
    generalize rt S R i m = k at hk2 ⊢
    cases k with
    | zero =>
      unfold via cst
      rw [lw_zero]
      have h5 := hS i (i + 0 + 1) (by omega)
      have h6 := hR (i + 0) (i + (m + 1)) (by omega)
      rw [Nat.sub_zero]
      rw [show i + 0 + 1 = i + 1 by omega] at *
      omega
    | succ k =>
      obtain ⟨m', rfl⟩ : ∃ m', m = m' + 1 := ⟨m - 1, by omega⟩
      have h3 := ih k (by omega) i
      have h4 := lw_le S R (i + 1) (show k ≤ m' by omega)
      have h5 := hS i (i + 1) (by omega)
      unfold via cst at *
      rw [show i + 1 + k + 1 = i + (k + 1) + 1 by omega, show i + 1 + (m' + 1) = i + (m' + 1 + 1) by omega, show i + 1 + k = i + (k + 1) by omega] at h4
      rw [show m' + 1 - (k + 1) = m' - k by omega]
      omega
theorem lw_join {S R : Nat → Int} (hS : Mono S) (hR : Mono R) {i m k : Nat} (h : k ≤ m) : lw S R i m ≤ lw S R i k + lw S R (i + k) (m - k) + (S (i + k) - S i + R (i + m) - R (i + k)) := by
  cases k with
  | zero =>
    rw [lw_zero, Nat.sub_zero, Nat.add_zero]
    have := hR i (i + m) (by omega)
    omega
  | succ k =>
    obtain ⟨m', rfl⟩ : ∃ m', m = m' + 1 := ⟨m - 1, by omega⟩
    have h1 := lw_last hS hR k i
    have h2 := lw_le S R i (show k ≤ m' by omega)
    have h3 := hS (i + k) (i + k + 1) (by omega)
    unfold via cst at h2
    rw [show m' + 1 - (k + 1) = m' - k by omega, show i + (k + 1) = i + k + 1 by omega]
    omega
def insS (S : Nat → Int) (p : Nat) : Nat → Int := fun j => if j ≤ p then S j else S (j - 1)
theorem lw_before {S R : Nat → Int} {p i m : Nat} (h : i + m ≤ p) : lw (insS S p) (insS R p) i m = lw S R i m := by
  refine (lw_shift (S := insS S p) (R := insS R p) (S' := S) (R' := R) (d := 0) (c := 0) (c' := 0) m i fun j h1 h2 => ?_).1
  unfold insS
  rw [if_pos (by omega), if_pos (by omega)]
  simp
theorem lw_behind {S R : Nat → Int} {p i m : Nat} (h : p < i) : lw S R (i - 1) m = lw (insS S p) (insS R p) i m := by
  have := (lw_shift (S := S) (R := R) (S' := insS S p) (R' := insS R p) (d := 1) (c := 0) (c' := 0) m (i - 1) fun j h1 h2 => ?_).1
  · rw [this, show i - 1 + 1 = i by omega]
  · unfold insS
    rw [if_neg (by omega), if_neg (by omega)]
    simp
theorem lw_ins {S R : Nat → Int} (hS : Mono S) (hR : Mono R) {p : Nat} : ∀ m i, i ≤ p → p ≤ i + m → lw S R i m ≤ lw (insS S p) (insS R p) i (m + 1) := by
  intro m
  induction m using Nat.strongRecOn with
  | ind m ih =>
    intro i hi hp
    rw [lw_succ (insS S p)]
    have hk2 := rt_le (insS S p) (insS R p) i m
    generalize rt (insS S p) (insS R p) i m = k at hk2 ⊢
    have sL : ∀ {F : Nat → Int} {j : Nat}, j ≤ p → insS F p j = F j := fun h => if_pos h
    have sR : ∀ {F : Nat → Int} {j : Nat}, p < j → insS F p j = F (j - 1) := fun h => if_neg (by omega)
    rcases Nat.lt_trichotomy (i + k) p with h | h | h
    · obtain ⟨m', rfl⟩ : ∃ m', m = m' + 1 := ⟨m - 1, by omega⟩
      have h1 := ih (m' - k) (by omega) (i + k + 1) (by omega) (by omega)
      rw [show m' - k + 1 = m' + 1 - k by omega] at h1
      have h2 := lw_le S R i (show k ≤ m' by omega)
      unfold via cst at *
      rw [lw_before (by omega), sL (F := S) (j := i + k + 1) (by omega), sL (F := S) (j := i) (by omega), sR (F := R) (j := i + (m' + 1 + 1)) (by omega), sL (F := R) (j := i + k) (by omega), show i + (m' + 1 + 1) - 1 = i + (m' + 1) by omega]
      omega
    · have h1 := lw_join hS hR (i := i) (m := m) (k := k) hk2
      unfold via cst
      rw [lw_before (by omega), ← lw_behind (by omega), sR (F := S) (j := i + k + 1) (by omega), sL (F := S) (j := i) (by omega), sR (F := R) (j := i + (m + 1)) (by omega), sL (F := R) (j := i + k) (by omega), show i + (m + 1) - 1 = i + m by omega, show i + k + 1 - 1 = i + k by omega]
      omega
    · obtain ⟨k', rfl⟩ : ∃ k', k = k' + 1 := ⟨k - 1, by omega⟩
      obtain ⟨m', rfl⟩ : ∃ m', m = m' + 1 := ⟨m - 1, by omega⟩
      have h1 := ih k' (by omega) i (by omega) (by omega)
      have h2 := lw_le S R i (show k' ≤ m' by omega)
      unfold via cst at *
      rw [← lw_behind (p := p) (i := i + (k' + 1) + 1) (by omega), sR (F := S) (j := i + (k' + 1) + 1) (by omega), sL (F := S) (j := i) (by omega), sR (F := R) (j := i + (m' + 1 + 1)) (by omega), sR (F := R) (j := i + (k' + 1)) (by omega), show i + (m' + 1 + 1) - 1 = i + (m' + 1) by omega, show i + (k' + 1) + 1 - 1 = i + k' + 1 by omega, show i + (k' + 1) - 1 = i + k' by omega, show m' + 1 - (k' + 1) = m' - k' by omega]
      omega
/-- sums of the first ones -/
def sm (l : List Int) (k : Nat) : Int := (l.take k).sum
theorem sm_zero (l : List Int) : sm l 0 = 0 := by simp [sm]
theorem sm_succ {l : List Int} {k : Nat} {x : Int} (h : l[k]? = some x) : sm l (k + 1) = sm l k + x := by
  unfold sm
  rw [List.take_add_one, h, Option.toList_some, List.sum_append]
  simp
theorem sm_mono {l : List Int} (h : ∀ x, x ∈ l → 0 ≤ x) : Mono (sm l) := by
  intro a b hab
  induction b with
  | zero => have : a = 0 := by omega
            subst this; exact Int.le_refl _
  | succ b ih =>
    by_cases e : a = b + 1
    · rw [e]; exact Int.le_refl _
    · have h1 := ih (by omega)
      cases hx : l[b]? with
      | none =>
        have : sm l (b + 1) = sm l b := by
          unfold sm
          rw [List.take_add_one, hx]
          simp
        omega
      | some x =>
        have := h x (List.mem_of_getElem? hx)
        rw [sm_succ hx]
        omega
end MB

set_option maxHeartbeats 4000000
namespace MB
open PySem PySem.Spec PyProof.Rows L2
/-! ### min of a list of pairs of ints -/
def dP (p : Int × Int) : PyData := .tuple [.int p.1, .int p.2]
theorem dP_toD (p : Int × Int) : PySem.W.Datum.toD p = dP p := rfl
theorem dP_map (ps : List (Int × Int)) : ps.map PySem.W.Datum.toD = ps.map dP := rfl
theorem depth_dP : ∀ ps : List (Int × Int), PyData.depthAll (ps.map dP) ≤ 1
  | [] => by simp [PyData.depthAll]
  | p :: ps => by
    have := depth_dP ps
    simp only [List.map_cons, PyData.depthAll, dP, PyData.depth] at *
    omega
theorem vals_at : ∀ {xs : List V} {its : List Value}, Vals xs its → ∀ {i : Nat} {v : Value}, its[i]? = some v → ∃ x, xs[i]? = some x ∧ RelV x v
  | _, _, .nil, i, v, h => by simp at h
  | _, _, .cons r rr, 0, v, h => by
    simp at h
    subst h
    exact ⟨_, rfl, r⟩
  | _, _, .cons r rr, i + 1, v, h => by
    obtain ⟨x, h1, h2⟩ := vals_at rr (i := i) (v := v) (by simpa using h)
    exact ⟨x, by simpa using h1, h2⟩
def rMinP (K : PySem.W.Frag) : List V → Hp → VK → Prop := fun xs H Q => ∃ (a : Addr) (us : List V) (p : Int × Int) (ps : List (Int × Int)), xs = [V.ref a] ∧ SqL K H a us ∧ DpAll K H us ((p :: ps).map dP) ∧ ∀ b, SqT K H b [V.int (PySem.W.minOf p ps).1, V.int (PySem.W.minOf p ps).2] → Q (.ref b) H
theorem minOf_mem (p : Int × Int) : ∀ ps : List (Int × Int), PySem.W.minOf p ps ∈ p :: ps := by
  intro ps
  unfold PySem.W.minOf
  induction ps generalizing p with
  | nil => simp
  | cons q ps ih =>
    rw [List.foldl_cons]
    have := ih (if PySem.W.DatumOrd.lt q p = true then q else p)
    rcases List.mem_cons.mp this with h | h
    · rw [h]
      split <;> simp
    · exact List.mem_cons_of_mem _ (List.mem_cons_of_mem _ h)
theorem cr_minP {X : Cx} {K : PySem.W.Frag} (hK : X.K = K) (hc : X.calm = true) (hu : X.A.units + 64 < cLine) : CallR X (.builtin "min") (rMinP K) := by
  subst hK
  intro pins s σ H vs us Q I r h
  obtain ⟨a, xs, p, ps, rfl, hs, hA, q⟩ := h
  obtain ⟨its, rv, hl, _⟩ := I.list hs
  rw [Vals.ref1 r]
  obtain ⟨as, rd⟩ := Dp.readsAll I _ _ its hA rv
  refine PySem.W.min_list_data (x := dP p) (xs := ps.map dP) (I.ok.hd hc) hl.isList (by simpa using rd) (PySem.W.alikeAll_datum (p :: ps)) ?_ fun i v h' tk bs hv hr hk => ?_
  · have := depth_dP (p :: ps)
    rw [List.map_cons] at this
    omega
  · have e := PySem.W.minD_map p ps
    rw [dP_map, dP_toD] at e
    rw [e, dP_toD] at hr
    generalize hm : PySem.W.minOf p ps = m at hr q
    obtain ⟨x, hx, rx⟩ := vals_at rv (i := i) (v := v) (by simpa using hv)
    have hi : i < ((p :: ps).map dP).length := by
      rw [← DpAll.len hA]
      exact (List.getElem?_eq_some_iff.mp hx).1
    obtain ⟨y, hy, hD⟩ := DpAll.get hA (List.getElem?_eq_getElem hi)
    rw [hx] at hy
    cases hy
    rw [List.getElem_map] at hD
    generalize (p :: ps)[i]'_ = pr at hD
    obtain ⟨m1, m2⟩ := m
    obtain ⟨n1, n2⟩ := pr
    obtain ⟨b, ys, rfl, hS, hB⟩ := Dp.tupInv hD
    have ey := dp_ints_inv (ns := [n1, n2]) hB
    subst ey
    cases rx
    obtain ⟨jts, rj, ho, _⟩ := I.tuple hS
    obtain ⟨o, ho1, ho2, n, ho3⟩ := ho
    have ho4 := hk _ _ ho1
    cases hr with
    | tuple g1 g2 g3 g4 =>
      rw [ho4] at g1
      cases g1
      rw [ho3] at g3
      cases g3
      cases rj with
      | cons r1 r2 =>
        cases r2 with
        | cons r3 r4 =>
          cases r4
          obtain ⟨t1, rfl⟩ := r1
          obtain ⟨t2, rfl⟩ := r3
          have e2 : (m1, m2) = (n1, n2) := by
            cases g4 with
            | cons k1 k2 =>
              cases k2 with
              | cons k3 k4 =>
                cases k1
                cases k3
                rfl
          refine ⟨.ref b, H, I.kept hk, rfl, q b ?_⟩
          rw [e2]
          exact hS
/-- the least pair, if the second ones ascend by one -/
theorem minOf_amin (f : Nat → Int) (b : Nat) : ∀ n, PySem.W.minOf (f 0, (b : Int)) ((List.range n).map fun j => (f (j + 1), ((b + (j + 1) : Nat) : Int))) = (f (amin f n), ((b + amin f n : Nat) : Int))
  | 0 => rfl
  | n + 1 => by
    have ih := minOf_amin f b n
    unfold PySem.W.minOf at ih ⊢
    rw [List.range_succ, List.map_append, List.foldl_append, ih]
    show (if (if f (n + 1) = f (amin f n) then decide (((b + (n + 1) : Nat) : Int) < ((b + amin f n : Nat) : Int)) else decide (f (n + 1) < f (amin f n))) = true then (f (n + 1), ((b + (n + 1) : Nat) : Int)) else (f (amin f n), ((b + amin f n : Nat) : Int))) = _
    have hl := amin_le f n
    have ea : amin f (n + 1) = if f (n + 1) < f (amin f n) then n + 1 else amin f n := rfl
    rw [ea]
    generalize amin f n = c at hl ⊢
    by_cases h1 : f (n + 1) = f c
    · rw [if_pos h1, if_neg (by simp; omega), if_neg (by omega)]
    · rw [if_neg h1]
      by_cases h2 : f (n + 1) < f c
      · rw [if_pos (by simpa using h2), if_pos h2]
      · rw [if_neg (by simpa using h2), if_neg h2]
/-! ### an index of a list or a tuple -/
def SqQ (K : PySem.W.Frag) (H : Hp) (a : Addr) (xs : List V) : Prop := SqL K H a xs ∨ SqT K H a xs
def rIxQ (K : PySem.W.Frag) : R2 := fun x y H Q => ∃ p xs i v, x = .ref p ∧ y = .int i ∧ SqQ K H p xs ∧ atI xs i = some v ∧ Q v H
theorem k_ixQ {X : Cx} {K : PySem.W.Frag} (hK : X.K = K) : IxR X (rIxQ K) := by
  subst hK
  intro value slice pins s σ H x y v u Q I rx ry h hs
  obtain ⟨p, xs, i, w, rfl, rfl, hq, ha, q⟩ := h
  rcases hq with hq | hq
  · exact ix_list value slice pins s σ H _ _ v u Q I rx ry ⟨p, xs, i, w, rfl, rfl, hq, ha, q⟩ hs
  · exact ix_tup value slice pins s σ H _ _ v u Q I rx ry ⟨p, xs, i, w, rfl, rfl, hq, ha, q⟩ hs
/-! ### zip of two tuples -/
theorem walk_zipT {K : PySem.W.Frag} {a b : Addr} {xs ys : List V} {n : Nat} (hn : n = min xs.length ys.length) : Walk (RZ.ItzT K a b) n (fun H => SqT K H a xs ∧ SqT K H b ys) (YPair (fun i => xs[i]?) (fun i => ys[i]?)) := by
  refine ⟨fun i H hi ⟨qx, qy⟩ => ⟨xs, ys, xs[i]'(by omega), ys[i]'(by omega), qx, qy, List.getElem?_eq_getElem (by omega), List.getElem?_eq_getElem (by omega)⟩, fun H ⟨qx, qy⟩ => ⟨xs, ys, qx, qy, by omega⟩, fun i H v H' hi ⟨qx, qy⟩ y => ?_⟩
  obtain ⟨T, u, z, e1, e2, e3, e4, e5⟩ := y
  exact ⟨T, u, z, e1, e2, e3, e4 xs qx, e5 ys qy⟩
end MB

set_option maxHeartbeats 4000000
namespace MB
open PySem PySem.Spec PyProof.Rows L2
/-! ### a tuple times a number from 1 on -/
theorem tuple_mul1 (l : Addr) (items : Array Value) (n : Nat) (dd : Option Addr) (sl : Array (Option Value)) (u : Tok) :
    Meets (Builtin.«tuple.__mul__» ⟨[.ref l, .int 1 u], []⟩) (fun _ R s => s.heap.get? l = some { cls := .type "tuple", dict := dd, data := .seq items n, slots := sl } ∧ R (.ok (.ret (Value.ref l))) s) :=
  .of_wp fun prog w A R s h => by
    obtain ⟨hp, g, d, tk, os⟩ := s
    obtain ⟨hl, h⟩ := h
    have f1 := AutoSeq1.idx_int
    have c1 : (items.isEmpty || ((1 : Int) == 1)) = true := by simp
    wp_walk using wpAny_loadPart' hl
    exact ⟨_, rfl, h⟩
def rRepQ (K : PySem.W.Frag) : R2 := fun x y H Q => ∃ l k xs, x = .ref l ∧ y = .int k ∧ SqT K H l xs ∧ xs ≠ [] ∧ 1 ≤ k ∧ k ≤ 1000 ∧ xs.length ≤ 1000 ∧ (k = 1 → Q (.ref l) H) ∧ ∀ p, H p = none → Q (.ref p) (upd H p (.tup (List.replicate k.toNat xs).flatten))
theorem op_repQ {X : Cx} : OpR X (binaryOp .Mult) (rRepQ X.K) := by
  intro pins s σ H x y v u Q I rx ry h
  obtain ⟨l, k, xs, rfl, rfl, hT, hne, g1, g2, hz, q1, q⟩ := h
  by_cases hk : k = 1
  · subst hk
    cases rx
    obtain ⟨t, rfl⟩ := ry
    obtain ⟨its, r, ⟨⟨cls, dd, data, sl⟩, ho, hc, n, hd⟩, hs⟩ := I.tuple hT
    simp only at hc hd
    subst hc hd
    refine wpAny_binaryOp_repeat_ref (T := "tuple") (U := "int") (by decide) ⟨_, ho, rfl⟩ (fun s' => typeIs_int s' 1 t) noFill_tuple_mul F.fills_int_mul F.slot_int_rmul repeat_tuple F.slot_int_index.lookup (call_meets F.slot_int_rmul (typeIs_int s 1 t) F.entry_int_rmul (F.args_int_rmul_2 _ _) (int_rmul_tuple 1 t l its.toArray n dd sl) ⟨ho, rfl, ⟨_, ho, rfl⟩, ?_⟩)
    exact call_meets F.slot_tuple_mul ⟨_, ho, rfl⟩ F.entry_tuple_mul (F.args_tuple_mul_2 _ _) (tuple_mul1 l its.toArray n dd sl t) ⟨ho, .ref l, H, I, rfl, q1 rfl⟩
  · exact op_repT pins s σ H _ _ v u Q I rx ry ⟨l, k, xs, rfl, rfl, hT, hne, by omega, g2, hz, q⟩
theorem rep_read {K : PySem.W.Frag} {H : Hp} {l : Addr} {k : Int} {xs : List V} {Q : VK} (h : SqT K H l xs) (hn : xs ≠ []) (h1 : 1 ≤ k) (h2 : k ≤ 1000) (hz : xs.length ≤ 1000) (q : ∀ p H', Same H H' → SqT K H' p (List.replicate k.toNat xs).flatten → Q (.ref p) H') : rRepQ K (.ref l) (.int k) H Q := by
  refine ⟨l, k, xs, rfl, rfl, h, hn, h1, h2, hz, fun e => q l H (Same.refl H) ?_, fun p np => q p _ (same_upd np) (.inl (.inl upd_same))⟩
  rw [e]
  simpa using h
end MB

set_option maxHeartbeats 4000000
namespace MB
open PySem PySem.Spec PyProof.Rows L2
/-! ### a tuple times a number from 0 on -/
theorem tuple_mul0 (l : Addr) (items : Array Value) (n : Nat) (dd : Option Addr) (sl : Array (Option Value)) (u : Tok) (hi : items.isEmpty = false) :
    Meets (Builtin.«tuple.__mul__» ⟨[.ref l, .int 0 u], []⟩) (fun _ R s => s.heap.get? l = some { cls := .type "tuple", dict := dd, data := .seq items n, slots := sl } ∧
      R (.ok (.ret (Value.ref s.heap.objs.size))) { s with heap := s.heap.push { cls := Value.type "tuple", data := Data.seq #[] } }) :=
  .of_wp fun prog w A R s h => by
    obtain ⟨hp, g, d, tk, os⟩ := s
    obtain ⟨hl, h⟩ := h
    have f1 := AutoSeq1.idx_int
    have c1 : (items.isEmpty || ((0 : Int) == 1)) = false := by rw [hi]; rfl
    have c2 : (decide ((0 : Int) ≤ 0) || items.isEmpty) = true := by simp
    wp_walk using wpAny_loadPart' hl
    repeat (first
      | (refine wpAny_ite_false (decide_eq_false (by rw [c1]; exact Bool.false_ne_true)) ?_; wp_walk using wpAny_loadPart' hl)
      | (refine wpAny_ite_true (decide_eq_true c2) ?_; wp_walk using wpAny_loadPart' hl))
    exact ⟨_, rfl, h⟩
def rRepZ (K : PySem.W.Frag) : R2 := fun x y H Q => ∃ l k xs, x = .ref l ∧ y = .int k ∧ SqT K H l xs ∧ xs ≠ [] ∧ 0 ≤ k ∧ k ≤ 1000 ∧ xs.length ≤ 1000 ∧ (k = 1 → Q (.ref l) H) ∧ ∀ p, H p = none → Q (.ref p) (upd H p (.tup (List.replicate k.toNat xs).flatten))
theorem op_repZ {X : Cx} : OpR X (binaryOp .Mult) (rRepZ X.K) := by
  intro pins s σ H x y v u Q I rx ry h
  obtain ⟨l, k, xs, rfl, rfl, hT, hne, g1, g2, hz, q1, q⟩ := h
  by_cases hk : k = 0
  · subst hk
    cases rx
    obtain ⟨t, rfl⟩ := ry
    obtain ⟨its, r, ⟨⟨cls, dd, data, sl⟩, ho, hc, n, hd⟩, hs⟩ := I.tuple hT
    simp only at hc hd
    subst hc hd
    have hle : its.length = xs.length := r.length.symm
    have hi : its.toArray.isEmpty = false := by
      cases its with
      | nil => exact absurd (List.eq_nil_of_length_eq_zero hle.symm) hne
      | cons a b => rfl
    refine wpAny_binaryOp_repeat_ref (T := "tuple") (U := "int") (by decide) ⟨_, ho, rfl⟩ (fun s' => typeIs_int s' 0 t) noFill_tuple_mul F.fills_int_mul F.slot_int_rmul repeat_tuple F.slot_int_index.lookup (call_meets F.slot_int_rmul (typeIs_int s 0 t) F.entry_int_rmul (F.args_int_rmul_2 _ _) (int_rmul_tuple 0 t l its.toArray n dd sl) ⟨ho, rfl, ⟨_, ho, rfl⟩, ?_⟩)
    refine call_meets F.slot_tuple_mul ⟨_, ho, rfl⟩ F.entry_tuple_mul (F.args_tuple_mul_2 _ _) (tuple_mul0 l its.toArray n dd sl t hi) ⟨ho, ?_⟩
    refine ⟨.ref s.heap.objs.size, _, I.laid (t' := s.toks) (o := .tup []) (fun b ob q => Heap.get?_push_of_some _ q) (Nat.le_refl _) ?_, rfl, q _ (I.hok.fresh (Nat.le_refl _))⟩
    exact ⟨Nat.zero_le _, [], .nil, IsTup.new _ _⟩
  · exact op_repQ pins s σ H _ _ v u Q I rx ry ⟨l, k, xs, rfl, rfl, hT, hne, by omega, g2, hz, q1, q⟩
theorem k_repZ {X : Cx} {K : PySem.W.Frag} (hK : X.K = K) : OpR X (binaryOp .Mult) (rRepZ K) := by subst hK; exact op_repZ
theorem repZ_read {K : PySem.W.Frag} {H : Hp} {l : Addr} {k : Nat} {xs : List V} {Q : VK} (h : SqT K H l xs) (hn : xs ≠ []) (h2 : k ≤ 1000) (hz : xs.length ≤ 1000) (q : ∀ p H', Same H H' → SqT K H' p (List.replicate k xs).flatten → Q (.ref p) H') : rRepZ K (.ref l) (.int (k : Int)) H Q := by
  refine ⟨l, (k : Int), xs, rfl, rfl, h, hn, by omega, by omega, hz, fun e => q l H (Same.refl H) ?_, fun p np => q p _ (same_upd np) (by rw [Int.toNat_natCast]; exact .inl (.inl upd_same))⟩
  have : k = 1 := by omega
  rw [this]
  simpa using h
end MB

set_option maxHeartbeats 4000000
namespace MB
open PySem PySem.Spec PyProof.Rows L2
def topS (i : Nat) : Stmt := PySem.Challenge.pw_mergebudget_k39_optimum_known_by_hand.main.body.getD i (.Pass ⟨0, 0, 0, 0⟩)
abbrev s_is_int : Stmt := topS 6
abbrev N_is_int : List Str := ["value"]
theorem sc_is_int : FnScope N_is_int ["value"] (defScope s_is_int) := ⟨rfl, rfl, rfl, by decide +kernel, rfl, by decide +kernel, by decide +kernel⟩
abbrev s_is_count : Stmt := topS 7
abbrev N_is_count : List Str := ["value"]
theorem sc_is_count : FnScope N_is_count ["value"] (defScope s_is_count) := ⟨rfl, rfl, rfl, by decide +kernel, rfl, by decide +kernel, by decide +kernel⟩
abbrev s_is_count_up_to : Stmt := topS 8
abbrev N_is_count_up_to : List Str := ["value", "most"]
theorem sc_is_count_up_to : FnScope N_is_count_up_to ["value", "most"] (defScope s_is_count_up_to) := ⟨rfl, rfl, rfl, by decide +kernel, rfl, by decide +kernel, by decide +kernel⟩
abbrev s_are_loads : Stmt := topS 9
abbrev N_are_loads : List Str := ["value", "fewest", "most", "load"]
theorem sc_are_loads : FnScope N_are_loads ["value", "fewest", "most"] (defScope s_are_loads) := ⟨rfl, rfl, rfl, by decide +kernel, rfl, by decide +kernel, by decide +kernel⟩
abbrev s_check_sizes : Stmt := topS 10
abbrev N_check_sizes : List Str := ["sizes", "fewest", "most"]
theorem sc_check_sizes : FnScope N_check_sizes ["sizes", "fewest", "most"] (defScope s_check_sizes) := ⟨rfl, rfl, rfl, by decide +kernel, rfl, by decide +kernel, by decide +kernel⟩
abbrev s_check_reads : Stmt := topS 11
abbrev N_check_reads : List Str := ["reads", "flushes"]
theorem sc_check_reads : FnScope N_check_reads ["reads", "flushes"] (defScope s_check_reads) := ⟨rfl, rfl, rfl, by decide +kernel, rfl, by decide +kernel, by decide +kernel⟩
abbrev s_check_loads : Stmt := topS 12
abbrev N_check_loads : List Str := ["sizes", "reads", "most"]
theorem sc_check_loads : FnScope N_check_loads ["sizes", "reads", "most"] (defScope s_check_loads) := ⟨rfl, rfl, rfl, by decide +kernel, rfl, by decide +kernel, by decide +kernel⟩
abbrev s_runs_at_end : Stmt := topS 15
abbrev N_runs_at_end : List Str := ["schedule"]
theorem sc_runs_at_end : FnScope N_runs_at_end ["schedule"] (defScope s_runs_at_end) := ⟨rfl, rfl, rfl, by decide +kernel, rfl, by decide +kernel, by decide +kernel⟩
abbrev s_least_work : Stmt := topS 17
abbrev N_least_work : List Str := ["sizes", "reads"]
theorem sc_least_work : FnScope N_least_work ["sizes", "reads"] (defScope s_least_work) := ⟨rfl, rfl, rfl, by decide +kernel, rfl, by decide +kernel, by decide +kernel⟩
abbrev s_least_of : Stmt := topS 18
abbrev N_least_of : List Str := ["sizes", "reads", "rows"]
theorem sc_least_of : FnScope N_least_of ["sizes", "reads"] (defScope s_least_of) := ⟨rfl, rfl, rfl, by decide +kernel, rfl, by decide +kernel, by decide +kernel⟩
abbrev s_least_rows : Stmt := topS 19
abbrev N_least_rows : List Str := ["sizes", "reads", "n", "sums", "rows", "start", "stop", "row"]
theorem sc_least_rows : FnScope N_least_rows ["sizes", "reads"] (defScope s_least_rows) := ⟨rfl, rfl, rfl, by decide +kernel, rfl, by decide +kernel, by decide +kernel⟩
abbrev s_load_sums : Stmt := topS 20
abbrev N_load_sums : List Str := ["sizes", "reads"]
theorem sc_load_sums : FnScope N_load_sums ["sizes", "reads"] (defScope s_load_sums) := ⟨rfl, rfl, rfl, by decide +kernel, rfl, by decide +kernel, by decide +kernel⟩
abbrev s_running_sums : Stmt := topS 21
abbrev N_running_sums : List Str := ["loads", "sums", "load"]
theorem sc_running_sums : FnScope N_running_sums ["loads"] (defScope s_running_sums) := ⟨rfl, rfl, rfl, by decide +kernel, rfl, by decide +kernel, by decide +kernel⟩
abbrev s_works_by_root : Stmt := topS 22
abbrev N_works_by_root : List Str := ["lefts", "rights", "sums", "start", "stop", "found", "root", "left", "right"]
theorem sc_works_by_root : FnScope N_works_by_root ["lefts", "rights", "sums", "start", "stop"] (defScope s_works_by_root) := ⟨rfl, rfl, rfl, by decide +kernel, rfl, by decide +kernel, by decide +kernel⟩
abbrev s_root_cost : Stmt := topS 23
abbrev N_root_cost : List Str := ["sums", "start", "stop", "root", "sizes", "reads"]
theorem sc_root_cost : FnScope N_root_cost ["sums", "start", "stop", "root"] (defScope s_root_cost) := ⟨rfl, rfl, rfl, by decide +kernel, rfl, by decide +kernel, by decide +kernel⟩
abbrev s_schedule_in : Stmt := topS 24
abbrev N_schedule_in : List Str := ["rows", "sums", "start", "stop", "root"]
theorem sc_schedule_in : FnScope N_schedule_in ["rows", "sums", "start", "stop"] (defScope s_schedule_in) := ⟨rfl, rfl, rfl, by decide +kernel, rfl, by decide +kernel, by decide +kernel⟩
abbrev s_least_root : Stmt := topS 25
abbrev N_least_root : List Str := ["lefts", "rights", "sums", "start", "stop"]
theorem sc_least_root : FnScope N_least_root ["lefts", "rights", "sums", "start", "stop"] (defScope s_least_root) := ⟨rfl, rfl, rfl, by decide +kernel, rfl, by decide +kernel, by decide +kernel⟩
abbrev s_joined : Stmt := topS 26
abbrev N_joined : List Str := ["left", "right"]
theorem sc_joined : FnScope N_joined ["left", "right"] (defScope s_joined) := ⟨rfl, rfl, rfl, by decide +kernel, rfl, by decide +kernel, by decide +kernel⟩
abbrev s_least_roots : Stmt := topS 27
abbrev N_least_roots : List Str := ["sizes", "reads", "n", "rows", "sums", "start", "stop"]
theorem sc_least_roots : FnScope N_least_roots ["sizes", "reads"] (defScope s_least_roots) := ⟨rfl, rfl, rfl, by decide +kernel, rfl, by decide +kernel, by decide +kernel⟩
abbrev s_L_pot : Stmt := topS 29
abbrev N_L_pot : List Str := ["_law_script", "_law_k", "_law_cell", "_law_far"]
theorem sc_L_pot : FnScope N_L_pot ["_law_script", "_law_k"] (defScope s_L_pot) := ⟨rfl, rfl, rfl, by decide +kernel, rfl, by decide +kernel, by decide +kernel⟩
abbrev s_L_take : Stmt := topS 30
abbrev N_L_take : List Str := ["_law_pot_here", "_law_wide", "_law_digit", "_law_primes", "_law_prime", "_law_drawn"]
theorem sc_L_take : FnScope N_L_take ["_law_pot_here", "_law_wide"] (defScope s_L_take) := ⟨rfl, rfl, rfl, by decide +kernel, rfl, by decide +kernel, by decide +kernel⟩
abbrev s_L_right : Stmt := topS 31
abbrev N_L_right : List Str := ["_law_pot_here", "_law_count", "_law_size", "_law_look", "_law_none", "_law_all_sizes", "_law_all_reads", "_law_roots", "_law_first", "_law_last", "_law_lone", "_law_kept", "_law_later", "_law_i"]
theorem sc_L_right : FnScope N_L_right ["_law_pot_here"] (defScope s_L_right) := ⟨rfl, rfl, rfl, by decide +kernel, rfl, by decide +kernel, by decide +kernel⟩
abbrev s_law : Stmt := topS 32
abbrev N_law : List Str := ["_law_script", "_law_k", "_law_works", "_law_count"]
theorem sc_law : FnScope N_law ["_law_script"] (defScope s_law) := ⟨rfl, rfl, rfl, by decide +kernel, rfl, by decide +kernel, by decide +kernel⟩
structure Tx (K : PySem.W.Frag) (mg : Str → Option Value) where
  a_is_int : Addr
  fd_is_int : FuncData
  f_is_int : Fun K "is_int" "is_int" s_is_int a_is_int fd_is_int
  g_is_int : mg "is_int" = some (.ref a_is_int)
  bd_is_int : Binds K fd_is_int ["value"] []
  a_is_count : Addr
  fd_is_count : FuncData
  f_is_count : Fun K "is_count" "is_count" s_is_count a_is_count fd_is_count
  g_is_count : mg "is_count" = some (.ref a_is_count)
  bd_is_count : Binds K fd_is_count ["value"] []
  a_is_count_up_to : Addr
  fd_is_count_up_to : FuncData
  f_is_count_up_to : Fun K "is_count_up_to" "is_count_up_to" s_is_count_up_to a_is_count_up_to fd_is_count_up_to
  g_is_count_up_to : mg "is_count_up_to" = some (.ref a_is_count_up_to)
  bd_is_count_up_to : Binds K fd_is_count_up_to ["value", "most"] []
  a_are_loads : Addr
  fd_are_loads : FuncData
  f_are_loads : Fun K "are_loads" "are_loads" s_are_loads a_are_loads fd_are_loads
  g_are_loads : mg "are_loads" = some (.ref a_are_loads)
  bd_are_loads : Binds K fd_are_loads ["value", "fewest", "most"] []
  a_check_sizes : Addr
  fd_check_sizes : FuncData
  f_check_sizes : Fun K "check_sizes" "check_sizes" s_check_sizes a_check_sizes fd_check_sizes
  g_check_sizes : mg "check_sizes" = some (.ref a_check_sizes)
  bd_check_sizes : Binds K fd_check_sizes ["sizes", "fewest", "most"] []
  a_check_reads : Addr
  fd_check_reads : FuncData
  f_check_reads : Fun K "check_reads" "check_reads" s_check_reads a_check_reads fd_check_reads
  g_check_reads : mg "check_reads" = some (.ref a_check_reads)
  bd_check_reads : Binds K fd_check_reads ["reads", "flushes"] []
  a_check_loads : Addr
  fd_check_loads : FuncData
  f_check_loads : Fun K "check_loads" "check_loads" s_check_loads a_check_loads fd_check_loads
  g_check_loads : mg "check_loads" = some (.ref a_check_loads)
  bd_check_loads : Binds K fd_check_loads ["sizes", "reads", "most"] []
  a_runs_at_end : Addr
  fd_runs_at_end : FuncData
  f_runs_at_end : Fun K "runs_at_end" "runs_at_end" s_runs_at_end a_runs_at_end fd_runs_at_end
  g_runs_at_end : mg "runs_at_end" = some (.ref a_runs_at_end)
  bd_runs_at_end : Binds K fd_runs_at_end ["schedule"] []
  a_least_work : Addr
  fd_least_work : FuncData
  f_least_work : Fun K "least_work" "least_work" s_least_work a_least_work fd_least_work
  g_least_work : mg "least_work" = some (.ref a_least_work)
  bd_least_work : Binds K fd_least_work ["sizes", "reads"] []
  a_least_of : Addr
  fd_least_of : FuncData
  f_least_of : Fun K "least_of" "least_of" s_least_of a_least_of fd_least_of
  g_least_of : mg "least_of" = some (.ref a_least_of)
  bd_least_of : Binds K fd_least_of ["sizes", "reads"] []
  a_least_rows : Addr
  fd_least_rows : FuncData
  f_least_rows : Fun K "least_rows" "least_rows" s_least_rows a_least_rows fd_least_rows
  g_least_rows : mg "least_rows" = some (.ref a_least_rows)
  bd_least_rows : Binds K fd_least_rows ["sizes", "reads"] []
  a_load_sums : Addr
  fd_load_sums : FuncData
  f_load_sums : Fun K "load_sums" "load_sums" s_load_sums a_load_sums fd_load_sums
  g_load_sums : mg "load_sums" = some (.ref a_load_sums)
  bd_load_sums : Binds K fd_load_sums ["sizes", "reads"] []
  a_running_sums : Addr
  fd_running_sums : FuncData
  f_running_sums : Fun K "running_sums" "running_sums" s_running_sums a_running_sums fd_running_sums
  g_running_sums : mg "running_sums" = some (.ref a_running_sums)
  bd_running_sums : Binds K fd_running_sums ["loads"] []
  a_works_by_root : Addr
  fd_works_by_root : FuncData
  f_works_by_root : Fun K "works_by_root" "works_by_root" s_works_by_root a_works_by_root fd_works_by_root
  g_works_by_root : mg "works_by_root" = some (.ref a_works_by_root)
  bd_works_by_root : Binds K fd_works_by_root ["lefts", "rights", "sums", "start", "stop"] []
  a_root_cost : Addr
  fd_root_cost : FuncData
  f_root_cost : Fun K "root_cost" "root_cost" s_root_cost a_root_cost fd_root_cost
  g_root_cost : mg "root_cost" = some (.ref a_root_cost)
  bd_root_cost : Binds K fd_root_cost ["sums", "start", "stop", "root"] []
  a_schedule_in : Addr
  fd_schedule_in : FuncData
  f_schedule_in : Fun K "schedule_in" "schedule_in" s_schedule_in a_schedule_in fd_schedule_in
  g_schedule_in : mg "schedule_in" = some (.ref a_schedule_in)
  bd_schedule_in : Binds K fd_schedule_in ["rows", "sums", "start", "stop"] []
  a_least_root : Addr
  fd_least_root : FuncData
  f_least_root : Fun K "least_root" "least_root" s_least_root a_least_root fd_least_root
  g_least_root : mg "least_root" = some (.ref a_least_root)
  bd_least_root : Binds K fd_least_root ["lefts", "rights", "sums", "start", "stop"] []
  a_joined : Addr
  fd_joined : FuncData
  f_joined : Fun K "joined" "joined" s_joined a_joined fd_joined
  g_joined : mg "joined" = some (.ref a_joined)
  bd_joined : Binds K fd_joined ["left", "right"] []
  a_least_roots : Addr
  fd_least_roots : FuncData
  f_least_roots : Fun K "least_roots" "least_roots" s_least_roots a_least_roots fd_least_roots
  g_least_roots : mg "least_roots" = some (.ref a_least_roots)
  bd_least_roots : Binds K fd_least_roots ["sizes", "reads"] []
  a_L_pot : Addr
  fd_L_pot : FuncData
  f_L_pot : Fun K "_law_pot" "_law_pot" s_L_pot a_L_pot fd_L_pot
  g_L_pot : mg "_law_pot" = some (.ref a_L_pot)
  bd_L_pot : Binds K fd_L_pot ["_law_script", "_law_k"] []
  a_L_take : Addr
  fd_L_take : FuncData
  f_L_take : Fun K "_law_take" "_law_take" s_L_take a_L_take fd_L_take
  g_L_take : mg "_law_take" = some (.ref a_L_take)
  bd_L_take : Binds K fd_L_take ["_law_pot_here", "_law_wide"] []
  a_L_right : Addr
  fd_L_right : FuncData
  f_L_right : Fun K "_law_right" "_law_right" s_L_right a_L_right fd_L_right
  g_L_right : mg "_law_right" = some (.ref a_L_right)
  bd_L_right : Binds K fd_L_right ["_law_pot_here"] []
  a_law : Addr
  fd_law : FuncData
  f_law : Fun K "law" "law" s_law a_law fd_law
  g_law : mg "law" = some (.ref a_law)
  bd_law : Binds K fd_law ["_law_script"] []
  b_isinstance : mg "isinstance" = none
  b_int : mg "int" = none
  b_bool : mg "bool" = none
  b_all : mg "all" = none
  b_tuple : mg "tuple" = none
  b_len : mg "len" = none
  b_sum : mg "sum" = none
  b_reversed : mg "reversed" = none
  b_range : mg "range" = none
  b_min : mg "min" = none
  b_abs : mg "abs" = none
  t_MOST_LOAD : Tok
  c_MOST_LOAD : mg "MOST_LOAD" = some (.int (1000000000) t_MOST_LOAD)
  t_MOST_FLUSHES : Tok
  c_MOST_FLUSHES : mg "MOST_FLUSHES" = some (.int (60) t_MOST_FLUSHES)
section
variable {P : Program} {w : World} {K : PySem.W.Frag} {mg : Str → Option Value} {base : Heap}
def sp_is_int (K : PySem.W.Frag) : Sp := fun vs H Q _ => ∃ i : Int, vs = [.int i] ∧ Q (.bl true) H
theorem ok_is_int (TX : Tx K mg) : FnOk P w K mg base CX0 1 TX.a_is_int TX.fd_is_int ["value"] (sp_is_int K) := by
  refine TX.f_is_int.ok sc_is_int (fun vs H Q E h => ?_) (fun cdv A outer s H vs Q E hr h => ?_)
  · obtain ⟨i, rfl, _⟩ := h; rfl
  · obtain ⟨i, rfl, q⟩ := h
    refine ⟨_, (pss_one (ps_ret (pe_and (pe_callB (id := "isinstance") (k_isi (K := K) rfl) (by rfl) TX.b_isinstance (by decide +kernel) (pa_cons (pv 0) (pa_cons (pe_bltn (v := .ty "int") (by rfl) TX.b_int (by decide +kernel) rfl) pa_nil))) (pe_one (pe_not (pe_callB (id := "isinstance") (k_isi (K := K) rfl) (by rfl) TX.b_isinstance (by decide +kernel) (pa_cons (pv 0) (pa_cons (pe_bltn (v := .ty "bool") (by rfl) TX.b_bool (by decide +kernel) rfl) pa_nil)))))))), ?_⟩
    refine ⟨.int i, rfl, .int i, .ty "int", .type "int", .type "int", true, rfl, .ty _, .base (.int i), kit_ty (by decide +kernel), true, rfl, ?_⟩
    exact iteT ⟨.int i, rfl, .int i, .ty "bool", .type "int", .type "bool", false, rfl, .ty _, .base (.int i), kit_ty (by decide +kernel), false, rfl, q⟩
def sp_is_count (K : PySem.W.Frag) : Sp := fun vs H Q _ => ∃ i : Int, vs = [.int i] ∧ Q (.bl (decide (0 ≤ i))) H
theorem ok_is_count (TX : Tx K mg) : FnOk P w K mg base CX0 2 TX.a_is_count TX.fd_is_count ["value"] (sp_is_count K) := by
  refine TX.f_is_count.ok sc_is_count (fun vs H Q E h => ?_) (fun cdv A outer s H vs Q E hr h => ?_)
  · obtain ⟨i, rfl, _⟩ := h; rfl
  · obtain ⟨i, rfl, q⟩ := h
    refine ⟨_, (pss_one (ps_ret (pe_and (pe_call (ok_is_int TX) (hr.mono (by decide)) (by rfl) TX.g_is_int TX.f_is_int.kp TX.bd_is_int .nil pass0 (pa_cons (pv 0) pa_nil)) (pe_one (pe_cmpR op_ge (pv 0) pe_int (nomark _)))))), ?_⟩
    exact ⟨.int i, rfl, i, rfl, true, rfl, iteT ⟨.int i, rfl, i, 0, rfl, rfl, q⟩⟩
def sp_is_count_up_to (K : PySem.W.Frag) : Sp := fun vs H Q _ => ∃ i m : Int, vs = [.int i, .int m] ∧ Q (.bl (decide (0 ≤ i) && decide (i ≤ m))) H
theorem ok_is_count_up_to (TX : Tx K mg) : FnOk P w K mg base CX0 3 TX.a_is_count_up_to TX.fd_is_count_up_to ["value", "most"] (sp_is_count_up_to K) := by
  refine TX.f_is_count_up_to.ok sc_is_count_up_to (fun vs H Q E h => ?_) (fun cdv A outer s H vs Q E hr h => ?_)
  · obtain ⟨i, m, rfl, _⟩ := h; rfl
  · obtain ⟨i, m, rfl, q⟩ := h
    refine ⟨_, (pss_one (ps_ret (pe_and (pe_call (ok_is_count TX) (hr.mono (by decide)) (by rfl) TX.g_is_count TX.f_is_count.kp TX.bd_is_count .nil pass0 (pa_cons (pv 0) pa_nil)) (pe_one (pe_cmpR op_le (pv 0) (pv 1) (nomark _)))))), ?_⟩
    refine ⟨.int i, rfl, i, rfl, _, rfl, ?_⟩
    by_cases h0 : 0 ≤ i
    · rw [decide_eq_true h0] at q ⊢
      exact iteT ⟨.int i, rfl, .int m, rfl, i, m, rfl, rfl, q⟩
    · rw [decide_eq_false h0] at q ⊢
      exact iteF q
end
theorem dpBoolsI {K : PySem.W.Frag} {H : Hp} : ∀ {vs : List V} {bs : List Bool}, DpAll K H vs (bs.map PyData.bool) → vs = bs.map V.bl
  | _, [], .nil => rfl
  | _, _ :: _, .cons a b => by
    cases a
    rw [dpBoolsI b]; rfl
section
variable {P : Program} {w : World} {K : PySem.W.Frag} {mg : Str → Option Value} {base : Heap}
/-- sizes or reads -/
def Lds (ns : List Int) : Prop := ∀ x, x ∈ ns → 0 ≤ x ∧ x ≤ 1000000000
def sp_are_loads (K : PySem.W.Frag) : Sp := fun vs H Q _ => ∃ (a : Addr) (ns : List Int) (lo hi : Int), vs = [.ref a, .int lo, .int hi] ∧ SqT K H a (ns.map V.int) ∧ Lds ns ∧ lo ≤ (ns.length : Int) ∧ (ns.length : Int) ≤ hi ∧ ns.length ≤ 1000 ∧ ∀ H', Same H H' → Q (.bl true) H'
theorem ok_are_loads (TX : Tx K mg) : FnOk P w K mg base CX0 4 TX.a_are_loads TX.fd_are_loads ["value", "fewest", "most"] (sp_are_loads K) := by
  refine TX.f_are_loads.ok sc_are_loads (fun vs H Q E h => ?_) (fun cdv A outer s H vs Q E hr h => ?_)
  · obtain ⟨a, ns, lo, hi, rfl, _⟩ := h; rfl
  · obtain ⟨a, ns, lo, hi, rfl, hS, hL, h1, h2, h3, q⟩ := h
    have hlen : ((ns.map V.int).length : Int) = (ns.length : Int) := by rw [List.length_map]
    refine ⟨_, (pss_cons (ps_if (PW.pt (pw_or (pt_not (pt_val (pe_callB (id := "isinstance") (k_isi (K := K) rfl) (by rfl) TX.b_isinstance (by decide +kernel) (pa_cons (pv 0) (pa_cons (pe_bltn (v := .ty "tuple") (by rfl) TX.b_tuple (by decide +kernel) rfl) pa_nil))))) (pw_or1 (pt_not (pt_chain op_le op_le (pv 1) (pe_callB (id := "len") (k_len (K := K) rfl) (by rfl) TX.b_len (by decide +kernel) (pa_cons (pv 0) pa_nil)) (pv 2))))))
        (pss_one (ps_ret pe_bl))
        pss_nil)
      (pss_one (ps_ret (pe_callB (id := "all") (cr_all rfl) (by rfl) TX.b_all (by decide +kernel) (pa_cons (pe_lc (own := [("load", 3)]) (by rfl) sc_are_loads.nd (k_piT (K := K) rfl (pv 0)) (blkOk_by (own := [("load", 3)]) (N := N_are_loads) (sc := defScope s_are_loads) (by decide +kernel)) (fun _ _ _ _ _ => (pg_name (i := 3) sc_are_loads.nd rfl (Or.inl rfl))) (fun _ _ _ _ _ => pts_nil) (fun _ _ _ _ _ => (pe_call (ok_is_count_up_to TX) (hr.mono (by decide)) (by rfl) TX.g_is_count_up_to TX.f_is_count_up_to.kp TX.bd_is_count_up_to .nil pass0 (pa_cons (pv 3) (pa_cons (pe_glob (v := .int (1000000000)) (by rfl) TX.c_MOST_LOAD ⟨_, rfl⟩) pa_nil))))) pa_nil))))), ?_⟩
    refine ⟨.ref a, rfl, .ref a, .ty "tuple", .type "tuple", .type "tuple", true, rfl, .ty _, ty_tup hS, kit_ty (by decide +kernel), true, rfl, iteF ⟨_, rfl, .ref a, rfl, a, _, rfl, .inr hS, _, _, rfl, rfl, _, rfl, ?_⟩⟩
    refine decT (by rw [hlen]; exact h1) ⟨_, rfl, _, _, rfl, rfl, _, rfl, iteB0 (by rw [hlen, decide_eq_true h2]; rfl) ?_⟩
    refine ⟨.ref a, rfl, a, rfl, ⟨_, hS⟩, fun D nD => ?_⟩
    refine lc_all (K := K) (walk_tup (xs := ns.map V.int)) ((List.replicate ns.length true).map PyData.bool) (by rw [List.length_map, List.length_replicate, List.length_map]) (fun d h => by obtain ⟨b, _, rfl⟩ := List.mem_map.mp h; exact .bl b) (by rw [List.length_map]; exact h3) nD (fun H' s' => Same.tup s' hS) ?_ ?_ (fun x σ' H' Q Q' h => h _ _) (fun σ' H' Q Q' h => h _ _)
    · rintro i x Hx Hx' hi sx ⟨rfl, hx⟩ d hd R hR
      rw [List.getElem?_map, Option.map_eq_some_iff] at hx
      obtain ⟨z, hz, rfl⟩ := hx
      have hz2 := hL z (List.mem_of_getElem? hz)
      refine ⟨rfl, rfl, _, rfl, z, 1000000000, rfl, hR _ _ (Same.refl _) ?_⟩
      rw [decide_eq_true hz2.1, decide_eq_true hz2.2]
      rw [List.getElem?_map, List.getElem?_replicate, if_pos (by rw [List.length_map] at hi; exact hi)] at hd
      cases hd
      exact .bl true
    · intro H2 acc s2 ha hA
      rw [dpBoolsI hA] at ha
      refine ⟨D, List.replicate ns.length true, rfl, .inl (.inl ha), ?_⟩
      have e : (List.replicate ns.length true).all id = true := by simp
      rw [e]
      exact q _ s2
def sp_check_sizes (K : PySem.W.Frag) : Sp := fun vs H Q _ => ∃ (a : Addr) (ns : List Int) (lo hi : Int), vs = [.ref a, .int lo, .int hi] ∧ SqT K H a (ns.map V.int) ∧ Lds ns ∧ lo ≤ (ns.length : Int) ∧ (ns.length : Int) ≤ hi ∧ ns.length ≤ 1000 ∧ ∀ H', Same H H' → Q .non H'
theorem ok_check_sizes (TX : Tx K mg) : FnOk P w K mg base CX0 5 TX.a_check_sizes TX.fd_check_sizes ["sizes", "fewest", "most"] (sp_check_sizes K) := by
  refine TX.f_check_sizes.ok sc_check_sizes (fun vs H Q E h => ?_) (fun cdv A outer s H vs Q E hr h => ?_)
  · obtain ⟨a, ns, lo, hi, rfl, _⟩ := h; rfl
  · obtain ⟨a, ns, lo, hi, rfl, hS, hL, h1, h2, h3, q⟩ := h
    refine ⟨_, (pss_one (ps_if (pt_not (pt_val (pe_call (ok_are_loads TX) (hr.mono (by decide)) (by rfl) TX.g_are_loads TX.f_are_loads.kp TX.bd_are_loads .nil pass0 (pa_cons (pv 0) (pa_cons (pv 1) (pa_cons (pv 2) pa_nil))))))
        (pss_one ps_never)
        pss_nil)), ?_⟩
    exact ⟨.ref a, rfl, .int lo, rfl, .int hi, rfl, a, ns, lo, hi, rfl, hS, hL, h1, h2, h3, fun H' s' => ⟨true, rfl, iteF (q H' s')⟩⟩
def sp_check_reads (K : PySem.W.Frag) : Sp := fun vs H Q _ => ∃ (a : Addr) (ns : List Int), vs = [.ref a, .int (ns.length : Int)] ∧ SqT K H a (ns.map V.int) ∧ Lds ns ∧ ns.length ≤ 1000 ∧ ∀ H', Same H H' → Q .non H'
theorem ok_check_reads (TX : Tx K mg) : FnOk P w K mg base CX0 5 TX.a_check_reads TX.fd_check_reads ["reads", "flushes"] (sp_check_reads K) := by
  refine TX.f_check_reads.ok sc_check_reads (fun vs H Q E h => ?_) (fun cdv A outer s H vs Q E hr h => ?_)
  · obtain ⟨a, ns, rfl, _⟩ := h; rfl
  · obtain ⟨a, ns, rfl, hS, hL, h3, q⟩ := h
    refine ⟨_, (pss_one (ps_if (pt_not (pt_val (pe_call (ok_are_loads TX) (hr.mono (by decide)) (by rfl) TX.g_are_loads TX.f_are_loads.kp TX.bd_are_loads .nil pass0 (pa_cons (pv 0) (pa_cons (pv 1) (pa_cons (pv 1) pa_nil))))))
        (pss_one ps_never)
        pss_nil)), ?_⟩
    exact ⟨.ref a, rfl, .int _, rfl, .int _, rfl, a, ns, _, _, rfl, hS, hL, Int.le_refl _, Int.le_refl _, h3, fun H' s' => ⟨true, rfl, iteF (q H' s')⟩⟩
def sp_check_loads (K : PySem.W.Frag) : Sp := fun vs H Q _ => ∃ (a b : Addr) (ss rs : List Int) (m : Int), vs = [.ref a, .ref b, .int m] ∧ SqT K H a (ss.map V.int) ∧ SqT K H b (rs.map V.int) ∧ Lds ss ∧ Lds rs ∧ ss.length = rs.length ∧ (ss.length : Int) ≤ m ∧ ss.length ≤ 1000 ∧ ∀ H', Same H H' → Q .non H'
theorem ok_check_loads (TX : Tx K mg) : FnOk P w K mg base CX0 6 TX.a_check_loads TX.fd_check_loads ["sizes", "reads", "most"] (sp_check_loads K) := by
  refine TX.f_check_loads.ok sc_check_loads (fun vs H Q E h => ?_) (fun cdv A outer s H vs Q E hr h => ?_)
  · obtain ⟨a, b, ss, rs, m, rfl, _⟩ := h; rfl
  · obtain ⟨a, b, ss, rs, m, rfl, hA, hB, hs, hr', he, h1, h3, q⟩ := h
    refine ⟨_, (pss_cons (ps_expr (pe_call (ok_check_sizes TX) (hr.mono (by decide)) (by rfl) TX.g_check_sizes TX.f_check_sizes.kp TX.bd_check_sizes .nil pass0 (pa_cons (pv 0) (pa_cons pe_int (pa_cons (pv 2) pa_nil)))))
      (pss_one (ps_expr (pe_call (ok_check_reads TX) (hr.mono (by decide)) (by rfl) TX.g_check_reads TX.f_check_reads.kp TX.bd_check_reads .nil pass0 (pa_cons (pv 1) (pa_cons (pe_callB (id := "len") (k_len (K := K) rfl) (by rfl) TX.b_len (by decide +kernel) (pa_cons (pv 0) pa_nil)) pa_nil)))))), ?_⟩
    refine ⟨.ref a, rfl, .int m, rfl, a, ss, 0, m, rfl, hA, hs, by omega, h1, h3, fun H1 s1 => ?_⟩
    refine ⟨.ref b, rfl, .ref a, rfl, a, _, rfl, .inr (Same.tup s1 hA), b, rs, ?_, Same.tup s1 hB, hr', by omega, fun H2 s2 => q _ (s1.trans s2)⟩
    rw [List.length_map, he]; rfl
end
/-- the sums of the first ones, as values -/
def sms (ns : List Int) : List V := (List.range (ns.length + 1)).map fun k => V.int (sm ns k)
theorem sms_len (ns : List Int) : (sms ns).length = ns.length + 1 := by simp [sms]
theorem sms_at {ns : List Int} {k : Nat} (h : k ≤ ns.length) : (sms ns)[k]? = some (.int (sm ns k)) := by
  unfold sms
  rw [List.getElem?_map, List.getElem?_range (by omega)]; rfl
def Sms (K : PySem.W.Frag) (H : Hp) (v : V) (ss rs : List Int) : Prop := ∃ a b c, v = .ref a ∧ SqT K H a [.ref b, .ref c] ∧ SqL K H b (sms ss) ∧ SqL K H c (sms rs)
theorem Sms.same {K : PySem.W.Frag} {H H' : Hp} {v : V} {ss rs : List Int} (h : Sms K H v ss rs) (e : Same H H') : Sms K H' v ss rs := by
  obtain ⟨a, b, c, h1, h2, h3, h4⟩ := h
  exact ⟨a, b, c, h1, Same.tup e h2, e.seq h3, e.seq h4⟩
theorem SqQ.same {K : PySem.W.Frag} {H H' : Hp} {a : Addr} {xs : List V} (h : SqQ K H a xs) (e : Same H H') : SqQ K H' a xs := by
  rcases h with h | h
  · exact .inl (e.seq h)
  · exact .inr (Same.tup e h)
/-- v[i][k] is x -/
def Rd (K : PySem.W.Frag) (H : Hp) (v : V) (i k : Nat) (x : Int) : Prop := ∃ a xs b ys, v = .ref a ∧ SqQ K H a xs ∧ xs[i]? = some (.ref b) ∧ SqQ K H b ys ∧ ys[k]? = some (.int x)
theorem Rd.same {K : PySem.W.Frag} {H H' : Hp} {v : V} {i k : Nat} {x : Int} (h : Rd K H v i k x) (e : Same H H') : Rd K H' v i k x := by
  obtain ⟨a, xs, b, ys, h1, h2, h3, h4, h5⟩ := h
  exact ⟨a, xs, b, ys, h1, h2.same e, h3, h4.same e, h5⟩
def wbr (S R : Nat → Int) (i m : Nat) : List (Int × Int) := (List.range m).map fun k => (lw S R i k + lw S R (i + k + 1) (m - 1 - k) + cst S R i m k, ((i + k : Nat) : Int))
theorem wbr_via (S R : Nat → Int) (i m : Nat) : wbr S R i (m + 1) = (via S R i m 0, ((i : Nat) : Int)) :: (List.range m).map fun j => (via S R i m (j + 1), ((i + (j + 1) : Nat) : Int)) := by
  unfold wbr
  rw [List.range_succ_eq_map, List.map_cons, List.map_map]
  rfl
theorem wbr_min (S R : Nat → Int) (i m : Nat) : PySem.W.minOf (via S R i m 0, ((i : Nat) : Int)) ((List.range m).map fun j => (via S R i m (j + 1), ((i + (j + 1) : Nat) : Int))) = (lw S R i (m + 1), ((i + rt S R i m : Nat) : Int)) := by
  rw [minOf_amin, lw_succ]; rfl
section
variable {P : Program} {w : World} {K : PySem.W.Frag} {mg : Str → Option Value} {base : Heap}
def sp_running_sums (K : PySem.W.Frag) : Sp := fun vs H Q _ => ∃ (a : Addr) (ns : List Int), vs = [.ref a] ∧ SqT K H a (ns.map V.int) ∧ ns.length ≤ 1000 ∧ ∀ H' p, Same H H' → H p = none → H' p = some (.lst (sms ns)) → Q (.ref p) H'
theorem ok_running_sums (TX : Tx K mg) : FnOk P w K mg base CX0 1 TX.a_running_sums TX.fd_running_sums ["loads"] (sp_running_sums K) := by
  refine TX.f_running_sums.ok sc_running_sums (fun vs H Q E h => ?_) (fun cdv A outer s H vs Q E hr h => ?_)
  · obtain ⟨a, ns, rfl, _⟩ := h; rfl
  · obtain ⟨a, ns, rfl, hS, h3, q⟩ := h
    refine ⟨_, (pss_cons (ps_set (i := 1) sc_running_sums.nd rfl (.inl rfl) (pe_lst (pa_cons pe_int pa_nil)))
      (pss_cons (ps_for PassesOwn.never rfl (k_piT (K := K) rfl (pv 0)) (pg_name (i := 2) sc_running_sums.nd rfl (.inl rfl))
        (pss_one (ps_expr (pe_bm PySem.F.plainAttrs_list PySem.F.slot_list_append PySem.F.type_list_append mt_append (pv 1) (pa_cons (pe_op op_add (pe_ix (k_ixL (K := K) rfl) (pv 1) (pe_un un_neg pe_int) (fun _ _ => rfl)) (pv 2)) pa_nil)))))
      (pss_one (ps_ret (pv 1))))), ?_⟩
    refine ⟨sz60 (by simp), fun l nl => ?_⟩
    have s1 := same_upd (o := .lst [V.int 0]) nl
    refine ⟨.ref a, rfl, a, rfl, ⟨_, Same.tup s1 hS⟩, for_tup (K := K) (xs := ns.map V.int) (fun i σ H' => ∃ y2, σ = [some (.ref a), some (.ref l), y2] ∧ Same H H' ∧ H' l = some (.lst ((List.range (i + 1)).map fun k => V.int (sm ns k)))) ⟨none, rfl, s1, by rw [upd_same]; simp [sm_zero]⟩ (fun i σ H' _ ⟨_, _, h, _⟩ => Same.tup h hS) ?_ ?_⟩
    · rintro i x σ H2 hx ⟨y2, rfl, s2, h2⟩
      rw [List.getElem?_map, Option.map_eq_some_iff] at hx
      obtain ⟨z, hz, rfl⟩ := hx
      have hi : i < ns.length := (List.getElem?_eq_some_iff.mp hz).1
      have e1 : ((List.range (i + 1)).map fun k => V.int (sm ns k)) = ((List.range i).map fun k => V.int (sm ns k)) ++ [V.int (sm ns i)] := by rw [List.range_succ, List.map_append]; rfl
      refine ⟨.ref l, rfl, .inl ⟨rfl, _, .inl (.inl h2)⟩, .ref l, rfl, _, rfl, l, _, -1, _, rfl, rfl, .inl (.inl h2), (by rw [e1]; exact atI_last _ _), _, rfl, _, _, rfl, rfl, l, _, _, rfl, rfl, h2, sz61 (by simp; omega), ?_⟩
      refine ⟨_, rfl, Same.mut s2 nl, ?_⟩
      rw [upd_same, List.range_succ (n := i + 1), List.map_append]
      show _ = some (HO.lst (_ ++ [V.int (sm ns (i + 1))]))
      rw [sm_succ hz]
    · rintro σ H2 ⟨y2, rfl, s2, h2⟩
      rw [List.length_map] at h2
      exact ⟨_, rfl, q _ l s2 nl h2⟩
def sp_load_sums (K : PySem.W.Frag) : Sp := fun vs H Q _ => ∃ (a b : Addr) (ss rs : List Int), vs = [.ref a, .ref b] ∧ SqT K H a (ss.map V.int) ∧ SqT K H b (rs.map V.int) ∧ ss.length ≤ 1000 ∧ rs.length ≤ 1000 ∧ ∀ H' p, Same H H' → Sms K H' (.ref p) ss rs → Q (.ref p) H'
theorem ok_load_sums (TX : Tx K mg) : FnOk P w K mg base CX0 2 TX.a_load_sums TX.fd_load_sums ["sizes", "reads"] (sp_load_sums K) := by
  refine TX.f_load_sums.ok sc_load_sums (fun vs H Q E h => ?_) (fun cdv A outer s H vs Q E hr h => ?_)
  · obtain ⟨a, b, ss, rs, rfl, _⟩ := h; rfl
  · obtain ⟨a, b, ss, rs, rfl, hA, hB, h1, h2, q⟩ := h
    refine ⟨_, (pss_one (ps_ret (pe_tup (pa_cons (pe_call (ok_running_sums TX) (hr.mono (by decide)) (by rfl) TX.g_running_sums TX.f_running_sums.kp TX.bd_running_sums .nil pass0 (pa_cons (pv 0) pa_nil)) (pa_cons (pe_call (ok_running_sums TX) (hr.mono (by decide)) (by rfl) TX.g_running_sums TX.f_running_sums.kp TX.bd_running_sums .nil pass0 (pa_cons (pv 1) pa_nil)) pa_nil))))), ?_⟩
    refine ⟨.ref a, rfl, a, ss, rfl, hA, h1, fun H1 p1 s1 n1 hp1 => ⟨.ref b, rfl, b, rs, rfl, Same.tup s1 hB, h2, fun H2 p2 s2 n2 hp2 => ⟨sz60 (by simp), fun p np => ?_⟩⟩⟩
    have s3 := same_upd (o := .tup [V.ref p1, V.ref p2]) np
    exact q _ p ((s1.trans s2).trans s3) ⟨p, p1, p2, rfl, .inl (.inl upd_same), .inl (.inl (s3 _ _ (s2 _ _ hp1))), .inl (.inl (s3 _ _ hp2))⟩
def sp_root_cost (K : PySem.W.Frag) : Sp := fun vs H Q _ => ∃ (v : V) (ss rs : List Int) (i m k : Nat), vs = [v, .int (i : Int), .int ((i + m : Nat) : Int), .int ((i + k : Nat) : Int)] ∧ Sms K H v ss rs ∧ i + m ≤ ss.length ∧ i + m ≤ rs.length ∧ k < m ∧ Q (.int (cst (sm ss) (sm rs) i m k)) H
theorem ok_root_cost (TX : Tx K mg) : FnOk P w K mg base CX0 1 TX.a_root_cost TX.fd_root_cost ["sums", "start", "stop", "root"] (sp_root_cost K) := by
  refine TX.f_root_cost.ok sc_root_cost (fun vs H Q E h => ?_) (fun cdv A outer s H vs Q E hr h => ?_)
  · obtain ⟨v, ss, rs, i, m, k, rfl, _⟩ := h; rfl
  · obtain ⟨v, ss, rs, i, m, k, rfl, ⟨a, b, c, rfl, hA, hB, hC⟩, h1, h2, h3, q⟩ := h
    refine ⟨_, (pss_cons (ps_asg (pv 0) (pg_tup rfl (pgs_cons (pg_name (i := 4) sc_root_cost.nd rfl (.inl rfl)) (pgs_cons (pg_name (i := 5) sc_root_cost.nd rfl (.inl rfl)) pgs_nil))))
      (pss_one (ps_ret (pe_op op_sub (pe_op op_add (pe_op op_sub (pe_ix (k_ixL (K := K) rfl) (pv 4) (pe_op op_add (pv 3) pe_int) (fun _ _ => rfl)) (pe_ix (k_ixL (K := K) rfl) (pv 4) (pv 1) (fun _ _ => rfl))) (pe_ix (k_ixL (K := K) rfl) (pv 5) (pv 2) (fun _ _ => rfl))) (pe_ix (k_ixL (K := K) rfl) (pv 5) (pv 3) (fun _ _ => rfl)))))), ?_⟩
    have e1 : ((i + k : Nat) : Int) + 1 = ((i + k + 1 : Nat) : Int) := by omega
    refine ⟨.ref a, rfl, a, _, rfl, hA, rfl, _, _, rfl, _, [], rfl, rfl, ?_⟩
    refine ⟨.ref b, rfl, _, rfl, _, _, rfl, rfl, b, _, _, _, rfl, rfl, hB, (by rw [e1]; exact atI_nat (sms_at (by omega))), .ref b, rfl, _, rfl, b, _, _, _, rfl, rfl, hB, atI_nat (sms_at (by omega)), _, _, rfl, rfl, ?_⟩
    refine ⟨.ref c, rfl, _, rfl, c, _, _, _, rfl, rfl, hC, atI_nat (sms_at (by omega)), _, _, rfl, rfl, .ref c, rfl, _, rfl, c, _, _, _, rfl, rfl, hC, atI_nat (sms_at (by omega)), _, _, rfl, rfl, q⟩
end
section
variable {P : Program} {w : World} {K : PySem.W.Frag} {mg : Str → Option Value} {base : Heap}
theorem tf_dP (p : Int × Int) : Tf (dP p) := .tup fun d h => by
  rcases List.mem_cons.mp h with rfl | h
  · exact .int _
  · rcases List.mem_cons.mp h with rfl | h
    · exact .int _
    · cases h
theorem dp_dP {K : PySem.W.Frag} {H : Hp} {a : Addr} {x y : Int} (h : SqT K H a [V.int x, V.int y]) : Dp K H (.ref a) (dP (x, y)) := .tup h (dp_ints [x, y])
/-- what the roots of the m flushes from i on ask of two tables -/
def Rds (K : PySem.W.Frag) (H : Hp) (v u : V) (S R : Nat → Int) (i m : Nat) : Prop := (∀ k, k < m → Rd K H v i k (lw S R i k)) ∧ ∀ k, k < m → Rd K H u (i + k + 1) (m - 1 - k) (lw S R (i + k + 1) (m - 1 - k))
theorem Rds.same {K : PySem.W.Frag} {H H' : Hp} {v u : V} {S R : Nat → Int} {i m : Nat} (h : Rds K H v u S R i m) (e : Same H H') : Rds K H' v u S R i m :=
  ⟨fun k hk => (h.1 k hk).same e, fun k hk => (h.2 k hk).same e⟩
def sp_works_by_root (K : PySem.W.Frag) : Sp := fun vs H Q _ => ∃ (v u z : V) (ss rs : List Int) (i m : Nat), vs = [v, u, z, .int (i : Int), .int ((i + m : Nat) : Int)] ∧ Sms K H z ss rs ∧ i + m ≤ ss.length ∧ i + m ≤ rs.length ∧ ss.length ≤ 1000 ∧ Rds K H v u (sm ss) (sm rs) i m ∧
  ∀ H' p us, Same H H' → H p = none → H' p = some (.lst us) → DpAll K H' us ((wbr (sm ss) (sm rs) i m).map dP) → Q (.ref p) H'
theorem ok_works_by_root (TX : Tx K mg) : FnOk P w K mg base CX0 2 TX.a_works_by_root TX.fd_works_by_root ["lefts", "rights", "sums", "start", "stop"] (sp_works_by_root K) := by
  refine TX.f_works_by_root.ok sc_works_by_root (fun vs H Q E h => ?_) (fun cdv A outer s H vs Q E hr h => ?_)
  · obtain ⟨v, u, z, ss, rs, i, m, rfl, _⟩ := h; rfl
  · obtain ⟨v, u, z, ss, rs, i, m, rfl, hZ, h1, h2, h3, hR, q⟩ := h
    refine ⟨_, (pss_cons (ps_set (i := 5) sc_works_by_root.nd rfl (.inl rfl) (pe_lst pa_nil))
      (pss_cons (ps_for PassesOwn.never rfl (pi_range2 (by rfl) TX.b_range (pa_cons (pv 3) (pa_cons (pv 4) pa_nil))) (pg_name (i := 6) sc_works_by_root.nd rfl (.inl rfl))
        (pss_cons (ps_set (i := 7) sc_works_by_root.nd rfl (.inl rfl) (pe_ix (k_ixQ (K := K) rfl) (pe_ix (k_ixQ (K := K) rfl) (pv 0) (pv 3) (fun _ _ => rfl)) (pe_op op_sub (pv 6) (pv 3)) (fun _ _ => rfl)))
        (pss_cons (ps_set (i := 8) sc_works_by_root.nd rfl (.inl rfl) (pe_ix (k_ixQ (K := K) rfl) (pe_ix (k_ixQ (K := K) rfl) (pv 1) (pe_op op_add (pv 6) pe_int) (fun _ _ => rfl)) (pe_op op_sub (pe_op op_sub (pv 4) (pv 6)) pe_int) (fun _ _ => rfl)))
        (pss_one (ps_if (PW.pt (pw_and (pt_cmpR op_notN (pv 7) pe_non (nomark _)) (pw_and1 (pt_cmpR op_notN (pv 8) pe_non (nomark _)))))
          (pss_one (ps_expr (pe_bm PySem.F.plainAttrs_list PySem.F.slot_list_append PySem.F.type_list_append mt_append (pv 5) (pa_cons (pe_tup (pa_cons (pe_op op_add (pe_op op_add (pv 7) (pv 8)) (pe_call (ok_root_cost TX) (hr.mono (by decide)) (by rfl) TX.g_root_cost TX.f_root_cost.kp TX.bd_root_cost .nil pass0 (pa_cons (pv 2) (pa_cons (pv 3) (pa_cons (pv 4) (pa_cons (pv 6) pa_nil)))))) (pa_cons (pv 6) pa_nil))) pa_nil))))
          pss_nil)))))
      (pss_one (ps_ret (pv 5))))), ?_⟩
    refine ⟨sz60 (by simp), fun l nl => ?_⟩
    have s1 := same_upd (o := .lst []) nl
    have en : ((((i + m : Nat) : Int)) - ((i : Nat) : Int)).toNat = m := by omega
    refine ⟨_, rfl, _, rfl, _, _, rfl, ⟨by omega, by omega, by omega, by omega⟩, ?_⟩
    refine for_range (lo := ((i : Nat) : Int)) (fun j σ H' => ∃ y6 y7 y8 us, σ = [some v, some u, some z, some (.int (i : Int)), some (.int ((i + m : Nat) : Int)), some (.ref l), y6, y7, y8] ∧ Same H H' ∧ H' l = some (.lst us) ∧ DpAll K H' us (((wbr (sm ss) (sm rs) i m).take j).map dP)) ⟨none, none, none, [], rfl, s1, upd_same, .nil⟩ ?_ ?_
    · rintro j σ H2 hj ⟨y6, y7, y8, us, rfl, s2, hl, hA⟩
      rw [en] at hj
      obtain ⟨a, xs, b, ys, rfl, g1, g2, g3, g4⟩ := (hR.1 j hj).same s2
      obtain ⟨a', xs', b', ys', rfl, k1, k2, k3, k4⟩ := (hR.2 j hj).same s2
      have e1 : ((i : Nat) : Int) + ((j : Nat) : Int) = ((i + j : Nat) : Int) := by omega
      have e2 : ((i + j : Nat) : Int) - ((i : Nat) : Int) = ((j : Nat) : Int) := by omega
      have e3 : ((i + j : Nat) : Int) + 1 = ((i + j + 1 : Nat) : Int) := by omega
      have e4 : ((i + m : Nat) : Int) - ((i + j : Nat) : Int) - 1 = ((m - 1 - j : Nat) : Int) := by omega
      rw [e1]
      refine ⟨_, rfl, _, rfl, a, xs, _, _, rfl, rfl, g1, atI_nat g2, _, rfl, _, rfl, _, _, rfl, rfl, b, ys, _, _, rfl, rfl, g3, (by rw [e2]; exact atI_nat g4), ?_⟩
      refine ⟨_, rfl, _, rfl, _, _, rfl, rfl, a', xs', _, _, rfl, rfl, k1, (by rw [e3]; exact atI_nat k2), _, rfl, _, rfl, _, _, rfl, rfl, _, _, rfl, rfl, b', ys', _, _, rfl, rfl, k3, (by rw [e4]; exact atI_nat k4), ?_⟩
      refine ⟨_, rfl, rfl, _, rfl, iteB1 (by simp) ⟨_, rfl, rfl, _, rfl, iteB1 (by simp) ?_⟩⟩
      refine ⟨.ref l, rfl, .inl ⟨rfl, _, .inl (.inl hl)⟩, _, rfl, _, rfl, _, _, rfl, rfl, z, rfl, _, rfl, _, rfl, _, rfl, z, ss, rs, i, m, j, rfl, hZ.same s2, h1, h2, hj, _, _, rfl, rfl, _, rfl, sz60 (by simp), fun p np => ?_⟩
      have s3 := same_upd (o := .tup [V.int (lw (sm ss) (sm rs) i j + lw (sm ss) (sm rs) (i + j + 1) (m - 1 - j) + cst (sm ss) (sm rs) i m j), V.int ((i + j : Nat) : Int)]) np
      have hul := DpAll.len hA
      have hwl : (wbr (sm ss) (sm rs) i m).length = m := by simp [wbr]
      rw [List.length_map, List.length_take, hwl] at hul
      have hl3 := s3 _ _ hl
      refine ⟨l, us, _, rfl, rfl, hl3, sz61 (by omega), ?_⟩
      refine ⟨_, _, _, us ++ [V.ref p], rfl, Same.mut (s2.trans s3) nl, upd_same, ?_⟩
      have hg : (wbr (sm ss) (sm rs) i m)[j]? = some (lw (sm ss) (sm rs) i j + lw (sm ss) (sm rs) (i + j + 1) (m - 1 - j) + cst (sm ss) (sm rs) i m j, ((i + j : Nat) : Int)) := by
        unfold wbr
        rw [List.getElem?_map, List.getElem?_range hj]; rfl
      rw [List.take_add_one, hg, List.map_append]
      refine DpAll.keep (But.keep But.upd hl3) (fun d hd => ?_) (DpAll.append (DpAll.same s3 hA) (.cons ?_ .nil))
      · rcases List.mem_append.mp hd with hd | hd
        · obtain ⟨p, _, rfl⟩ := List.mem_map.mp hd
          exact tf_dP p
        · obtain ⟨p, _, rfl⟩ := List.mem_map.mp hd
          exact tf_dP p
      · exact dp_dP (.inl (.inl upd_same))
    · rintro σ H2 ⟨y6, y7, y8, us, rfl, s2, hl, hA⟩
      rw [en, List.take_of_length_le (by simp [wbr])] at hA
      exact ⟨_, rfl, q _ l us s2 nl hl hA⟩
def sp_least_root (K : PySem.W.Frag) : Sp := fun vs H Q _ => ∃ (v u z : V) (ss rs : List Int) (i m : Nat), vs = [v, u, z, .int (i : Int), .int ((i + (m + 1) : Nat) : Int)] ∧ Sms K H z ss rs ∧ i + (m + 1) ≤ ss.length ∧ i + (m + 1) ≤ rs.length ∧ ss.length ≤ 1000 ∧ Rds K H v u (sm ss) (sm rs) i (m + 1) ∧
  ∀ H', Same H H' → Q (.int ((i + rt (sm ss) (sm rs) i m : Nat) : Int)) H'
theorem ok_least_root (TX : Tx K mg) : FnOk P w K mg base CX0 3 TX.a_least_root TX.fd_least_root ["lefts", "rights", "sums", "start", "stop"] (sp_least_root K) := by
  refine TX.f_least_root.ok sc_least_root (fun vs H Q E h => ?_) (fun cdv A outer s H vs Q E hr h => ?_)
  · obtain ⟨v, u, z, ss, rs, i, m, rfl, _⟩ := h; rfl
  · obtain ⟨v, u, z, ss, rs, i, m, rfl, hZ, h1, h2, h3, hR, q⟩ := h
    refine ⟨_, (pss_one (ps_ret (pe_ix (k_ixT (K := K) rfl) (pe_callB (id := "min") (cr_minP (K := K) rfl rfl hr.units) (by rfl) TX.b_min (by decide +kernel) (pa_cons (pe_call (ok_works_by_root TX) (hr.mono (by decide)) (by rfl) TX.g_works_by_root TX.f_works_by_root.kp TX.bd_works_by_root .nil pass0 (pa_cons (pv 0) (pa_cons (pv 1) (pa_cons (pv 2) (pa_cons (pv 3) (pa_cons (pv 4) pa_nil)))))) pa_nil)) pe_int (fun _ _ => rfl)))), ?_⟩
    refine ⟨_, rfl, _, rfl, _, rfl, _, rfl, _, rfl, v, u, z, ss, rs, i, m + 1, rfl, hZ, h1, h2, h3, hR, fun H1 p us s1 n1 hp hA => ?_⟩
    rw [wbr_via] at hA
    refine ⟨p, us, _, _, rfl, .inl (.inl hp), hA, fun b hb => ?_⟩
    rw [wbr_min] at hb
    exact ⟨b, _, 1, _, rfl, rfl, hb, rfl, q _ s1⟩
end
/-- the first m works of the row of i -/
def rowc (S R : Nat → Int) (i m : Nat) : List Int := (List.range m).map fun j => lw S R i j
theorem rowc_len (S R : Nat → Int) (i m : Nat) : (rowc S R i m).length = m := by simp [rowc]
theorem rowc_at {S R : Nat → Int} {i m k : Nat} (h : k < m) : (rowc S R i m)[k]? = some (lw S R i k) := by
  unfold rowc
  rw [List.getElem?_map, List.getElem?_range h]; rfl
theorem rowc_succ (S R : Nat → Int) (i m : Nat) : rowc S R i (m + 1) = rowc S R i m ++ [lw S R i m] := by
  unfold rowc
  rw [List.range_succ, List.map_append]; rfl
/-- the rows of least works of n flushes -/
def dRow (S R : Nat → Int) (i m : Nat) : PyData := .tuple ((rowc S R i m).map PyData.int)
def dRows (S R : Nat → Int) (n : Nat) : List PyData := (List.range (n + 1)).map fun i => dRow S R i (n + 1 - i)
theorem dRows_len (S R : Nat → Int) (n : Nat) : (dRows S R n).length = n + 1 := by simp [dRows]
theorem dRows_at {S R : Nat → Int} {n i : Nat} (h : i ≤ n) : (dRows S R n)[i]? = some (dRow S R i (n + 1 - i)) := by
  unfold dRows
  rw [List.getElem?_map, List.getElem?_range (by omega)]; rfl
theorem tf_row (S R : Nat → Int) (i m : Nat) : Tf (dRow S R i m) := .tup (tf_ints _)
/-- the lists that become the rows: of row i, f i works are there -/
def RowsAt (H : Hp) (A : Addr) (as : List Addr) (S R : Nat → Int) (n : Nat) (f : Nat → Nat) : Prop :=
  H A = some (.lst (as.map V.ref)) ∧ as.length = n + 1 ∧ as.Nodup ∧ (∀ a, a ∈ as → a ≠ A) ∧ ∀ i a, as[i]? = some a → H a = some (.lst ((rowc S R i (f i)).map V.int))
theorem RowsAt.same {H H' : Hp} {A : Addr} {as : List Addr} {S R : Nat → Int} {n : Nat} {f : Nat → Nat} (h : RowsAt H A as S R n f) (e : Same H H') : RowsAt H' A as S R n f :=
  ⟨e _ _ h.1, h.2.1, h.2.2.1, h.2.2.2.1, fun i a ha => e _ _ (h.2.2.2.2 i a ha)⟩
theorem RowsAt.rd {K : PySem.W.Frag} {H : Hp} {A : Addr} {as : List Addr} {S R : Nat → Int} {n : Nat} {f : Nat → Nat} (h : RowsAt H A as S R n f) {i k : Nat} (hi : i ≤ n) (hk : k < f i) : Rd K H (.ref A) i k (lw S R i k) := by
  have hi' : i < as.length := by rw [h.2.1]; omega
  have ha := List.getElem?_eq_getElem hi'
  refine ⟨A, _, as[i], _, rfl, .inl (.inl (.inl h.1)), ?_, .inl (.inl (.inl (h.2.2.2.2 i _ ha))), ?_⟩
  · rw [List.getElem?_map, ha]; rfl
  · rw [List.getElem?_map, rowc_at hk]; rfl
theorem RowsAt.congr {H : Hp} {A : Addr} {as : List Addr} {S R : Nat → Int} {n : Nat} {f g : Nat → Nat} (h : RowsAt H A as S R n f) (e : ∀ i, i ≤ n → f i = g i) : RowsAt H A as S R n g :=
  ⟨h.1, h.2.1, h.2.2.1, h.2.2.2.1, fun i a ha => by
    have hi : i < as.length := (List.getElem?_eq_some_iff.mp ha).1
    rw [← e i (by rw [h.2.1] at hi; omega)]
    exact h.2.2.2.2 i a ha⟩
theorem RowsAt.push {H : Hp} {A : Addr} {as : List Addr} {S R : Nat → Int} {n : Nat} {f : Nat → Nat} (h : RowsAt H A as S R n f) {i : Nat} {a : Addr} (ha : as[i]? = some a) :
    RowsAt (upd H a (.lst ((rowc S R i (f i)).map V.int ++ [V.int (lw S R i (f i))]))) A as S R n (fun j => if j = i then f i + 1 else f j) := by
  obtain ⟨h1, h2, h3, h4, h5⟩ := h
  have hm : a ∈ as := List.mem_of_getElem? ha
  refine ⟨by rw [upd_ne (h4 a hm).symm]; exact h1, h2, h3, h4, fun j b hb => ?_⟩
  by_cases e : j = i
  · subst e
    rw [ha] at hb
    cases hb
    rw [upd_same]
    dsimp only
    rw [if_pos rfl, rowc_succ, List.map_append]; rfl
  · dsimp only
    rw [if_neg e, upd_ne]
    · exact h5 j b hb
    · intro eb
      subst eb
      exact e ((List.getElem?_inj (List.getElem?_eq_some_iff.mp hb).1 h3).mp (hb.trans ha.symm))
section
variable {P : Program} {w : World} {K : PySem.W.Frag} {mg : Str → Option Value} {base : Heap}
def sp_least_rows (K : PySem.W.Frag) : Sp := fun vs H Q _ => ∃ (a b : Addr) (ss rs : List Int), vs = [.ref a, .ref b] ∧ SqT K H a (ss.map V.int) ∧ SqT K H b (rs.map V.int) ∧ ss.length = rs.length ∧ ss.length ≤ 100 ∧ ∀ H' p, Same H H' → Dp K H' (.ref p) (.tuple (dRows (sm ss) (sm rs) ss.length)) → Q (.ref p) H'
theorem ok_least_rows (TX : Tx K mg) : FnOk P w K mg base CX0 3 TX.a_least_rows TX.fd_least_rows ["sizes", "reads"] (sp_least_rows K) := by
  refine TX.f_least_rows.ok sc_least_rows (fun vs H Q E h => ?_) (fun cdv A outer s H vs Q E hr h => ?_)
  · obtain ⟨a, b, ss, rs, rfl, _⟩ := h; rfl
  · obtain ⟨a, b, ss, rs, rfl, hA, hB, he, h1, q⟩ := h
    refine ⟨_, (pss_cons (ps_set (i := 2) sc_least_rows.nd rfl (.inl rfl) (pe_callB (id := "len") (k_len (K := K) rfl) (by rfl) TX.b_len (by decide +kernel) (pa_cons (pv 0) pa_nil)))
      (pss_cons (ps_set (i := 3) sc_least_rows.nd rfl (.inl rfl) (pe_call (ok_load_sums TX) (hr.mono (by decide)) (by rfl) TX.g_load_sums TX.f_load_sums.kp TX.bd_load_sums .nil pass0 (pa_cons (pv 0) (pa_cons (pv 1) pa_nil))))
      (pss_cons (ps_setLc (i := 4) (own := [("start", 5)]) (by rfl) sc_least_rows.nd rfl rfl (sw_true rfl rfl rfl (by decide +kernel)) (pi_range1 (by rfl) TX.b_range (pa_cons (pe_op op_add (pv 2) pe_int) pa_nil)) (blkOk_by (own := [("start", 5)]) (N := N_least_rows) (sc := defScope s_least_rows) (by decide +kernel)) (fun _ _ _ _ _ => (pg_name (i := 5) sc_least_rows.nd rfl (Or.inl rfl))) (fun _ _ _ _ _ => pts_nil) (fun _ _ _ _ _ => (pe_lst (pa_cons pe_int pa_nil))))
      (pss_cons (ps_for PassesOwn.never rfl (pi_revR (by rfl) TX.b_reversed (prg_1 (by rfl) TX.b_range (pv 2))) (pg_name (i := 5) sc_least_rows.nd rfl (.inl rfl))
        (pss_one (ps_for PassesOwn.never rfl (pi_range2 (by rfl) TX.b_range (pa_cons (pe_op op_add (pv 5) pe_int) (pa_cons (pe_op op_add (pv 2) pe_int) pa_nil))) (pg_name (i := 6) sc_least_rows.nd rfl (.inl rfl))
          (pss_one (ps_expr (pe_bm PySem.F.plainAttrs_list PySem.F.slot_list_append PySem.F.type_list_append mt_append (pe_ix (k_ixL (K := K) rfl) (pv 4) (pv 5) (fun _ _ => rfl)) (pa_cons (pe_ix (k_ixT (K := K) rfl) (pe_callB (id := "min") (cr_minP (K := K) rfl rfl hr.units) (by rfl) TX.b_min (by decide +kernel) (pa_cons (pe_call (ok_works_by_root TX) (hr.mono (by decide)) (by rfl) TX.g_works_by_root TX.f_works_by_root.kp TX.bd_works_by_root .nil pass0 (pa_cons (pv 4) (pa_cons (pv 4) (pa_cons (pv 3) (pa_cons (pv 5) (pa_cons (pv 6) pa_nil)))))) pa_nil)) pe_int (fun _ _ => rfl)) pa_nil)))))))
      (pss_one (ps_ret (pe_callTy (T := "tuple") (k_tupOf (K := K) rfl) (by rfl) TX.b_tuple (by decide +kernel) (pa_cons (pe_lc (own := [("row", 7)]) (by rfl) sc_least_rows.nd (k_piL (K := K) rfl (pv 4)) (blkOk_by (own := [("row", 7)]) (N := N_least_rows) (sc := defScope s_least_rows) (by decide +kernel)) (fun _ _ _ _ _ => (pg_name (i := 7) sc_least_rows.nd rfl (Or.inl rfl))) (fun _ _ _ _ _ => pts_nil) (fun _ _ _ _ _ => (pe_callTy (T := "tuple") (k_tupOf (K := K) rfl) (by rfl) TX.b_tuple (by decide +kernel) (pa_cons (pv 7) pa_nil)))) pa_nil)))))))), ?_⟩
    obtain ⟨n, hn⟩ : ∃ n, n = ss.length := ⟨_, rfl⟩
    have hlen : ((ss.map V.int).length : Int) = (n : Int) := by rw [List.length_map, hn]
    refine ⟨.ref a, rfl, a, _, rfl, .inr hA, ?_⟩
    refine ⟨.ref a, rfl, .ref b, rfl, a, b, ss, rs, rfl, hA, hB, by omega, by omega, fun H1 z s1 hZ => ?_⟩
    rw [hlen]
    refine ⟨_, rfl, _, _, rfl, rfl, _, rfl, by omega, by omega, fun D nD => ?_⟩
    have en : (((n : Int) + 1)).toNat = n + 1 := by omega
    refine lc_it walk_range (fun i H' => Same H1 H' ∧ ∃ as : List Addr, H' D = some (.lst (as.map V.ref)) ∧ as.length = i ∧ as.Nodup ∧ (∀ c, c ∈ as → c ≠ D ∧ H1 c = none) ∧ ∀ c, c ∈ as → H' c = some (.lst [V.int 0])) ⟨same_upd nD, [], upd_same, rfl, List.nodup_nil, (by simp), (by simp)⟩ (fun _ _ _ _ => trivial) ?_ ?_
    · rintro i x H2 H2' hi ⟨s2, as, g1, g2, g3, g4, g5⟩ hy
      obtain ⟨rfl, rfl⟩ := hy
      refine ⟨rfl, ?_⟩
      simp only [tYes, if_true]
      refine ⟨sz60 (by simp), fun p np => ?_⟩
      have s3 := same_upd (o := .lst [V.int 0]) np
      have npD : p ≠ D := fun e => by rw [e, g1] at np; cases np
      have npA : ∀ c, c ∈ as → c ≠ p := fun c hc e => by rw [← e, g5 c hc] at np; cases np
      refine ⟨as.map V.ref, s3 _ _ g1, sz61 (by rw [List.length_map]; omega), Same.mut (s2.trans s3) nD, as ++ [p], ?_, by simp [g2], ?_, ?_, ?_⟩
      · rw [upd_same, List.map_append]; rfl
      · rw [List.nodup_append]
        exact ⟨g3, by simp, fun c hc d hd => by rw [List.mem_singleton.mp hd]; exact npA c hc⟩
      · intro c hc
        rcases List.mem_append.mp hc with hc | hc
        · exact g4 c hc
        · rw [List.mem_singleton.mp hc]
          exact ⟨npD, s2.free np⟩
      · intro c hc
        rcases List.mem_append.mp hc with hc | hc
        · rw [upd_ne (g4 c hc).1]
          exact s3 _ _ (g5 c hc)
        · rw [List.mem_singleton.mp hc, upd_ne npD]
          exact upd_same
    rintro H2 ⟨s2, as, g1, g2, g3, g4, g5⟩
    rw [en] at g2
    have hRows : RowsAt H2 D as (sm ss) (sm rs) n (fun i => if n ≤ i then n + 1 - i else 1) := by
      refine ⟨g1, g2, g3, fun c hc => (g4 c hc).1, fun i c hc => ?_⟩
      rw [g5 c (List.mem_of_getElem? hc)]
      have hi : i < as.length := (List.getElem?_eq_some_iff.mp hc).1
      dsimp only
      have e1 : (if n ≤ i then n + 1 - i else 1) = 1 := by split <;> omega
      rw [e1]; rfl
    have nas : ∀ i c, as[i]? = some c → H1 c = none := fun i c hc => (g4 c (List.mem_of_getElem? hc)).2
    have en2 : ((n : Int) - 0).toNat = n := by omega
    refine ⟨_, rfl, _, rfl, by omega, by omega, by omega, by omega, ?_⟩
    refine for_rangeC (c := -1) (fun j σ H' => ∃ y5 y6 y7, σ = [some (.ref a), some (.ref b), some (.int (n : Int)), some (.ref z), some (.ref D), y5, y6, y7] ∧ Same H1 H' ∧ RowsAt H' D as (sm ss) (sm rs) n (fun i => if n - j ≤ i then n + 1 - i else 1)) ⟨_, _, _, rfl, s2, hRows⟩ ?_ ?_
    · rintro j σ H3 hj ⟨y5, y6, y7, rfl, s3, hR3⟩
      rw [en2] at hj
      obtain ⟨st, hst⟩ : ∃ st : Nat, st = n - 1 - j := ⟨_, rfl⟩
      have ei : (0 : Int) + ((((n : Int) - 0).toNat : Nat) : Int) - 1 + ((j : Nat) : Int) * (-1) = ((st : Nat) : Int) := by omega
      rw [ei]
      refine ⟨_, rfl, _, _, rfl, rfl, _, rfl, _, _, rfl, rfl, _, _, rfl, ⟨by omega, by omega, by omega, by omega⟩, ?_⟩
      have en3 : ((n : Int) + 1 - (((st : Nat) : Int) + 1)).toNat = n - st := by omega
      have hsa : st < as.length := by omega
      have hsc := List.getElem?_eq_getElem hsa
      refine for_range (lo := ((st : Nat) : Int) + 1) (fun t σ H' => ∃ y6 y7, σ = [some (.ref a), some (.ref b), some (.int (n : Int)), some (.ref z), some (.ref D), some (.int ((st : Nat) : Int)), y6, y7] ∧ Same H1 H' ∧ RowsAt H' D as (sm ss) (sm rs) n (fun i => if st + 1 ≤ i then n + 1 - i else if i = st then 1 + t else 1)) ⟨_, _, rfl, s3, hR3.congr fun i hi => ?_⟩ ?_ ?_
      · split <;> split <;> (try split) <;> omega
      · rintro t σ H4 ht ⟨y6, y7, rfl, s4, hR4⟩
        rw [en3] at ht
        have et : ((st : Nat) : Int) + 1 + ((t : Nat) : Int) = ((st + (t + 1) : Nat) : Int) := by omega
        rw [et]
        have hc4 := hR4.2.2.2.2 st _ hsc
        have hff : (if st + 1 ≤ st then n + 1 - st else if st = st then 1 + t else 1) = t + 1 := by rw [if_neg (by omega), if_pos rfl]; omega
        dsimp only at hc4
        rw [hff] at hc4
        have hRd : Rds K H4 (.ref D) (.ref D) (sm ss) (sm rs) st (t + 1) := by
          refine ⟨fun k hk => hR4.rd (by omega) (by rw [hff]; exact hk), fun k hk => hR4.rd (by omega) ?_⟩
          rw [if_pos (by omega)]
          omega
        refine ⟨.ref D, rfl, _, rfl, D, _, _, .ref as[st], rfl, rfl, .inl (.inl hR4.1), atI_nat (by rw [List.getElem?_map, hsc]; rfl), .inl ⟨rfl, _, .inl (.inl hc4)⟩, _, rfl, _, rfl, _, rfl, _, rfl, _, rfl, .ref D, .ref D, .ref z, ss, rs, st, t + 1, rfl, hZ.same s4, by omega, by omega, by omega, hRd, fun H5 p us s5 n5 hp hA5 => ?_⟩
        rw [wbr_via] at hA5
        refine ⟨p, us, _, _, rfl, .inl (.inl hp), hA5, fun c hc => ?_⟩
        rw [wbr_min] at hc
        refine ⟨c, _, 0, _, rfl, rfl, hc, rfl, as[st], _, _, rfl, rfl, s5 _ _ hc4, sz61 (by rw [List.length_map, rowc_len]; omega), ?_⟩
        refine ⟨_, _, rfl, Same.mut (s4.trans s5) (nas _ _ hsc), ?_⟩
        have hp5 := (hR4.same s5).push hsc
        try dsimp only at hp5
        rw [hff] at hp5
        refine hp5.congr fun i hi => ?_
        by_cases e : i = st
        · subst e
          rw [if_pos rfl, if_neg (by omega), if_pos rfl]; omega
        · rw [if_neg e, if_neg e, if_neg e]
      · rintro σ H4 ⟨y6, y7, rfl, s4, hR4⟩
        rw [en3] at hR4
        refine ⟨_, _, _, rfl, s4, hR4.congr fun i hi => ?_⟩
        split <;> split <;> (try split) <;> omega
    · rintro σ H3 ⟨y5, y6, y7, rfl, s3, hR3⟩
      rw [en2] at hR3
      refine ⟨.ref D, rfl, D, rfl, ⟨_, .inl (.inl hR3.1)⟩, fun D2 nD2 => ?_⟩
      refine lc_all (K := K) (walk_list (xs := as.map V.ref)) (dRows (sm ss) (sm rs) n) (by rw [dRows_len, List.length_map, g2]) (fun d h => by obtain ⟨i, _, rfl⟩ := List.mem_map.mp h; exact tf_row _ _ _ _) (by rw [List.length_map]; omega) nD2 (fun H' s' => s'.seq (.inl (.inl hR3.1))) ?_ ?_ (fun x σ' H' Q Q' h => h _ _) (fun σ' H' Q Q' h => h _ _)
      · rintro i x Hx Hx' hi sx ⟨rfl, hx⟩ d hd R hRR
        rw [List.getElem?_map, Option.map_eq_some_iff] at hx
        obtain ⟨c, hc, rfl⟩ := hx
        have hi2 : i ≤ n := by rw [List.length_map] at hi; omega
        rw [dRows_at hi2] at hd
        cases hd
        have hc3 := sx _ _ (hR3.2.2.2.2 i c hc)
        dsimp only at hc3
        rw [if_pos (by omega)] at hc3
        refine ⟨rfl, rfl, .ref c, rfl, c, _, rfl, .inl ⟨.inl (.inl hc3), fun l nl => hRR _ _ (same_upd nl) ?_⟩⟩
        exact .tup (.inl (.inl upd_same)) (dp_ints _)
      · intro H5 acc s5 ha hA5
        refine ⟨D2, _, rfl, .inl ⟨.inl (.inl ha), fun o no => ?_⟩⟩
        refine q _ o (((s1.trans s3).trans s5).trans (same_upd no)) (.tup (.inl (.inl upd_same)) (DpAll.same (same_upd no) ?_))
        rw [← hn]
        exact hA5
end
section
variable {P : Program} {w : World} {K : PySem.W.Frag} {mg : Str → Option Value} {base : Heap}
theorem rows_rd {K : PySem.W.Frag} {H : Hp} {v : V} {S R : Nat → Int} {n : Nat} (h : Dp K H v (.tuple (dRows S R n))) {i k : Nat} (hi : i + k ≤ n) : Rd K H v i k (lw S R i k) := by
  obtain ⟨a, xs, rfl, hS, hA⟩ := Dp.tupInv h
  obtain ⟨x, hx, hD⟩ := DpAll.get hA (dRows_at (show i ≤ n by omega))
  obtain ⟨b, rfl, hB⟩ := Dp.intsInv hD
  refine ⟨a, xs, b, _, rfl, .inr hS, hx, .inr hB, ?_⟩
  rw [List.getElem?_map, rowc_at (by omega)]; rfl
theorem rows_rds {K : PySem.W.Frag} {H : Hp} {v : V} {S R : Nat → Int} {n : Nat} (h : Dp K H v (.tuple (dRows S R n))) {i m : Nat} (hi : i + m ≤ n) : Rds K H v v S R i m :=
  ⟨fun k hk => rows_rd h (by omega), fun k hk => rows_rd h (by omega)⟩
def sp_runs_at_end (K : PySem.W.Frag) : Sp := fun vs H Q _ => ∃ (a : Addr) (t : T), vs = [.ref a] ∧ SqT K H a (vi t.sch) ∧ t.size ≤ 1000 ∧ Q (.int (t.runs : Int)) H
theorem ok_runs_at_end (TX : Tx K mg) : FnOk P w K mg base CX0 1 TX.a_runs_at_end TX.fd_runs_at_end ["schedule"] (sp_runs_at_end K) := by
  refine TX.f_runs_at_end.ok sc_runs_at_end (fun vs H Q E h => ?_) (fun cdv A outer s H vs Q E hr h => ?_)
  · obtain ⟨a, t, rfl, _⟩ := h; rfl
  · obtain ⟨a, t, rfl, hS, hz, q⟩ := h
    refine ⟨_, (pss_one (ps_ret (pe_op op_sub (pe_callB (id := "len") (k_len (K := K) rfl) (by rfl) TX.b_len (by decide +kernel) (pa_cons (pv 0) pa_nil)) (pe_callB (id := "sum") (k_sumT (K := K) rfl rfl) (by rfl) TX.b_sum (by decide +kernel) (pa_cons (pv 0) pa_nil))))), ?_⟩
    refine ⟨.ref a, rfl, a, _, rfl, .inr hS, .ref a, rfl, a, ci t.sch, rfl, by rw [← vi_ci]; exact hS, _, _, rfl, rfl, ?_⟩
    have e : ((vi t.sch).length : Int) - (ci t.sch).sum = (t.runs : Int) := by
      have h1 := T.sum_sch t
      have h2 : (ci t.sch).sum = ((t.sch.sum : Nat) : Int) := by
        unfold ci
        induction t.sch with
        | nil => rfl
        | cons x xs ih => simp only [List.map_cons, List.sum_cons, ih, Int.natCast_add]
      rw [vi_len, T.sch_len, h2]
      omega
    show Q (V.int (((vi t.sch).length : Int) - (ci t.sch).sum)) H
    rw [e]
    exact q
def sp_joined (K : PySem.W.Frag) : Sp := fun vs H Q _ => ∃ (a b : Addr) (l r : T), vs = [.ref a, .ref b] ∧ SqT K H a (vi l.sch) ∧ SqT K H b (vi r.sch) ∧ l.size + r.size ≤ 900 ∧ ∀ H' p, Same H H' → SqT K H' p (vi (T.node l r).sch) → Q (.ref p) H'
theorem ok_joined (TX : Tx K mg) : FnOk P w K mg base CX0 2 TX.a_joined TX.fd_joined ["left", "right"] (sp_joined K) := by
  refine TX.f_joined.ok sc_joined (fun vs H Q E h => ?_) (fun cdv A outer s H vs Q E hr h => ?_)
  · obtain ⟨a, b, l, r, rfl, _⟩ := h; rfl
  · obtain ⟨a, b, l, r, rfl, hA, hB, hz, q⟩ := h
    refine ⟨_, (pss_one (ps_ret (pe_op (k_catT (K := K) rfl) (pe_op (k_catT (K := K) rfl) (pv 0) (pe_tup (pa_cons (pe_call (ok_runs_at_end TX) (hr.mono (by decide)) (by rfl) TX.g_runs_at_end TX.f_runs_at_end.kp TX.bd_runs_at_end .nil pass0 (pa_cons (pv 0) pa_nil)) pa_nil))) (pv 1)))), ?_⟩
    refine ⟨.ref a, rfl, .ref a, rfl, a, l, rfl, hA, by omega, sz60 (by simp), fun p np => ?_⟩
    have s1 := same_upd (o := .tup [V.int (l.runs : Int)]) np
    refine cat_read (Same.tup s1 hA) (.inl (.inl upd_same)) (by simp [vi_len, T.sch_len]; omega) fun p2 H2 s2 h2 => ⟨.ref b, rfl, ?_⟩
    refine cat_read h2 (Same.tup (s1.trans s2) hB) (by simp [vi_len, T.sch_len]; omega) fun p3 H3 s3 h3 => q _ p3 ((s1.trans s2).trans s3) ?_
    have e : vi (T.node l r).sch = vi l.sch ++ [V.int (l.runs : Int)] ++ vi r.sch := by simp [T.sch, vi]
    rw [e]
    exact h3
def spq_sin (N : Nat) (K : PySem.W.Frag) : Sp := fun vs H Q _ => ∃ (v z : V) (ss rs : List Int) (i m : Nat), vs = [v, z, .int (i : Int), .int ((i + m : Nat) : Int)] ∧ Dp K H v (.tuple (dRows (sm ss) (sm rs) ss.length)) ∧ Sms K H z ss rs ∧ ss.length = rs.length ∧ ss.length ≤ 100 ∧ i + m ≤ ss.length ∧ m < N ∧
  ∀ H' p, Same H H' → SqT K H' p (vi (lt (sm ss) (sm rs) i m).sch) → Q (.ref p) H'
theorem ok_sin (TX : Tx K mg) : ∀ N : Nat, FnOk P w K mg base CX0 (3 + N) TX.a_schedule_in TX.fd_schedule_in ["rows", "sums", "start", "stop"] (spq_sin N K)
  | 0 => ⟨fun vs H Q E h => by obtain ⟨_, _, _, _, _, _, _, _, _, _, _, _, h, _⟩ := h; omega, fun A outer s H args us vs Q E _ _ _ _ h => by obtain ⟨_, _, _, _, _, _, _, _, _, _, _, _, h, _⟩ := h; omega⟩
  | N + 1 => by
    have ih := ok_sin TX N
    refine TX.f_schedule_in.ok (k := 3 + N) sc_schedule_in (fun vs H Q E h => ?_) (fun cdv A outer s H vs Q E hr h => ?_)
    · obtain ⟨v, z, ss, rs, i, m, rfl, _⟩ := h; rfl
    · obtain ⟨v, z, ss, rs, i, m, rfl, hD, hZ, he, h1, h2, hN, q⟩ := h
      refine ⟨_, (pss_cons (ps_if (pt_cmpR op_eq (pv 2) (pv 3) (nomark _))
        (pss_one (ps_ret (pe_tup pa_nil)))
        pss_nil)
      (pss_cons (ps_set (i := 4) sc_schedule_in.nd rfl (.inl rfl) (pe_call (ok_least_root TX) (hr.mono (by omega)) (by rfl) TX.g_least_root TX.f_least_root.kp TX.bd_least_root .nil pass0 (pa_cons (pv 0) (pa_cons (pv 0) (pa_cons (pv 1) (pa_cons (pv 2) (pa_cons (pv 3) pa_nil)))))))
      (pss_one (ps_ret (pe_call (ok_joined TX) (hr.mono (by omega)) (by rfl) TX.g_joined TX.f_joined.kp TX.bd_joined .nil pass0 (pa_cons (pe_call ih (hr.mono (by omega)) (by rfl) TX.g_schedule_in TX.f_schedule_in.kp TX.bd_schedule_in .nil pass0 (pa_cons (pv 0) (pa_cons (pv 1) (pa_cons (pv 2) (pa_cons (pv 4) pa_nil))))) (pa_cons (pe_call ih (hr.mono (by omega)) (by rfl) TX.g_schedule_in TX.f_schedule_in.kp TX.bd_schedule_in .nil pass0 (pa_cons (pv 0) (pa_cons (pv 1) (pa_cons (pe_op op_add (pv 4) pe_int) (pa_cons (pv 3) pa_nil))))) pa_nil))))))), ?_⟩
      refine ⟨_, rfl, _, rfl, rfl, _, rfl, ?_⟩
      cases m with
      | zero =>
        refine iteB1 (by simp) ⟨sz60 (by simp), fun p np => q _ p (same_upd np) (.inl (.inl upd_same))⟩
      | succ m =>
        have hne : decide (V.int ((i : Nat) : Int) = V.int ((i + (m + 1) : Nat) : Int)) = false := decide_eq_false fun e => by
          have := V.int.inj e
          omega
        have hrt := rt_le (sm ss) (sm rs) i m
        refine iteB0 hne ?_
        refine ⟨_, rfl, _, rfl, _, rfl, _, rfl, _, rfl, v, v, z, ss, rs, i, m, rfl, hZ, h2, by omega, by omega, rows_rds hD h2, fun H1 s1 => ?_⟩
        refine ⟨_, rfl, _, rfl, _, rfl, _, rfl, v, z, ss, rs, i, rt (sm ss) (sm rs) i m, rfl, Dp.same s1 hD, hZ.same s1, he, h1, by omega, by omega, fun H2 p2 s2 hp2 => ?_⟩
        have s12 := s1.trans s2
        have e1 : ((i + rt (sm ss) (sm rs) i m : Nat) : Int) + 1 = ((i + rt (sm ss) (sm rs) i m + 1 : Nat) : Int) := by omega
        have e2 : i + (m + 1) = i + rt (sm ss) (sm rs) i m + 1 + (m - rt (sm ss) (sm rs) i m) := by omega
        refine ⟨_, rfl, _, rfl, _, rfl, _, _, rfl, rfl, _, rfl, v, z, ss, rs, i + rt (sm ss) (sm rs) i m + 1, m - rt (sm ss) (sm rs) i m, ?_, Dp.same s12 hD, hZ.same s12, he, h1, by omega, by omega, fun H3 p3 s3 hp3 => ?_⟩
        · show [v, z, V.int (((i + rt (sm ss) (sm rs) i m : Nat) : Int) + 1), V.int ((i + (m + 1) : Nat) : Int)] = _
          rw [e1, ← e2]
        · refine ⟨p2, p3, _, _, rfl, Same.tup s3 hp2, hp3, by rw [lt_size, lt_size]; omega, fun H4 p4 s4 hp4 => q _ p4 ((s12.trans s3).trans s4) ?_⟩
          rw [lt_succ]
          exact hp4
theorem ok_schedule_in (TX : Tx K mg) : FnOk P w K mg base CX0 64 TX.a_schedule_in TX.fd_schedule_in ["rows", "sums", "start", "stop"] (spq_sin 61 K) := ok_sin TX 61
def sp_least_of (K : PySem.W.Frag) : Sp := fun vs H Q _ => ∃ (a b : Addr) (ss rs : List Int), vs = [.ref a, .ref b] ∧ SqT K H a (ss.map V.int) ∧ SqT K H b (rs.map V.int) ∧ ss.length = rs.length ∧ ss.length ≤ 60 ∧ ∀ H' p r, Same H H' → SqT K H' p [.int (lw (sm ss) (sm rs) 0 ss.length), .ref r] → SqT K H' r (vi (lt (sm ss) (sm rs) 0 ss.length).sch) → Q (.ref p) H'
theorem ok_least_of (TX : Tx K mg) : FnOk P w K mg base CX0 65 TX.a_least_of TX.fd_least_of ["sizes", "reads"] (sp_least_of K) := by
  refine TX.f_least_of.ok sc_least_of (fun vs H Q E h => ?_) (fun cdv A outer s H vs Q E hr h => ?_)
  · obtain ⟨a, b, ss, rs, rfl, _⟩ := h; rfl
  · obtain ⟨a, b, ss, rs, rfl, hA, hB, he, h1, q⟩ := h
    refine ⟨_, (pss_cons (ps_set (i := 2) sc_least_of.nd rfl (.inl rfl) (pe_call (ok_least_rows TX) (hr.mono (by decide)) (by rfl) TX.g_least_rows TX.f_least_rows.kp TX.bd_least_rows .nil pass0 (pa_cons (pv 0) (pa_cons (pv 1) pa_nil))))
      (pss_one (ps_ret (pe_tup (pa_cons (pe_ix (k_ixT (K := K) rfl) (pe_ix (k_ixT (K := K) rfl) (pv 2) pe_int (fun _ _ => rfl)) (pe_un un_neg pe_int) (fun _ _ => rfl)) (pa_cons (pe_call (ok_schedule_in TX) (hr.mono (by decide)) (by rfl) TX.g_schedule_in TX.f_schedule_in.kp TX.bd_schedule_in .nil pass0 (pa_cons (pv 2) (pa_cons (pe_call (ok_load_sums TX) (hr.mono (by decide)) (by rfl) TX.g_load_sums TX.f_load_sums.kp TX.bd_load_sums .nil pass0 (pa_cons (pv 0) (pa_cons (pv 1) pa_nil))) (pa_cons pe_int (pa_cons (pe_callB (id := "len") (k_len (K := K) rfl) (by rfl) TX.b_len (by decide +kernel) (pa_cons (pv 0) pa_nil)) pa_nil))))) pa_nil)))))), ?_⟩
    refine ⟨.ref a, rfl, .ref b, rfl, a, b, ss, rs, rfl, hA, hB, he, by omega, fun H1 p s1 hD => ?_⟩
    obtain ⟨p', xs, e, hS, hX⟩ := Dp.tupInv hD
    cases e
    obtain ⟨x, hx, hx2⟩ := DpAll.get hX (dRows_at (show 0 ≤ ss.length by omega))
    obtain ⟨c, rfl, hC⟩ := Dp.intsInv hx2
    have hlast : atI ((rowc (sm ss) (sm rs) 0 (ss.length + 1 - 0)).map V.int) (-1) = some (V.int (lw (sm ss) (sm rs) 0 ss.length)) := by
      rw [Nat.sub_zero, rowc_succ, List.map_append]
      exact atI_last _ _
    refine ⟨.ref p, rfl, p, xs, 0, .ref c, rfl, rfl, hS, atI_nat hx, _, rfl, c, _, -1, _, rfl, rfl, hC, hlast, ?_⟩
    refine ⟨.ref p, rfl, .ref a, rfl, .ref b, rfl, a, b, ss, rs, rfl, Same.tup s1 hA, Same.tup s1 hB, by omega, by omega, fun H2 z s2 hZ => ?_⟩
    have s12 := s1.trans s2
    refine ⟨.ref a, rfl, a, _, rfl, .inr (Same.tup s12 hA), .ref p, .ref z, ss, rs, 0, ss.length, ?_, Dp.same s2 hD, hZ, he, by omega, by omega, by omega, fun H3 r s3 hr3 => ⟨sz60 (by simp), fun o no => ?_⟩⟩
    · rw [List.length_map, Nat.zero_add]; rfl
    · have s4 := same_upd (o := .tup [V.int (lw (sm ss) (sm rs) 0 ss.length), V.ref r]) no
      exact q _ o r ((s12.trans s3).trans s4) (.inl (.inl upd_same)) (Same.tup s4 hr3)
def sp_least_work (K : PySem.W.Frag) : Sp := fun vs H Q _ => ∃ (a b : Addr) (ss rs : List Int), vs = [.ref a, .ref b] ∧ SqT K H a (ss.map V.int) ∧ SqT K H b (rs.map V.int) ∧ Lds ss ∧ Lds rs ∧ ss.length = rs.length ∧ ss.length ≤ 60 ∧ ∀ H' p r, Same H H' → SqT K H' p [.int (lw (sm ss) (sm rs) 0 ss.length), .ref r] → SqT K H' r (vi (lt (sm ss) (sm rs) 0 ss.length).sch) → Q (.ref p) H'
theorem ok_least_work (TX : Tx K mg) : FnOk P w K mg base CX0 66 TX.a_least_work TX.fd_least_work ["sizes", "reads"] (sp_least_work K) := by
  refine TX.f_least_work.ok sc_least_work (fun vs H Q E h => ?_) (fun cdv A outer s H vs Q E hr h => ?_)
  · obtain ⟨a, b, ss, rs, rfl, _⟩ := h; rfl
  · obtain ⟨a, b, ss, rs, rfl, hA, hB, hs, hr', he, h1, q⟩ := h
    refine ⟨_, (pss_cons (ps_expr (pe_call (ok_check_loads TX) (hr.mono (by decide)) (by rfl) TX.g_check_loads TX.f_check_loads.kp TX.bd_check_loads .nil pass0 (pa_cons (pv 0) (pa_cons (pv 1) (pa_cons (pe_glob (v := .int (60)) (by rfl) TX.c_MOST_FLUSHES ⟨_, rfl⟩) pa_nil)))))
      (pss_one (ps_ret (pe_call (ok_least_of TX) (hr.mono (by decide)) (by rfl) TX.g_least_of TX.f_least_of.kp TX.bd_least_of .nil pass0 (pa_cons (pv 0) (pa_cons (pv 1) pa_nil)))))), ?_⟩
    refine ⟨.ref a, rfl, .ref b, rfl, a, b, ss, rs, 60, rfl, hA, hB, hs, hr', he, by omega, by omega, fun H1 s1 => ?_⟩
    exact ⟨.ref a, rfl, .ref b, rfl, a, b, ss, rs, rfl, Same.tup s1 hA, Same.tup s1 hB, he, h1, fun H2 p r s2 => q H2 p r (s1.trans s2)⟩
end
abbrev NSC_least_roots : Scope := { kind := ScopeKind.function, names := [(Str.ofString ".0", NameKind.local), (Str.ofString "start", NameKind.cell), (Str.ofString "tuple", NameKind.globalImplicit), (Str.ofString "range", NameKind.globalImplicit), (Str.ofString "n", NameKind.cell), (Str.ofString "rows", NameKind.cell), (Str.ofString "sums", NameKind.cell)], isGenerator := false, isCoroutine := false }
/-- the rows of least roots -/
def rtc (S R : Nat → Int) (n i : Nat) : List Int := (List.range (n - i)).map fun m => ((i + rt S R i m : Nat) : Int)
def dRoots (S R : Nat → Int) (n : Nat) : List PyData := (List.range n).map fun i => .tuple ((rtc S R n i).map PyData.int)
section
variable {P : Program} {w : World} {K : PySem.W.Frag} {mg : Str → Option Value} {base : Heap}
def sp_least_roots (K : PySem.W.Frag) : Sp := fun vs H Q _ => ∃ (a b : Addr) (ss rs : List Int), vs = [.ref a, .ref b] ∧ SqT K H a (ss.map V.int) ∧ SqT K H b (rs.map V.int) ∧ Lds ss ∧ Lds rs ∧ ss.length = rs.length ∧ ss.length ≤ 60 ∧ ∀ H' p, Same H H' → Dp K H' (.ref p) (.tuple (dRoots (sm ss) (sm rs) ss.length)) → Q (.ref p) H'
theorem ok_least_roots (TX : Tx K mg) : FnOk P w K mg base CX0 7 TX.a_least_roots TX.fd_least_roots ["sizes", "reads"] (sp_least_roots K) := by
  refine TX.f_least_roots.ok sc_least_roots (fun vs H Q E h => ?_) (fun cdv A outer s H vs Q E hr h => ?_)
  · obtain ⟨a, b, ss, rs, rfl, _⟩ := h; rfl
  · obtain ⟨a, b, ss, rs, rfl, hA, hB, hs, hr', he, h1, q⟩ := h
    refine ⟨_, (pss_cons (ps_expr (pe_call (ok_check_loads TX) (hr.mono (by decide)) (by rfl) TX.g_check_loads TX.f_check_loads.kp TX.bd_check_loads .nil pass0 (pa_cons (pv 0) (pa_cons (pv 1) (pa_cons (pe_glob (v := .int (60)) (by rfl) TX.c_MOST_FLUSHES ⟨_, rfl⟩) pa_nil)))))
      (pss_cons (ps_set (i := 2) sc_least_roots.nd rfl (.inr rfl) (pe_callB (id := "len") (k_len (K := K) rfl) (by rfl) TX.b_len (by decide +kernel) (pa_cons (pv 0) pa_nil)))
      (pss_cons (ps_set (i := 3) sc_least_roots.nd rfl (.inr rfl) (pe_call (ok_least_rows TX) (hr.mono (by decide)) (by rfl) TX.g_least_rows TX.f_least_rows.kp TX.bd_least_rows .nil pass0 (pa_cons (pv 0) (pa_cons (pv 1) pa_nil))))
      (pss_cons (ps_set (i := 4) sc_least_roots.nd rfl (.inr rfl) (pe_call (ok_load_sums TX) (hr.mono (by decide)) (by rfl) TX.g_load_sums TX.f_load_sums.kp TX.bd_load_sums .nil pass0 (pa_cons (pv 0) (pa_cons (pv 1) pa_nil))))
      (pss_one (ps_ret (pe_callTy (T := "tuple") (k_tupOf (K := K) rfl) (by rfl) TX.b_tuple (by decide +kernel) (pa_cons (pe_lc (own := [("start", 5)]) (by rfl) sc_least_roots.nd (pi_range1 (by rfl) TX.b_range (pa_cons (pv 2) pa_nil)) (blkOk_by (own := [("start", 5)]) (N := N_least_roots) (sc := defScope s_least_roots) (by decide +kernel)) (fun _ _ _ _ _ => (pg_name (i := 5) sc_least_roots.nd rfl (Or.inr rfl))) (fun _ _ _ _ _ => pts_nil) (fun _ _ _ _ _ => (pe_callTy (T := "tuple") (k_tupOf (K := K) rfl) (by rfl) TX.b_tuple (by decide +kernel) (pa_cons (pe_lc (own := [("stop", 6)]) (by rfl) sc_least_roots.nd (pi_range2 (by rfl) TX.b_range (pa_cons (pe_op op_add (pv 5) pe_int) (pa_cons (pe_op op_add (pv 2) pe_int) pa_nil))) (blkOk_by (own := [("stop", 6)]) (N := N_least_roots) (sc := NSC_least_roots) (by decide +kernel)) (fun _ _ _ _ _ => (pg_name (i := 6) sc_least_roots.nd rfl (Or.inl rfl))) (fun _ _ _ _ _ => pts_nil) (fun _ _ _ _ _ => (pe_call (ok_least_root TX) (hr.mono (by decide)) (by rfl) TX.g_least_root TX.f_least_root.kp TX.bd_least_root .nil pass0 (pa_cons (pv 3) (pa_cons (pv 3) (pa_cons (pv 4) (pa_cons (pv 5) (pa_cons (pv 6) pa_nil)))))))) pa_nil)))) pa_nil)))))))), ?_⟩
    obtain ⟨n, hn⟩ : ∃ n, n = ss.length := ⟨_, rfl⟩
    have hlen : ((ss.map V.int).length : Int) = (n : Int) := by rw [List.length_map, hn]
    refine ⟨.ref a, rfl, .ref b, rfl, a, b, ss, rs, 60, rfl, hA, hB, hs, hr', he, by omega, by omega, fun H1 s1 => ?_⟩
    refine ⟨.ref a, rfl, a, _, rfl, .inr (Same.tup s1 hA), ?_⟩
    refine ⟨.ref a, rfl, .ref b, rfl, a, b, ss, rs, rfl, Same.tup s1 hA, Same.tup s1 hB, he, by omega, fun H2 p s2 hD => ?_⟩
    have s12 := s1.trans s2
    refine ⟨.ref a, rfl, .ref b, rfl, a, b, ss, rs, rfl, Same.tup s12 hA, Same.tup s12 hB, by omega, by omega, fun H3 z s3 hZ => ?_⟩
    rw [hlen]
    have s13 := s12.trans s3
    have hD3 := Dp.same s3 hD
    refine ⟨_, rfl, _, rfl, by omega, by omega, fun D nD => ?_⟩
    refine lc_all (K := K) walk_range (dRoots (sm ss) (sm rs) n) (by simp [dRoots]) (fun d h => by obtain ⟨i, _, rfl⟩ := List.mem_map.mp h; exact .tup (tf_ints _)) (by omega) nD (fun _ _ => trivial) ?_ ?_ (fun x σ' H' Q Q' h => h _ _) (fun σ' H' Q Q' h => h _ _)
    · rintro i x Hx Hx' hi sx hy d hd R hR
      obtain ⟨rfl, rfl⟩ := hy
      have hi2 : i < n := by omega
      have ei : (0 : Int) + ((i : Nat) : Int) = ((i : Nat) : Int) := by omega
      dsimp only
      rw [ei]
      unfold dRoots at hd
      rw [List.getElem?_map, List.getElem?_range hi2] at hd
      cases hd
      refine ⟨rfl, rfl, _, rfl, _, _, rfl, rfl, _, rfl, _, _, rfl, rfl, _, _, rfl, ⟨by omega, by omega, by omega, by omega⟩, fun D2 nD2 => ?_⟩
      have en : ((n : Int) + 1 - (((i : Nat) : Int) + 1)).toNat = n - i := by omega
      refine lc_all (K := K) walk_range ((rtc (sm ss) (sm rs) n i).map PyData.int) (by simp [rtc]; omega) (tf_ints _) (by omega) nD2 (fun _ _ => trivial) ?_ ?_ (fun x σ' H' Q Q' h => h _ _) (fun σ' H' Q Q' h => h _ _)
      · rintro m y Hy Hy' hm sy hy d hd R2 hR2
        obtain ⟨rfl, rfl⟩ := hy
        have hm2 : m < n - i := by omega
        have em : ((i : Nat) : Int) + 1 + ((m : Nat) : Int) = ((i + (m + 1) : Nat) : Int) := by omega
        dsimp only
        rw [em]
        unfold rtc at hd
        rw [List.getElem?_map, List.getElem?_map, List.getElem?_range hm2] at hd
        cases hd
        have sxy := sx.trans sy
        refine ⟨rfl, rfl, _, rfl, _, rfl, _, rfl, _, rfl, _, rfl, .ref p, .ref p, .ref z, ss, rs, i, m, rfl, hZ.same sxy, by omega, by omega, by omega, rows_rds (Dp.same sxy hD3) (by omega), fun H5 s5 => hR2 _ _ s5 (.int _)⟩
      · intro H5 acc s5 ha hA5
        rw [dp_ints_inv hA5] at ha
        refine ⟨D2, _, rfl, .inl ⟨.inl (.inl ha), fun o no => hR _ _ (s5.trans (same_upd no)) ?_⟩⟩
        exact .tup (.inl (.inl upd_same)) (dp_ints _)
    · intro H5 acc s5 ha hA5
      refine ⟨D, _, rfl, .inl ⟨.inl (.inl ha), fun o no => ?_⟩⟩
      refine q _ o ((s13.trans s5).trans (same_upd no)) (.tup (.inl (.inl upd_same)) (DpAll.same (same_upd no) ?_))
      rw [← hn]
      exact hA5
end
/-- the draws' list: a number not below 0, a seed, a count of at most n -/
def Pot (H : Hp) (a : Addr) (n : Int) : Prop := ∃ d s m : Int, H a = some (.lst [.int d, .int s, .int m]) ∧ 0 ≤ d ∧ 0 ≤ s ∧ s < 2 ^ 62 ∧ 0 ≤ m ∧ m ≤ n
theorem Pot.mono {H : Hp} {a : Addr} {n k : Int} (h : Pot H a n) (e : n ≤ k) : Pot H a k := by
  obtain ⟨d, s, m, h1, h2, h3, h4, h5, h6⟩ := h
  exact ⟨d, s, m, h1, h2, h3, h4, h5, by omega⟩
theorem Pot.same {H H' : Hp} {a : Addr} {n : Int} (h : Pot H a n) (e : Same H H') : Pot H' a n := by
  obtain ⟨d, s, m, h1, r⟩ := h
  exact ⟨d, s, m, e _ _ h1, r⟩
theorem Pot.keep {K : PySem.W.Frag} {H H' : Hp} {a : Addr} {n : Int} (h : Pot H a n) (e : But a H H') : Keep K H H' := by
  obtain ⟨d, s, m, h1, r⟩ := h
  exact But.keep e h1
theorem Pot.ne {H : Hp} {a b : Addr} {n : Int} (h : Pot H a n) (e : H b = none) : b ≠ a := fun z => by
  obtain ⟨d, s, m, h1, r⟩ := h
  rw [z, h1] at e; cases e
theorem Pot.upd {H : Hp} {a l : Addr} {n : Int} {o : HO} (h : Pot H a n) (e : l ≠ a) : Pot (L2.upd H l o) a n := by
  obtain ⟨d, s, m, h1, r⟩ := h
  exact ⟨d, s, m, by rw [upd_ne e.symm]; exact h1, r⟩
theorem But.mut {a l : Addr} {H H' : Hp} {o : HO} (b : But a H H') (h : H l = none) : But a H (L2.upd H' l o) := fun c u n e => by
  rw [upd_ne (ne_of_none e h)]; exact b _ _ n e
theorem na_lt {x : Int} {n : Nat} (h0 : 0 ≤ x) (h1 : x < ((2 ^ n : Nat) : Int)) : x.natAbs < 2 ^ n := by omega
theorem bit01 (b : Bool) : (if b = true then (1 : Int) else 0).natAbs < 2 ^ 2 ∧ (0 : Int) ≤ (if b = true then (1 : Int) else 0) := by cases b <;> exact ⟨by decide, by decide⟩
set_option exponentiation.threshold 2000
section
variable {P : Program} {w : World} {K : PySem.W.Frag} {mg : Str → Option Value} {base : Heap}
def sp_L_pot (K : PySem.W.Frag) : Sp := fun vs H Q _ => ∃ (a : Addr) (ns : List Int) (pl : Nat), vs = [.ref a, .int (pl : Int)] ∧ SqL K H a (ns.map V.int) ∧ pl ≤ 62 ∧ ∀ H' p, Same H H' → H p = none → Pot H' p 0 → Q (.ref p) H'
theorem ok_L_pot (TX : Tx K mg) : FnOk P w K mg base CX0 1 TX.a_L_pot TX.fd_L_pot ["_law_script", "_law_k"] (sp_L_pot K) := by
  refine TX.f_L_pot.ok sc_L_pot (fun vs H Q E h => ?_) (fun cdv A outer s H vs Q E hr h => ?_)
  · obtain ⟨a, ns, pl, rfl, _⟩ := h; rfl
  · obtain ⟨a, ns, pl, rfl, hS, hpl, q⟩ := h
    refine ⟨_, (pss_cut (ps_set (i := 2) sc_L_pot.nd rfl (.inl rfl) (pe_ifExp (pt_cmpR op_lt (pv 1) (pe_callB (id := "len") (k_len (K := K) rfl) (by rfl) TX.b_len (by decide +kernel) (pa_cons (pv 0) pa_nil)) (nomark _)) (pe_ix (k_ixL (K := K) rfl) (pv 0) (pv 1) (fun _ _ => rfl)) pe_int))
      (pss_cons (ps_set (i := 3) sc_L_pot.nd rfl (.inl rfl) (pe_op op_mulW (pe_op op_mulW (pe_op op_mulW (pe_op op_mulW (pe_op op_powW pe_int pe_int) (pe_op op_powW pe_int pe_int)) (pe_op op_powW pe_int pe_int)) (pe_op op_powW pe_int pe_int)) (pe_op op_powW pe_int pe_int)))
      (pss_one (ps_ret (pe_lst (pa_cons (pe_op op_mulW (pe_op op_mod (pe_callB (id := "abs") call_abs (by rfl) TX.b_abs (by decide +kernel) (pa_cons (pv 2) pa_nil)) (pv 3)) (pe_callTy (T := "int") call_int1 (by rfl) TX.b_int (by decide +kernel) (pa_cons (pe_cmpR op_ge (pe_callB (id := "abs") call_abs (by rfl) TX.b_abs (by decide +kernel) (pa_cons (pv 2) pa_nil)) (pe_op op_powW pe_int pe_int) (nomark _)) pa_nil))) (pa_cons (pe_op op_add (pe_op op_add (pe_op op_mod (pv 2) pe_int) (pe_op op_mulW pe_int (pv 1))) pe_int) (pa_cons pe_int pa_nil)))))))), ?_⟩
    refine ⟨fun σ H' => ∃ x : Int, σ = [some (.ref a), some (.int (pl : Int)), some (.int x), none] ∧ H' = H, ?_, ?_⟩
    · refine ⟨_, rfl, .ref a, rfl, a, _, rfl, .inl hS, _, _, rfl, rfl, _, rfl, ?_⟩
      refine ite2 (fun h => ?_) (fun h => ?_)
      · have hlt : pl < ns.length := by
          have := of_decide_eq_true h
          rw [List.length_map] at this
          omega
        exact ⟨.ref a, rfl, _, rfl, a, _, _, .int ns[pl], rfl, rfl, hS, atI_nat (by rw [List.getElem?_map, List.getElem?_eq_getElem hlt]; rfl), _, rfl, rfl⟩
      · exact ⟨_, rfl, rfl⟩
    · rintro σ H' ⟨x, rfl, rfl⟩
      have pw : CPowW 10 60 := ⟨by decide, by decide +kernel⟩
      have pb : (10 ^ (60 : Int).toNat : Int).natAbs < 2 ^ 200 := by decide +kernel
      have c2 := wide_lt pb pb
      have c3 := wide_lt c2 pb
      have c4 := wide_lt c3 pb
      refine ⟨_, _, rfl, rfl, pw, _, _, rfl, rfl, pw, _, _, rfl, rfl, wide_mul pb pb (by decide) (by decide) (by decide), _, _, rfl, rfl, pw, _, _, rfl, rfl, wide_mul c2 pb (by decide) (by decide) (by decide), _, _, rfl, rfl, pw, _, _, rfl, rfl, wide_mul c3 pb (by decide) (by decide) (by decide), _, _, rfl, rfl, pw, _, _, rfl, rfl, wide_mul c4 pb (by decide) (by decide) (by decide), ?_⟩
      have P0 : (0 : Int) < 10 ^ (60 : Int).toNat * 10 ^ (60 : Int).toNat * 10 ^ (60 : Int).toNat * 10 ^ (60 : Int).toNat * 10 ^ (60 : Int).toNat := by decide +kernel
      have P1 : (10 ^ (60 : Int).toNat * 10 ^ (60 : Int).toNat * 10 ^ (60 : Int).toNat * 10 ^ (60 : Int).toNat * 10 ^ (60 : Int).toNat : Int) < ((2 ^ 1000 : Nat) : Int) := by decide +kernel
      have c0 := Int.emod_nonneg x (show (2305843009213693951 : Int) ≠ 0 by decide)
      have c1 := Int.emod_lt_of_pos x (show (0 : Int) < 2305843009213693951 by decide)
      refine ⟨_, rfl, _, rfl, _, rfl, _, _, rfl, rfl, P0, _, rfl, _, rfl, _, _, rfl, rfl, ⟨by decide, by decide +kernel⟩, _, _, rfl, rfl, .inr ⟨_, rfl, _, _, rfl, rfl, ?_, ?_⟩⟩
      · exact wide_mul (a := 1000) (b := 2) (na_lt (Int.emod_nonneg _ (Int.ne_of_gt P0)) (Int.lt_trans (Int.emod_lt_of_pos _ P0) P1)) (bit01 _).1 (by decide) (by decide) (by decide)
      · refine ⟨_, rfl, _, _, rfl, rfl, (show (0 : Int) < 2305843009213693951 by decide), _, rfl, _, _, rfl, rfl, wide_mul (a := 17) (b := 7) (by decide) (by omega) (by decide) (by decide) (by decide), _, _, rfl, rfl, _, _, rfl, rfl, sz60 (by simp), fun p np => q _ p (same_upd np) np ?_⟩
        refine ⟨_, _, _, upd_same, ?_, by omega, by omega, by decide, by decide⟩
        exact Int.mul_nonneg (Int.emod_nonneg _ (Int.ne_of_gt P0)) (bit01 _).2
def sp_L_take (K : PySem.W.Frag) : Sp := fun vs H Q _ => ∃ (a : Addr) (z n : Int), vs = [.ref a, .int z] ∧ Pot H a n ∧ n ≤ 1000000 ∧ 1 ≤ z ∧ z ≤ 2000000000 ∧ ∀ H' r, But a H H' → Pot H' a (n + 1) → 0 ≤ r → r < z → Q (.int r) H'
theorem prime_at {m : Int} (h0 : 0 ≤ m) : ∃ v : Int, atI [V.int 2147483647, V.int 2147483629, V.int 2147483587, V.int 2147483579, V.int 2147483563, V.int 2147483549, V.int 2147483543, V.int 2147483497] (m % 8) = some (.int v) ∧ 0 < v ∧ v < 2 ^ 31 := by
  have h : m % 8 = 0 ∨ m % 8 = 1 ∨ m % 8 = 2 ∨ m % 8 = 3 ∨ m % 8 = 4 ∨ m % 8 = 5 ∨ m % 8 = 6 ∨ m % 8 = 7 := by omega
  rcases h with h | h | h | h | h | h | h | h <;> rw [h] <;> exact ⟨_, rfl, by decide, by decide⟩
theorem ok_L_take (TX : Tx K mg) : FnOk P w K mg base CX0 1 TX.a_L_take TX.fd_L_take ["_law_pot_here", "_law_wide"] (sp_L_take K) := by
  refine TX.f_L_take.ok sc_L_take (fun vs H Q E h => ?_) (fun cdv A outer s H vs Q E hr h => ?_)
  · obtain ⟨a, z, n, rfl, _⟩ := h; rfl
  · obtain ⟨a, z, n, rfl, ⟨d, sd, m, hp, hd, hs0, hs1, hm0, hm1⟩, hn, hz1, hz2, q⟩ := h
    refine ⟨_, (pss_cons (ps_if (pt_cmpR op_gt (pe_ix (k_ixL (K := K) rfl) (pv 0) pe_int (fun _ _ => rfl)) pe_int (nomark _))
        (pss_cons (ps_set (i := 2) sc_L_take.nd rfl (.inl rfl) (pe_op op_mod (pe_ix (k_ixL (K := K) rfl) (pv 0) pe_int (fun _ _ => rfl)) (pv 1)))
        (pss_cons (ps_asg (pe_op op_fdivW (pe_ix (k_ixL (K := K) rfl) (pv 0) pe_int (fun _ _ => rfl)) (pv 1)) (pg_sub (pv 0) pe_int set_list))
        (pss_one (ps_ret (pv 2)))))
        pss_nil)
      (pss_cons (ps_asg (pe_op op_add (pe_ix (k_ixL (K := K) rfl) (pv 0) pe_int (fun _ _ => rfl)) pe_int) (pg_sub (pv 0) pe_int set_list))
      (pss_cons (ps_set (i := 3) sc_L_take.nd rfl (.inl rfl) (pe_lst (pa_cons pe_int (pa_cons pe_int (pa_cons pe_int (pa_cons pe_int (pa_cons pe_int (pa_cons pe_int (pa_cons pe_int (pa_cons pe_int pa_nil))))))))))
      (pss_cons (ps_set (i := 4) sc_L_take.nd rfl (.inl rfl) (pe_ix (k_ixL (K := K) rfl) (pv 3) (pe_op op_mod (pe_ix (k_ixL (K := K) rfl) (pv 0) pe_int (fun _ _ => rfl)) pe_int) (fun _ _ => rfl)))
      (pss_cons (ps_set (i := 5) sc_L_take.nd rfl (.inl rfl) (pe_op op_add (pe_op op_mod (pe_op op_mod (pe_op op_add (pe_ix (k_ixL (K := K) rfl) (pv 0) pe_int (fun _ _ => rfl)) (pe_op op_mulW (pe_op op_mulW pe_int (pe_ix (k_ixL (K := K) rfl) (pv 0) pe_int (fun _ _ => rfl))) (pe_ix (k_ixL (K := K) rfl) (pv 0) pe_int (fun _ _ => rfl)))) (pe_op op_pow (pv 4) pe_int)) (pv 4)) pe_int))
      (pss_one (ps_ret (pe_op op_mod (pe_op op_fdivW (pe_op op_mod (pe_op op_mulW (pv 5) (pe_op op_add (pe_op op_mod (pv 5) pe_int) (pe_ix (k_ixL (K := K) rfl) (pv 0) pe_int (fun _ _ => rfl)))) (pv 4)) pe_int) (pv 1))))))))), ?_⟩
    refine ⟨.ref a, rfl, a, _, _, .int d, rfl, rfl, .inl (.inl hp), rfl, _, _, rfl, rfl, _, rfl, ite2 (fun h => ?_) (fun h => ?_)⟩
    · refine ⟨.ref a, rfl, a, _, _, .int d, rfl, rfl, .inl (.inl hp), rfl, _, rfl, _, _, rfl, rfl, (show 0 < z by omega), ?_⟩
      refine ⟨.ref a, rfl, a, _, _, .int d, rfl, rfl, .inl (.inl hp), rfl, _, rfl, _, _, rfl, rfl, wide_div (b := 32) (by omega) (by omega) (by decide) (by decide), .ref a, rfl, a, _, 0, 0, rfl, rfl, hp, rfl, ?_⟩
      refine ⟨_, rfl, q _ _ But.upd ⟨d / z, sd, m, upd_same, Int.ediv_nonneg hd (by omega), hs0, hs1, hm0, by omega⟩ (Int.emod_nonneg _ (by omega)) (Int.emod_lt_of_pos _ (by omega))⟩
    · refine ⟨.ref a, rfl, a, _, _, .int m, rfl, rfl, .inl (.inl hp), rfl, _, _, rfl, rfl, ?_⟩
      refine ⟨.ref a, rfl, a, _, 2, 2, rfl, rfl, hp, rfl, ?_⟩
      have hp1 : (upd H a (.lst (List.set [V.int d, V.int sd, V.int m] 2 (V.int (m + 1))))) a = some (.lst [V.int d, V.int sd, V.int (m + 1)]) := upd_same
      have b1 : But a H (upd H a (.lst (List.set [V.int d, V.int sd, V.int m] 2 (V.int (m + 1))))) := But.upd
      generalize upd H a (.lst (List.set [V.int d, V.int sd, V.int m] 2 (V.int (m + 1)))) = H1 at hp1 b1 ⊢
      refine ⟨sz60 (by simp), fun pl npl => ?_⟩
      have s2 := same_upd (o := .lst [V.int 2147483647, V.int 2147483629, V.int 2147483587, V.int 2147483579, V.int 2147483563, V.int 2147483549, V.int 2147483543, V.int 2147483497]) npl
      have hp2 := s2 _ _ hp1
      obtain ⟨pr, hpr, pr0, pr1⟩ := prime_at (m := m + 1) (by omega)
      refine ⟨_, rfl, .ref a, rfl, a, _, _, .int (m + 1), rfl, rfl, .inl (.inl hp2), rfl, _, _, rfl, rfl, (show (0 : Int) < 8 by decide), pl, _, _, .int pr, rfl, rfl, .inl (.inl upd_same), hpr, ?_⟩
      have k1 : (m + 1) * (m + 1) ≤ 1000001 * 1000001 := Int.mul_le_mul (by omega) (by omega) (by omega) (by omega)
      have k2 : (0 : Int) ≤ (m + 1) * (m + 1) := Int.mul_nonneg (by omega) (by omega)
      have k3 : 69621 * (m + 1) * (m + 1) = 69621 * ((m + 1) * (m + 1)) := Int.mul_assoc _ _ _
      have p2 : (0 : Int) < pr ^ (2 : Int).toNat := Int.pow_pos pr0
      refine ⟨.ref a, rfl, a, _, _, .int sd, rfl, rfl, .inl (.inl hp2), rfl, .ref a, rfl, a, _, _, .int (m + 1), rfl, rfl, .inl (.inl hp2), rfl, _, _, rfl, rfl, wide_mul (a := 17) (b := 21) (by decide) (by omega) (by decide) (by decide) (by decide), .ref a, rfl, a, _, _, .int (m + 1), rfl, rfl, .inl (.inl hp2), rfl, _, _, rfl, rfl, wide_mul (a := 38) (b := 21) (by omega) (by omega) (by decide) (by decide) (by decide), _, _, rfl, rfl, _, rfl, _, _, rfl, rfl, ⟨by decide, by decide, by omega⟩, _, _, rfl, rfl, p2, _, rfl, _, _, rfl, rfl, pr0, _, _, rfl, rfl, ?_⟩
      generalize hmx : (sd + 69621 * (m + 1) * (m + 1)) % pr ^ (2 : Int).toNat % pr = mx
      have mx0 : 0 ≤ mx := by rw [← hmx]; exact Int.emod_nonneg _ (by omega)
      have mx1 : mx < pr := by rw [← hmx]; exact Int.emod_lt_of_pos _ pr0
      refine ⟨_, rfl, _, rfl, _, _, rfl, rfl, (show (0 : Int) < 1009 by decide), .ref a, rfl, a, _, _, .int (m + 1), rfl, rfl, .inl (.inl hp2), rfl, _, _, rfl, rfl, _, _, rfl, rfl, wide_mul (a := 32) (b := 22) (by omega) (by omega) (by decide) (by decide) (by decide), _, rfl, _, _, rfl, rfl, pr0, _, _, rfl, rfl, wide_div (b := 3) (by decide) (by decide) (by decide) (by decide), _, rfl, _, _, rfl, rfl, (show 0 < z by omega), ?_⟩
      exact q _ _ (b1.trans (But.of s2)) ⟨d, sd, m + 1, hp2, hd, hs0, hs1, by omega, by omega⟩ (Int.emod_nonneg _ (by omega)) (Int.emod_lt_of_pos _ (by omega))
end
def rch : Nat → T
  | 0 => .nil
  | n + 1 => .node .nil (rch n)
def lch : Nat → T
  | 0 => .nil
  | n + 1 => .node (lch n) .nil
theorem lt_A {S R : Nat → Int} {X : Int} (hX : 0 ≤ X) : ∀ m i, (∀ j, i ≤ j → j ≤ i + m → S j = X * (j : Int) ∧ R j = 0) → lw S R i m = X * (m : Int) ∧ lt S R i m = rch m := by
  intro m
  induction m using Nat.strongRecOn with
  | ind m ih =>
    intro i h
    cases m with
    | zero => exact ⟨by rw [lw_zero]; simp, rfl⟩
    | succ m =>
      have ev : ∀ k, k ≤ m → via S R i m k = X * (m : Int) + X * (k : Int) + X := fun k hk => by
        unfold via cst
        rw [(ih k (by omega) i fun j h1 h2 => h j h1 (by omega)).1, (ih (m - k) (by omega) (i + k + 1) fun j h1 h2 => h j (by omega) (by omega)).1,
          (h (i + k + 1) (by omega) (by omega)).1, (h i (by omega) (by omega)).1, (h (i + (m + 1)) (by omega) (by omega)).2, (h (i + k) (by omega) (by omega)).2,
          Int.natCast_sub hk, Int.mul_sub, Int.natCast_add, Int.natCast_add, Int.mul_add, Int.mul_add]
        simp only [Int.natCast_one, Int.mul_one]
        omega
      have e0 : rt S R i m = 0 := amin_uniq (by omega) (fun k hk => by
        rw [ev k hk, ev 0 (by omega)]
        have := Int.mul_nonneg hX (show (0 : Int) ≤ (k : Int) by omega)
        simp
        omega) (fun k hk => by omega)
      refine ⟨?_, ?_⟩
      · rw [lw_succ, e0, ev 0 (by omega), Int.natCast_add, Int.mul_add]
        simp
      · rw [lt_succ, e0, lt_zero]
        rw [(ih (m - 0) (by omega) (i + 0 + 1) fun j h1 h2 => h j (by omega) (by omega)).2]
        rfl
theorem lt_B {S R : Nat → Int} {Y : Int} (hY : 0 < Y) : ∀ m i, (∀ j, i ≤ j → j ≤ i + m → S j = 0 ∧ R j = Y * (j : Int)) → lw S R i m = Y * (m : Int) ∧ lt S R i m = lch m := by
  intro m
  induction m using Nat.strongRecOn with
  | ind m ih =>
    intro i h
    cases m with
    | zero => exact ⟨by rw [lw_zero]; simp, rfl⟩
    | succ m =>
      have ev : ∀ k, k ≤ m → via S R i m k = Y * (m : Int) + Y * (m : Int) + Y - Y * (k : Int) := fun k hk => by
        unfold via cst
        rw [(ih k (by omega) i fun j h1 h2 => h j h1 (by omega)).1, (ih (m - k) (by omega) (i + k + 1) fun j h1 h2 => h j (by omega) (by omega)).1,
          (h (i + k + 1) (by omega) (by omega)).1, (h i (by omega) (by omega)).1, (h (i + (m + 1)) (by omega) (by omega)).2, (h (i + k) (by omega) (by omega)).2,
          Int.natCast_sub hk, Int.mul_sub, Int.natCast_add, Int.natCast_add, Int.natCast_add, Int.mul_add, Int.mul_add, Int.mul_add]
        simp only [Int.natCast_one, Int.mul_one]
        omega
      have lt' : ∀ k, k < m → Y * (k : Int) < Y * (m : Int) := fun k hk => Int.mul_lt_mul_of_pos_left (by omega) hY
      have e0 : rt S R i m = m := amin_uniq (by omega) (fun k hk => by
        rw [ev k hk, ev m (by omega)]
        by_cases e : k = m
        · rw [e]; exact Int.le_refl _
        · have := lt' k (by omega)
          omega) (fun k hk => by
        rw [ev k (by omega), ev m (by omega)]
        have := lt' k hk
        omega)
      refine ⟨?_, ?_⟩
      · rw [lw_succ, e0, ev m (by omega), Int.natCast_add, Int.mul_add]
        simp only [Int.natCast_one, Int.mul_one]
        omega
      · rw [lt_succ, e0, Nat.sub_self, lt_zero]
        rw [(ih m (by omega) i fun j h1 h2 => h j (by omega) (by omega)).2]
        rfl
theorem lt_C1 {S R : Nat → Int} {X Y : Int} {n : Nat} (hY : 0 ≤ Y) (hX : Y < X) (hS : ∀ j, j ≤ n → S j = X * (j : Int)) (hR : ∀ j, j < n → R j = 0) (hn : R n = Y) : ∀ m i, i + m = n → lw S R i m = X * (m : Int) + Y * (m : Int) ∧ lt S R i m = rch m := by
  intro m
  induction m using Nat.strongRecOn with
  | ind m ih =>
    intro i he
    cases m with
    | zero => exact ⟨by rw [lw_zero]; simp, rfl⟩
    | succ m =>
      have ev : ∀ k, k ≤ m → via S R i m k = X * (m : Int) + Y * (m : Int) + X + Y + (X * (k : Int) - Y * (k : Int)) := fun k hk => by
        unfold via cst
        rw [(lt_A (S := S) (R := R) (X := X) (by omega) k i fun j h1 h2 => ⟨hS j (by omega), hR j (by omega)⟩).1, (ih (m - k) (by omega) (i + k + 1) (by omega)).1,
          hS (i + k + 1) (by omega), hS i (by omega), he, hn, hR (i + k) (by omega),
          Int.natCast_sub hk, Int.mul_sub, Int.mul_sub, Int.natCast_add, Int.natCast_add, Int.mul_add, Int.mul_add]
        simp only [Int.natCast_one, Int.mul_one]
        omega
      have pos : ∀ k : Nat, Y * (k : Int) ≤ X * (k : Int) := fun k => Int.mul_le_mul_of_nonneg_right (by omega) (by omega)
      have e0 : rt S R i m = 0 := amin_uniq (by omega) (fun k hk => by
        rw [ev k hk, ev 0 (by omega)]
        have := pos k
        simp
        omega) (fun k hk => by omega)
      refine ⟨?_, ?_⟩
      · rw [lw_succ, e0, ev 0 (by omega), Int.natCast_add, Int.mul_add, Int.mul_add]
        simp
        omega
      · rw [lt_succ, e0, lt_zero]
        rw [(ih (m - 0) (by omega) (i + 0 + 1) (by omega)).2]
        rfl
theorem lt_C2 {S R : Nat → Int} {X Y : Int} {n : Nat} (hX : 0 ≤ X) (hY : X < Y) (hS : ∀ j, j ≤ n → S j = X * (j : Int)) (hR : ∀ j, j < n → R j = 0) (hn : R n = Y) : ∀ m i, i + (m + 1) = n → lw S R i (m + 1) = X * (m : Int) + X * (m : Int) + X + Y ∧ lt S R i (m + 1) = .node (rch m) .nil := by
  intro m
  induction m using Nat.strongRecOn with
  | ind m ih =>
    intro i he
    have hA : ∀ k, i + k < n → lw S R i k = X * (k : Int) ∧ lt S R i k = rch k := fun k hk => lt_A (S := S) (R := R) (X := X) hX k i fun j h1 h2 => ⟨hS j (by omega), hR j (by omega)⟩
    have ec : ∀ k, k ≤ m → cst S R i (m + 1) k = X * (k : Int) + X + Y := fun k hk => by
      unfold cst
      rw [hS (i + k + 1) (by omega), hS i (by omega), he, hn, hR (i + k) (by omega), Int.natCast_add, Int.natCast_add, Int.mul_add, Int.mul_add]
      simp only [Int.natCast_one, Int.mul_one]
      omega
    have evm : via S R i m m = X * (m : Int) + X * (m : Int) + X + Y := by
      unfold via
      rw [(hA m (by omega)).1, Nat.sub_self, lw_zero, ec m (by omega)]
      omega
    have evk : ∀ k, k < m → via S R i m k = X * (m : Int) + X * (m : Int) + Y + Y := fun k hk => by
      obtain ⟨d, hd⟩ : ∃ d, m - k = d + 1 := ⟨m - k - 1, by omega⟩
      have e1 : (m : Int) = (k : Int) + (d : Int) + 1 := by omega
      unfold via
      rw [(hA k (by omega)).1, hd, (ih d (by omega) (i + k + 1) (by omega)).1, ec k (by omega), e1, Int.mul_add, Int.mul_add]
      omega
    have e0 : rt S R i m = m := amin_uniq (by omega) (fun k hk => by
      by_cases e : k = m
      · rw [e]; exact Int.le_refl _
      · rw [evk k (by omega), evm]; omega) (fun k hk => by rw [evk k hk, evm]; omega)
    refine ⟨?_, ?_⟩
    · rw [lw_succ, e0, evm]
    · rw [lt_succ, e0, Nat.sub_self, lt_zero, (hA m (by omega)).2]
theorem sum_rep (v : Int) : ∀ n : Nat, (List.replicate n v).sum = v * (n : Int)
  | 0 => by simp
  | n + 1 => by
    rw [List.replicate_succ, List.sum_cons, sum_rep v n, Int.natCast_add, Int.mul_add]
    simp
    omega
theorem sm_rep {v : Int} {n j : Nat} (h : j ≤ n) : sm (List.replicate n v) j = v * (j : Int) := by
  unfold sm
  rw [List.take_replicate, Nat.min_eq_left h, sum_rep]
theorem sm_rep0 (n j : Nat) : sm (List.replicate n 0) j = 0 := by
  unfold sm
  rw [List.take_replicate, sum_rep]
  simp
theorem sm_one {n j : Nat} {y : Int} (h : j ≤ n) : sm (List.replicate n 0 ++ [y]) j = 0 := by
  unfold sm
  rw [List.take_append_of_le_length (by simpa using h), List.take_replicate, sum_rep]
  simp
theorem sm_one' (n : Nat) (y : Int) : sm (List.replicate n 0 ++ [y]) (n + 1) = y := by
  unfold sm
  rw [List.take_of_length_le (by simp), List.sum_append, sum_rep]
  simp
theorem rch_sch : ∀ n, (rch n).sch = List.replicate n 0
  | 0 => rfl
  | n + 1 => by rw [List.replicate_succ, ← rch_sch n]; rfl
theorem lch_runs (n : Nat) : (lch (n + 1)).runs = 1 := rfl
theorem lch_sch : ∀ n, (lch (n + 1)).sch = 0 :: List.replicate n 1
  | 0 => rfl
  | n + 1 => by
    show (lch (n + 1)).sch ++ (lch (n + 1)).runs :: T.nil.sch = _
    rw [lch_sch n, lch_runs, List.replicate_succ']
    rfl
/-- only the first flush has a size -/
theorem lt_F {S R : Nat → Int} {X : Int} (hX : 0 ≤ X) (n : Nat) (h0 : S 0 = 0) (hS : ∀ j, 1 ≤ j → j ≤ n + 1 → S j = X) (hR : ∀ j, R j = 0) : lw S R 0 (n + 1) = X ∧ lt S R 0 (n + 1) = rch (n + 1) := by
  have hb : ∀ i m, 1 ≤ i → i + m ≤ n + 1 → lw S R i m = 0 ∧ lt S R i m = rch m := fun i m h1 h2 => by
    have hz := lt_A (S := fun _ => 0) (R := fun _ => 0) (X := 0) (by omega) m i (fun j _ _ => ⟨by simp, rfl⟩)
    have hs := lw_shift (S := S) (R := R) (S' := fun _ => 0) (R' := fun _ => 0) (d := 0) (c := X) (c' := 0) m i fun j g1 g2 => ⟨by rw [hS j (by omega) (by omega)]; omega, by rw [hR]; rfl⟩
    rw [Nat.add_zero] at hs
    exact ⟨by rw [hs.1, hz.1]; simp, by rw [hs.2, hz.2]⟩
  have ev0 : via S R 0 n 0 = X := by
    unfold via cst
    rw [lw_zero, (hb (0 + 0 + 1) (n - 0) (by omega) (by omega)).1, h0, hR, hR, hS (0 + 0 + 1) (by omega) (by omega)]
    omega
  have hge : ∀ m, m ≤ n + 1 → 0 ≤ lw S R 0 m := by
    intro m
    induction m using Nat.strongRecOn with
    | ind m ih =>
      intro hm
      cases m with
      | zero => rw [lw_zero]; omega
      | succ m =>
        have hr := rt_le S R 0 m
        have h1 := ih (rt S R 0 m) (by omega) (by omega)
        have h2 := (hb (0 + rt S R 0 m + 1) (m - rt S R 0 m) (by omega) (by omega)).1
        rw [lw_succ]
        unfold via cst
        rw [h2, h0, hR, hR, hS (0 + rt S R 0 m + 1) (by omega) (by omega)]
        omega
  have ev : ∀ k, k ≤ n → X ≤ via S R 0 n k := fun k hk => by
    have h1 := hge k (by omega)
    unfold via cst
    rw [(hb (0 + k + 1) (n - k) (by omega) (by omega)).1, h0, hR, hR, hS (0 + k + 1) (by omega) (by omega)]
    omega
  have e0 : rt S R 0 n = 0 := amin_uniq (by omega) (fun k hk => by rw [ev0]; exact ev k hk) (fun k hk => by omega)
  refine ⟨by rw [lw_succ, e0, ev0], ?_⟩
  rw [lt_succ, e0, lt_zero, (hb (0 + 0 + 1) (n - 0) (by omega) (by omega)).2]
  rfl
/-- reads only at the end, X = Y -/
theorem lw_C0 {S R : Nat → Int} {X : Int} {n : Nat} (hX : 0 ≤ X) (hS : ∀ j, j ≤ n → S j = X * (j : Int)) (hR : ∀ j, j < n → R j = 0) (hn : R n = X) : ∀ m i, i + m = n → lw S R i m = X * (m : Int) + X * (m : Int) := by
  intro m
  induction m using Nat.strongRecOn with
  | ind m ih =>
    intro i he
    cases m with
    | zero => rw [lw_zero]; simp
    | succ m =>
      have ev : ∀ k, k ≤ m → via S R i m k = X * (m : Int) + X * (m : Int) + X + X := fun k hk => by
        unfold via cst
        rw [(lt_A (S := S) (R := R) (X := X) (by omega) k i fun j h1 h2 => ⟨hS j (by omega), hR j (by omega)⟩).1, ih (m - k) (by omega) (i + k + 1) (by omega),
          hS (i + k + 1) (by omega), hS i (by omega), he, hn, hR (i + k) (by omega),
          Int.natCast_sub hk, Int.mul_sub, Int.natCast_add, Int.natCast_add, Int.mul_add, Int.mul_add]
        simp only [Int.natCast_one, Int.mul_one]
        omega
      rw [lw_succ, ev _ (rt_le _ _ _ _), Int.natCast_add, Int.mul_add]
      simp only [Int.natCast_one, Int.mul_one]
      omega
/-- what is kept -/
def kep (x y : Int) (n : Nat) (l : Nat) : Int := x * ((n + 1 : Nat) : Int) + (l : Int) * x + y * (((n + 1 : Nat) : Int) - (l : Int))
theorem lw_C {x y : Int} (hx : 0 < x) (hy : 0 < y) (n : Nat) : (∃ l, l ≤ n ∧ lw (sm (List.replicate (n + 1) x)) (sm (List.replicate n 0 ++ [y])) 0 (n + 1) = kep x y n l) ∧ ∀ l, l ≤ n → lw (sm (List.replicate (n + 1) x)) (sm (List.replicate n 0 ++ [y])) 0 (n + 1) ≤ kep x y n l := by
  have hS : ∀ j, j ≤ n + 1 → sm (List.replicate (n + 1) x) j = x * (j : Int) := fun j hj => sm_rep hj
  have hR : ∀ j, j < n + 1 → sm (List.replicate n 0 ++ [y]) j = 0 := fun j hj => sm_one (by omega)
  have hn := sm_one' n y
  have e1 : ∀ l : Nat, kep x y n l = x * (n : Int) + x + x * (l : Int) + y * (n : Int) + y - y * (l : Int) := fun l => by
    unfold kep
    rw [Int.natCast_add, Int.mul_add, Int.mul_sub, Int.mul_add, Int.mul_comm (l : Int) x]
    simp only [Int.natCast_one, Int.mul_one]
    omega
  rcases Int.lt_trichotomy y x with h | h | h
  · have hw := (lt_C1 (by omega) h hS hR hn (n + 1) 0 (by omega)).1
    have e0 : lw (sm (List.replicate (n + 1) x)) (sm (List.replicate n 0 ++ [y])) 0 (n + 1) = kep x y n 0 := by
      rw [hw, e1 0, Int.natCast_add, Int.mul_add, Int.mul_add]
      simp
      omega
    refine ⟨⟨0, by omega, e0⟩, fun l hl => ?_⟩
    rw [e0, e1, e1]
    have := Int.mul_le_mul_of_nonneg_right (show y ≤ x by omega) (show (0 : Int) ≤ (l : Int) by omega)
    simp
    omega
  · subst h
    have hw := lw_C0 (by omega) hS hR hn (n + 1) 0 (by omega)
    have e0 : ∀ l, lw (sm (List.replicate (n + 1) y)) (sm (List.replicate n 0 ++ [y])) 0 (n + 1) = kep y y n l := fun l => by
      rw [hw, e1 l, Int.natCast_add, Int.mul_add]
      simp
      omega
    exact ⟨⟨0, by omega, e0 0⟩, fun l _ => by rw [e0 l]; exact Int.le_refl _⟩
  · have hw := (lt_C2 (by omega) h hS hR hn n 0 (by omega)).1
    have e0 : lw (sm (List.replicate (n + 1) x)) (sm (List.replicate n 0 ++ [y])) 0 (n + 1) = kep x y n n := by
      rw [hw, e1 n]
      omega
    refine ⟨⟨n, by omega, e0⟩, fun l hl => ?_⟩
    rw [e0, e1, e1]
    have h1 := Int.mul_le_mul_of_nonneg_right (show x ≤ y by omega) (show (0 : Int) ≤ ((n - l : Nat) : Int) by omega)
    rw [Int.natCast_sub hl, Int.mul_sub, Int.mul_sub] at h1
    omega
theorem lw_ones : ∀ k, k < 8 → lw (sm (List.replicate k 1)) (sm (List.replicate k 1)) 0 k = ([0, 2, 5, 8, 12, 16, 20, 24] : List Int).getD k 0 := by decide +kernel
theorem rt_zero (n i m : Nat) : rt (sm (List.replicate n 0)) (sm (List.replicate n 0)) i m = 0 := by
  have h := (lt_A (S := sm (List.replicate n 0)) (R := sm (List.replicate n 0)) (X := 0) (by omega) (m + 1) i fun j _ _ => ⟨by rw [sm_rep0]; simp, sm_rep0 _ _⟩).2
  rw [lt_succ] at h
  have h2 : lt (sm (List.replicate n 0)) (sm (List.replicate n 0)) i (rt (sm (List.replicate n 0)) (sm (List.replicate n 0)) i m) = .nil := (T.node.inj h).1
  have h3 := lt_size (sm (List.replicate n 0)) (sm (List.replicate n 0)) (rt (sm (List.replicate n 0)) (sm (List.replicate n 0)) i m) i
  rw [h2] at h3
  exact h3.symm
theorem rtc_zero (n i : Nat) : rtc (sm (List.replicate n 0)) (sm (List.replicate n 0)) n i = List.replicate (n - i) (i : Int) := by
  unfold rtc
  rw [List.eq_replicate_iff]
  refine ⟨by simp, fun b hb => ?_⟩
  obtain ⟨m, _, rfl⟩ := List.mem_map.mp hb
  rw [rt_zero]
  rfl
theorem vi_rch (n : Nat) : vi (rch n).sch = (List.replicate n (0 : Int)).map V.int := by
  rw [rch_sch]
  simp [vi]
theorem vi_lch (n : Nat) : vi (lch (n + 1)).sch = ((0 : Int) :: List.replicate n 1).map V.int := by
  rw [lch_sch]
  simp [vi]
theorem sm_first {x : Int} {n j : Nat} (h1 : 1 ≤ j) : sm (x :: List.replicate n 0) j = x := by
  obtain ⟨k, rfl⟩ : ∃ k, j = k + 1 := ⟨j - 1, by omega⟩
  unfold sm
  rw [List.take_succ_cons, List.sum_cons, List.take_replicate, sum_rep]
  simp
theorem f_1 (n : Nat) {x : Int} (hx : 0 ≤ x) : lw (sm (List.replicate n x)) (sm (List.replicate n 0)) 0 n = x * (n : Int) ∧ lt (sm (List.replicate n x)) (sm (List.replicate n 0)) 0 n = rch n :=
  lt_A hx n 0 fun j _ h2 => ⟨sm_rep (by omega), sm_rep0 _ _⟩
theorem f_2 (n : Nat) {y : Int} (hy : 0 < y) : lw (sm (List.replicate n 0)) (sm (List.replicate n y)) 0 n = y * (n : Int) ∧ lt (sm (List.replicate n 0)) (sm (List.replicate n y)) 0 n = lch n :=
  lt_B hy n 0 fun j _ h2 => ⟨sm_rep0 _ _, sm_rep (by omega)⟩
theorem f_5 (n : Nat) {x : Int} (hx : 0 ≤ x) : lw (sm (x :: List.replicate n 0)) (sm (List.replicate (n + 1) 0)) 0 (n + 1) = x ∧ lt (sm (x :: List.replicate n 0)) (sm (List.replicate (n + 1) 0)) 0 (n + 1) = rch (n + 1) :=
  lt_F hx n (sm_zero _) (fun j h1 _ => sm_first h1) (fun j => sm_rep0 _ _)
theorem rep_v (n : Int) (x : Int) : (List.replicate n.toNat [V.int x]).flatten = (List.replicate n.toNat x).map V.int := by
  rw [List.flatten_replicate_singleton, List.map_replicate]
theorem lds_rep {n : Nat} {x : Int} (h : 0 ≤ x ∧ x ≤ 1000000000) : Lds (List.replicate n x) := fun y hy => by rw [(List.mem_replicate.mp hy).2]; exact h
theorem repI {K : PySem.W.Frag} {H : Hp} {l : Addr} {k : Int} {xs : List V} {Q : VK} (h : SqT K H l xs) (hn : xs ≠ []) (h0 : 0 ≤ k) (h2 : k ≤ 1000) (hz : xs.length ≤ 1000) (q : ∀ p H', Same H H' → SqT K H' p (List.replicate k.toNat xs).flatten → Q (.ref p) H') : rRepZ K (.ref l) (.int k) H Q := by
  refine ⟨l, k, xs, rfl, rfl, h, hn, h0, h2, hz, fun e => q l H (Same.refl H) ?_, fun p np => q p _ (same_upd np) (.inl (.inl upd_same))⟩
  rw [e]
  simpa using h
theorem ne_lw {K : PySem.W.Frag} {G G' : Hp} {p r i1 i2 : Addr} {w : Int} {ns : List Int} {Q : VK} (h1 : SqT K G p [.int w, .ref r]) (h2 : SqT K G r (ns.map V.int)) (s : Same G G') (g1 : SqT K G' i1 (ns.map V.int)) (g2 : SqT K G' i2 [.int w, .ref i1]) (q : Q (.bl false) G') : rNeD K (.ref p) (.ref i2) G' Q := by
  refine ne_data (d := .tuple [.int w, .tuple (ns.map PyData.int)]) (k := 2) (.tup (Same.tup s h1) (.cons (.int _) (.cons (dp_tup (Same.tup s h2)) .nil))) (.tup g2 (.cons (.int _) (.cons (dp_tup g1) .nil))) (Sh.tup (k := 1) fun d hd => ?_) (by decide) q
  simp only [List.mem_cons, List.not_mem_nil, or_false] at hd
  rcases hd with rfl | rfl
  · exact .int _
  · exact Sh.tup (k := 0) (Sh.ints _)
section
variable {P : Program} {w : World} {K : PySem.W.Frag} {mg : Str → Option Value} {base : Heap}
def sp_L_right (K : PySem.W.Frag) : Sp := fun vs H Q _ => ∃ (a : Addr), vs = [.ref a] ∧ Pot H a 0 ∧ ∀ H', But a H H' → Q (.bl true) H'
theorem ok_L_right (TX : Tx K mg) : FnOk P w K mg base CX0 67 TX.a_L_right TX.fd_L_right ["_law_pot_here"] (sp_L_right K) := by
  refine TX.f_L_right.ok sc_L_right (fun vs H Q E h => ?_) (fun cdv A outer s H vs Q E hr h => ?_)
  · obtain ⟨a, rfl, _⟩ := h; rfl
  · obtain ⟨a, rfl, hp, q⟩ := h
    refine ⟨_, (pss_cons (ps_asg (pe_tup (pa_cons (pe_op op_add pe_int (pe_call (ok_L_take TX) (hr.mono (by decide)) (by rfl) TX.g_L_take TX.f_L_take.kp TX.bd_L_take .nil pass0 (pa_cons (pv 0) (pa_cons pe_int pa_nil)))) (pa_cons (pe_op op_add pe_int (pe_call (ok_L_take TX) (hr.mono (by decide)) (by rfl) TX.g_L_take TX.f_L_take.kp TX.bd_L_take .nil pass0 (pa_cons (pv 0) (pa_cons (pe_op op_powW pe_int pe_int) pa_nil)))) (pa_cons (pe_op op_add pe_int (pe_call (ok_L_take TX) (hr.mono (by decide)) (by rfl) TX.g_L_take TX.f_L_take.kp TX.bd_L_take .nil pass0 (pa_cons (pv 0) (pa_cons (pe_op op_powW pe_int pe_int) pa_nil)))) pa_nil)))) (pg_tup rfl (pgs_cons (pg_name (i := 1) sc_L_right.nd rfl (.inr rfl)) (pgs_cons (pg_name (i := 2) sc_L_right.nd rfl (.inr rfl)) (pgs_cons (pg_name (i := 3) sc_L_right.nd rfl (.inr rfl)) pgs_nil)))))
      (pss_cons (ps_par3 (i := 4) (j := 5) (l := 6) (by rfl) sc_L_right.nd rfl rfl rfl (by decide) (by decide) (by decide) rfl rfl rfl (pa_cons (pe_op (k_repZ (K := K) rfl) (pe_tup (pa_cons pe_int pa_nil)) (pv 1)) (pa_cons (pe_op (k_repZ (K := K) rfl) (pe_tup (pa_cons (pv 2) pa_nil)) (pv 1)) (pa_cons (pe_op (k_repZ (K := K) rfl) (pe_tup (pa_cons (pv 3) pa_nil)) (pv 1)) pa_nil))) (by rfl))
      (pss_cons (ps_if (pt_cmpR (op_neD hr.units) (pe_call (ok_least_work TX) (hr.mono (by decide)) (by rfl) TX.g_least_work TX.f_least_work.kp TX.bd_least_work .nil pass0 (pa_cons (pv 5) (pa_cons (pv 4) pa_nil))) (pe_tup (pa_cons (pe_op op_mulW (pv 2) (pv 1)) (pa_cons (pe_op (k_repZ (K := K) rfl) (pe_tup (pa_cons pe_int pa_nil)) (pv 1)) pa_nil))) (nomark _))
        (pss_one (ps_ret pe_bl))
        pss_nil)
      (pss_cons (ps_if (pt_cmpR (op_neD hr.units) (pe_call (ok_least_work TX) (hr.mono (by decide)) (by rfl) TX.g_least_work TX.f_least_work.kp TX.bd_least_work .nil pass0 (pa_cons (pv 4) (pa_cons (pv 6) pa_nil))) (pe_tup (pa_cons (pe_op op_mulW (pv 3) (pv 1)) (pa_cons (pe_op (k_catT (K := K) rfl) (pe_tup (pa_cons pe_int pa_nil)) (pe_op (k_repZ (K := K) rfl) (pe_tup (pa_cons pe_int pa_nil)) (pe_op op_sub (pv 1) pe_int))) pa_nil))) (nomark _))
        (pss_one (ps_ret pe_bl))
        pss_nil)
      (pss_cons (ps_if (pt_cmpR (op_neD hr.units) (pe_call (ok_least_work TX) (hr.mono (by decide)) (by rfl) TX.g_least_work TX.f_least_work.kp TX.bd_least_work .nil pass0 (pa_cons (pv 4) (pa_cons (pv 4) pa_nil))) (pe_tup (pa_cons pe_int (pa_cons (pe_op (k_repZ (K := K) rfl) (pe_tup (pa_cons pe_int pa_nil)) (pv 1)) pa_nil))) (nomark _))
        (pss_one (ps_ret pe_bl))
        pss_nil)
      (pss_cut (ps_set (i := 7) sc_L_right.nd rfl (.inl rfl) (pe_call (ok_least_roots TX) (hr.mono (by decide)) (by rfl) TX.g_least_roots TX.f_least_roots.kp TX.bd_least_roots .nil pass0 (pa_cons (pv 4) (pa_cons (pv 4) pa_nil))))
      (pss_cons (ps_if (pt_cmpR (op_neD hr.units) (pv 7) (pe_callTy (T := "tuple") (k_tupOf (K := K) rfl) (by rfl) TX.b_tuple (by decide +kernel) (pa_cons (pe_lc (own := [("_law_i", 13)]) (by rfl) sc_L_right.nd (pi_range1 (by rfl) TX.b_range (pa_cons (pv 1) pa_nil)) (blkOk_by (own := [("_law_i", 13)]) (N := N_L_right) (sc := defScope s_L_right) (by decide +kernel)) (fun _ _ _ _ _ => (pg_name (i := 13) sc_L_right.nd rfl (Or.inl rfl))) (fun _ _ _ _ _ => pts_nil) (fun _ _ _ _ _ => (pe_op (k_repZ (K := K) rfl) (pe_tup (pa_cons (pv 13) pa_nil)) (pe_op op_sub (pv 1) (pv 13))))) pa_nil)) (nomark _))
        (pss_one (ps_ret pe_bl))
        pss_nil)
      (pss_cons (ps_par (i := 8) (j := 9) (by rfl) sc_L_right.nd rfl rfl (by decide) rfl rfl (pa_cons (pe_op (k_catT (K := K) rfl) (pe_tup (pa_cons (pv 2) pa_nil)) (pe_slice (k_slT (K := K) rfl) (pv 4) (po_some pe_int) po_none)) (pa_cons (pe_op (k_catT (K := K) rfl) (pe_slice (k_slT (K := K) rfl) (pv 4) (po_some pe_int) po_none) (pe_tup (pa_cons (pv 3) pa_nil))) pa_nil)) (by rfl))
      (pss_cons (ps_if (pt_cmpR (op_neD hr.units) (pe_call (ok_least_work TX) (hr.mono (by decide)) (by rfl) TX.g_least_work TX.f_least_work.kp TX.bd_least_work .nil pass0 (pa_cons (pv 8) (pa_cons (pv 4) pa_nil))) (pe_tup (pa_cons (pv 2) (pa_cons (pe_op (k_repZ (K := K) rfl) (pe_tup (pa_cons pe_int pa_nil)) (pv 1)) pa_nil))) (nomark _))
        (pss_one (ps_ret pe_bl))
        pss_nil)
      (pss_cons (ps_set (i := 10) sc_L_right.nd rfl (.inl rfl) (pe_ix (k_ixT (K := K) rfl) (pe_call (ok_least_work TX) (hr.mono (by decide)) (by rfl) TX.g_least_work TX.f_least_work.kp TX.bd_least_work .nil pass0 (pa_cons (pv 5) (pa_cons (pv 9) pa_nil))) pe_int (fun _ _ => rfl)))
      (pss_cons (ps_setLc (i := 11) (own := [("_law_later", 12)]) (by rfl) sc_L_right.nd rfl rfl (sw_true rfl rfl rfl (by decide +kernel)) (pi_range1 (by rfl) TX.b_range (pa_cons (pv 1) pa_nil)) (blkOk_by (own := [("_law_later", 12)]) (N := N_L_right) (sc := defScope s_L_right) (by decide +kernel)) (fun _ _ _ _ _ => (pg_name (i := 12) sc_L_right.nd rfl (Or.inl rfl))) (fun _ _ _ _ _ => pts_nil) (fun _ _ _ _ _ => (pe_op op_add (pe_op op_add (pe_op op_mulW (pv 2) (pv 1)) (pe_op op_mulW (pv 12) (pv 2))) (pe_op op_mulW (pv 3) (pe_op op_sub (pv 1) (pv 12))))))
      (pss_one (ps_ret (pe_cmpR op_eq (pv 10) (pe_callB (id := "min") (cr_min rfl) (by rfl) TX.b_min (by decide +kernel) (pa_cons (pv 11) pa_nil)) (nomark _))))))))))))))), ?_⟩
    refine ⟨.ref a, rfl, a, 60, _, rfl, hp, by decide, by decide, by decide, fun H1 r1 b1 p1 r10 r11 => ⟨_, _, rfl, rfl, ?_⟩⟩
    refine ⟨.ref a, rfl, _, _, rfl, rfl, ⟨by decide, by decide +kernel⟩, a, _, _, rfl, p1, by decide, by decide, by decide, fun H2 r2 b2 p2 r20 r21 => ⟨_, _, rfl, rfl, ?_⟩⟩
    refine ⟨.ref a, rfl, _, _, rfl, rfl, ⟨by decide, by decide +kernel⟩, a, _, _, rfl, p2, by decide, by decide, by decide, fun H3 r3 b3 p3 r30 r31 => ⟨_, _, rfl, rfl, ?_⟩⟩
    obtain ⟨n, rfl⟩ : ∃ n : Nat, r1 = (n : Int) := ⟨r1.toNat, by omega⟩
    have hn : n + 1 ≤ 60 := by omega
    have en : (1 : Int) + (n : Int) = ((n + 1 : Nat) : Int) := by omega
    have et : ((1 : Int) + (n : Int)).toNat = n + 1 := by omega
    have e9 : (10 : Int) ^ (9 : Int).toNat = 1000000000 := by decide
    obtain ⟨x, hx⟩ : ∃ x, x = 1 + r2 := ⟨_, rfl⟩
    obtain ⟨y, hy⟩ : ∃ y, y = 1 + r3 := ⟨_, rfl⟩
    have x1 : 0 < x ∧ x ≤ 1000000000 := ⟨by omega, by omega⟩
    have y1 : 0 < y ∧ y ≤ 1000000000 := ⟨by omega, by omega⟩
    have b03 : But a H H3 := (b1.trans b2).trans b3
    clear b1 b2 b3 p1 p2 p3 hp
    refine ⟨sz60 (by simp), fun tp ntp => ?_⟩
    replace b03 := b03.trans (But.of (same_upd (o := .tup [V.int (1 + (n : Int)), V.int (1 + r2), V.int (1 + r3)]) ntp))
    refine ⟨tp, _, rfl, .inl (.inl upd_same), rfl, _, _, rfl, _, _, rfl, _, _, rfl, rfl, ?_⟩
    generalize upd H3 tp _ = H3 at b03
    refine ⟨sz60 (by simp), fun z1 n1 => ⟨_, rfl, repI (.inl (.inl upd_same)) (by simp) (by omega) (by omega) (by simp) fun t1 G1 u1 h1 => ?_⟩⟩
    replace h1 : SqT K G1 t1 ((List.replicate (n + 1) 0).map V.int) := by rw [← et, ← rep_v]; exact h1
    have v1 := (same_upd (o := .tup [V.int 0]) n1).trans u1
    refine ⟨_, rfl, sz60 (by simp), fun z2 n2 => ⟨_, rfl, repI (.inl (.inl upd_same)) (by simp) (by omega) (by omega) (by simp) fun t2 G2 u2 h2 => ?_⟩⟩
    replace h2 : SqT K G2 t2 ((List.replicate (n + 1) x).map V.int) := by rw [← et, ← rep_v, hx]; exact h2
    have v2 := (same_upd (o := .tup [V.int (1 + r2)]) n2).trans u2
    refine ⟨_, rfl, sz60 (by simp), fun z3 n3 => ⟨_, rfl, repI (.inl (.inl upd_same)) (by simp) (by omega) (by omega) (by simp) fun t3 G3 u3 h3 => ?_⟩⟩
    replace h3 : SqT K G3 t3 ((List.replicate (n + 1) y).map V.int) := by rw [← et, ← rep_v, hy]; exact h3
    have v3 := (same_upd (o := .tup [V.int (1 + r3)]) n3).trans u3
    refine ⟨_, _, _, rfl, ?_⟩
    replace h1 := Same.tup (v2.trans v3) h1
    replace h2 := Same.tup v3 h2
    have w3 := (v1.trans v2).trans v3
    clear v1 v2 v3 u1 u2 u3 n1 n2 n3
    have d0 : Lds (List.replicate (n + 1) 0) := lds_rep (by decide)
    have dx : Lds (List.replicate (n + 1) x) := lds_rep (by omega)
    have dy : Lds (List.replicate (n + 1) y) := lds_rep (by omega)
    -- no reads
    refine ⟨.ref t2, rfl, .ref t1, rfl, t2, t1, _, _, rfl, h2, h1, dx, d0, by simp, by simp; omega, fun G4 o4 r4 s4 k4 k4' => ?_⟩
    rw [List.length_replicate] at k4 k4'
    rw [(f_1 (n + 1) (by omega)).1] at k4
    rw [(f_1 (n + 1) (by omega)).2, vi_rch] at k4'
    refine ⟨_, rfl, _, rfl, _, _, rfl, rfl, wide_mul (a := 31) (b := 8) (by omega) (by omega) (by decide) (by decide) (by decide), sz60 (by simp), fun z4 n4 => ⟨_, rfl, repI (.inl (.inl upd_same)) (by simp) (by omega) (by omega) (by simp) fun t4 G5 u4 h4 => ⟨sz60 (by simp), fun i4 ni4 => ?_⟩⟩⟩
    replace h4 : SqT K G5 t4 ((List.replicate (n + 1) 0).map V.int) := by rw [← et, ← rep_v]; exact h4
    have m4 := (same_upd (o := .tup [V.int 0]) n4).trans u4
    have m4' := same_upd (o := .tup [V.int ((1 + r2) * (1 + (n : Int))), V.ref t4]) ni4
    refine ne_lw k4 k4' (m4.trans m4') (Same.tup m4' h4) (by rw [← en, hx]; exact .inl (.inl upd_same)) ⟨_, rfl, iteF ?_⟩
    have s34 := s4.trans (m4.trans m4')
    -- no sizes
    refine ⟨.ref t1, rfl, .ref t3, rfl, t1, t3, _, _, rfl, Same.tup s34 h1, Same.tup s34 h3, d0, dy, by simp, by simp; omega, fun G6 o5 r5 s5 k5 k5' => ?_⟩
    rw [List.length_replicate] at k5 k5'
    rw [(f_2 (n + 1) (by omega)).1] at k5
    rw [(f_2 (n + 1) (by omega)).2, vi_lch] at k5'
    refine ⟨_, rfl, _, rfl, _, _, rfl, rfl, wide_mul (a := 31) (b := 8) (by omega) (by omega) (by decide) (by decide) (by decide), sz60 (by simp), fun z5 n5 => ⟨sz60 (by simp), fun z6 n6 => ⟨_, rfl, _, _, rfl, rfl, repI (.inl (.inl upd_same)) (by simp) (by omega) (by omega) (by simp) fun t5 G7 u5 h5 => ?_⟩⟩⟩
    have v5 := same_upd (o := .tup [V.int 0]) n5
    have v6 := (same_upd (o := .tup [V.int 1]) n6).trans u5
    refine cat_read (Same.tup v6 (.inl (.inl upd_same))) h5 (by simp; omega) fun t6 G8 u6 h6 => ⟨sz60 (by simp), fun i5 ni5 => ?_⟩
    have et1 : ((1 : Int) + (n : Int) - 1).toNat = n := by omega
    replace h6 : SqT K G8 t6 (((0 : Int) :: List.replicate n 1).map V.int) := by
      rw [rep_v, et1] at h6
      exact h6
    have m5' := same_upd (o := .tup [V.int ((1 + r3) * (1 + (n : Int))), V.ref t6]) ni5
    have m5 := ((v5.trans v6).trans u6).trans m5'
    refine ne_lw k5 k5' m5 (Same.tup m5' h6) (by rw [← en, hy]; exact .inl (.inl upd_same)) ⟨_, rfl, iteF ?_⟩
    have s35 := (s34.trans s5).trans m5
    -- neither
    refine ⟨.ref t1, rfl, .ref t1, rfl, t1, t1, _, _, rfl, Same.tup s35 h1, Same.tup s35 h1, d0, d0, by simp, by simp; omega, fun G9 o6 r6 s6 k6 k6' => ?_⟩
    rw [List.length_replicate] at k6 k6'
    rw [(f_1 (n + 1) (x := 0) (by omega)).1, Int.zero_mul] at k6
    rw [(f_1 (n + 1) (x := 0) (by omega)).2, vi_rch] at k6'
    refine ⟨sz60 (by simp), fun z7 n7 => ⟨_, rfl, repI (.inl (.inl upd_same)) (by simp) (by omega) (by omega) (by simp) fun t7 G10 u7 h7 => ⟨sz60 (by simp), fun i7 ni7 => ?_⟩⟩⟩
    replace h7 : SqT K G10 t7 ((List.replicate (n + 1) 0).map V.int) := by rw [← et, ← rep_v]; exact h7
    have m7' := same_upd (o := .tup [V.int 0, V.ref t7]) ni7
    have m7 := ((same_upd (o := .tup [V.int 0]) n7).trans u7).trans m7'
    refine ne_lw k6 k6' m7 (Same.tup m7' h7) (.inl (.inl upd_same)) ⟨_, rfl, iteF ?_⟩
    have s36 := (s35.trans s6).trans m7
    -- the roots
    have b10 := b03.trans (But.of (w3.trans s36))
    have h1 := Same.tup s36 h1
    have h2 := Same.tup s36 h2
    clear h3 k4 k4' k5 k5' k6 k6' h4 h5 h6 h7 m7 m7' m5 m5' m4 m4' s34 s35 s36 s6 s5 s4 u4 u5 u6 u7 v5 v6 w3
    generalize upd G10 i7 _ = G11 at h1 h2 b10
    refine ⟨fun σ' H' => ∃ ro : Addr, σ' = [some (.ref a), some (.int (1 + (n : Int))), some (.int (1 + r2)), some (.int (1 + r3)), some (.ref t1), some (.ref t2), some (.ref t3), some (.ref ro), none, none, none, none, none, none] ∧ But a H H' ∧ SqT K H' t1 ((List.replicate (n + 1) 0).map V.int) ∧ SqT K H' t2 ((List.replicate (n + 1) x).map V.int) ∧ Dp K H' (.ref ro) (.tuple ((List.range (n + 1)).map fun i => .tuple ((List.replicate (n + 1 - i) (i : Int)).map PyData.int))), ?_, ?_⟩
    · refine ⟨.ref t1, rfl, .ref t1, rfl, t1, t1, _, _, rfl, h1, h1, d0, d0, by simp, by simp; omega, fun G12 ro s12 k12 => ?_⟩
      rw [List.length_replicate] at k12
      refine ⟨ro, rfl, b10.trans (But.of s12), Same.tup s12 h1, Same.tup s12 h2, ?_⟩
      unfold dRoots at k12
      simp only [rtc_zero] at k12
      exact k12
    clear b10 h1 h2
    rintro σ H' ⟨ro, rfl, b12, h1, h2, k12⟩
    refine ⟨_, rfl, _, rfl, _, rfl, by omega, by omega, fun D nD => ?_⟩
    refine lc_all (K := K) walk_range ((List.range (n + 1)).map fun i => .tuple ((List.replicate (n + 1 - i) (i : Int)).map PyData.int)) (by simp; omega) (fun d h => by obtain ⟨i, _, rfl⟩ := List.mem_map.mp h; exact .tup (tf_ints _)) (by omega) nD (fun _ _ => trivial) ?_ ?_ (fun x σ' H' Q Q' h => h _ _) (fun σ' H' Q Q' h => h _ _)
    · rintro i xv Hx Hx' hi sx hyy d hd R hR
      obtain ⟨rfl, rfl⟩ := hyy
      have hi2 : i < n + 1 := by omega
      have ei : (0 : Int) + ((i : Nat) : Int) = ((i : Nat) : Int) := by omega
      dsimp only
      rw [ei]
      rw [List.getElem?_map, List.getElem?_range hi2] at hd
      cases hd
      refine ⟨rfl, rfl, _, rfl, sz60 (by simp), fun z nz => ⟨_, rfl, _, rfl, _, _, rfl, rfl, repI (.inl (.inl upd_same)) (by simp) (by omega) (by omega) (by simp) fun t' G u h => ?_⟩⟩
      refine hR _ _ ((same_upd nz).trans u) (dp_tup ?_)
      rw [rep_v, show ((1 : Int) + (n : Int) - (i : Int)).toNat = n + 1 - i by omega] at h
      exact h
    intro H5 acc s5 ha hA5
    refine ⟨D, _, rfl, .inl ⟨.inl (.inl ha), fun o no => ?_⟩⟩
    have z6 := same_upd (o := .tup acc) no
    have s6 := s5.trans z6
    refine ne_data (d := .tuple ((List.range (n + 1)).map fun i => .tuple ((List.replicate (n + 1 - i) (i : Int)).map PyData.int))) (k := 2) (Dp.same s6 k12) (.tup (.inl (.inl upd_same)) (DpAll.same z6 hA5)) (Sh.tup (k := 1) fun d hd => ?_) (by decide) ⟨_, rfl, iteF ?_⟩
    · obtain ⟨i, _, rfl⟩ := List.mem_map.mp hd
      exact Sh.tup (k := 0) (Sh.ints _)
    replace h1 := Same.tup s6 h1
    replace h2 := Same.tup s6 h2
    replace b12 := b12.trans (But.of s6)
    clear k12 ha hA5 s5 z6 s6
    generalize upd H5 o _ = G6 at h1 h2 b12
    -- only the first one has a size; only the last one has reads
    have ecut : cutV ((List.replicate (n + 1) (0 : Int)).map V.int) (some 1) none = (List.replicate n 0).map V.int := by
      rw [show (1 : Int) = ((1 : Nat) : Int) by rfl, cut_from (by simp), ← List.map_drop]
      simp
    refine ⟨_, rfl, sz60 (by simp), fun z7 n7 => ⟨.ref t1, rfl, _, rfl, ?_⟩⟩
    have m7 := same_upd (o := .tup [V.int (1 + r2)]) n7
    dsimp only [tNoPart]
    refine sl_read (Same.tup m7 h1) fun c1 G8 s8 hc1 => ?_
    rw [ecut] at hc1
    refine cat_read (Same.tup s8 (.inl (.inl upd_same))) hc1 (by simp; omega) fun fi G9 s9 hfi => ?_
    replace hfi : SqT K G9 fi ((x :: List.replicate n 0).map V.int) := by rw [hx]; exact hfi
    have s79 := (m7.trans s8).trans s9
    refine ⟨.ref t1, rfl, _, rfl, ?_⟩
    dsimp only [tNoPart]
    refine sl_read (Same.tup s79 h1) fun c2 G10 s10 hc2 => ?_
    rw [ecut] at hc2
    refine ⟨_, rfl, sz60 (by simp), fun c3 nc3 => ?_⟩
    have m10 := same_upd (o := .tup [V.int (1 + r3)]) nc3
    refine cat_read (Same.tup m10 hc2) (.inl (.inl upd_same)) (by simp; omega) fun la G11 s11 hla => ?_
    replace hla : SqT K G11 la ((List.replicate n 0 ++ [y]).map V.int) := by
      rw [List.map_append, hy]
      exact hla
    have s911 := (s10.trans m10).trans s11
    have s711 := s79.trans s911
    refine ⟨_, _, rfl, ?_⟩
    replace hfi := Same.tup s911 hfi
    replace h1 := Same.tup s711 h1
    replace h2 := Same.tup s711 h2
    replace b12 := b12.trans (But.of s711)
    have dx : Lds (List.replicate (n + 1) x) := lds_rep (by omega)
    have d0 : Lds (List.replicate (n + 1) 0) := lds_rep (by decide)
    have df : Lds (x :: List.replicate n 0) := fun z hz => by
      rcases List.mem_cons.mp hz with rfl | hz
      · omega
      · rw [(List.mem_replicate.mp hz).2]; decide
    have dl : Lds (List.replicate n 0 ++ [y]) := fun z hz => by
      rcases List.mem_append.mp hz with hz | hz
      · rw [(List.mem_replicate.mp hz).2]; decide
      · rw [List.mem_singleton.mp hz]; omega
    refine ⟨.ref fi, rfl, .ref t1, rfl, fi, t1, _, _, rfl, hfi, h1, df, d0, by simp, by simp; omega, fun G12 o6 r6 s6 k6 k6' => ?_⟩
    rw [List.length_cons, List.length_replicate] at k6 k6'
    rw [(f_5 n (by omega)).1] at k6
    rw [(f_5 n (by omega)).2, vi_rch] at k6'
    refine ⟨_, rfl, sz60 (by simp), fun z8 n8 => ⟨_, rfl, repI (.inl (.inl upd_same)) (by simp) (by omega) (by omega) (by simp) fun t7 G13 u7 h7 => ⟨sz60 (by simp), fun i7 ni7 => ?_⟩⟩⟩
    replace h7 : SqT K G13 t7 ((List.replicate (n + 1) 0).map V.int) := by rw [← et, ← rep_v]; exact h7
    have m7' := same_upd (o := .tup [V.int (1 + r2), V.ref t7]) ni7
    have m8 := ((same_upd (o := .tup [V.int 0]) n8).trans u7).trans m7'
    refine ne_lw k6 k6' m8 (Same.tup m7' h7) (by rw [hx]; exact .inl (.inl upd_same)) ⟨_, rfl, iteF ?_⟩
    have s12 := s6.trans m8
    refine ⟨.ref t2, rfl, .ref la, rfl, t2, la, _, _, rfl, Same.tup s12 h2, Same.tup s12 hla, dx, dl, by simp, by simp; omega, fun G14 o9 r9 s14 k9 k9' => ?_⟩
    rw [List.length_replicate] at k9
    refine ⟨o9, _, 0, _, rfl, rfl, k9, rfl, ?_⟩
    obtain ⟨⟨l0, hl0, hw0⟩, hwl⟩ := lw_C x1.1 y1.1 n
    obtain ⟨W, hW⟩ : ∃ W, W = lw (sm (List.replicate (n + 1) x)) (sm (List.replicate n 0 ++ [y])) 0 (n + 1) := ⟨_, rfl⟩
    rw [← hW] at hw0
    refine ⟨_, rfl, _, rfl, by omega, by omega, fun D nD => ?_⟩
    refine lc_all (K := K) walk_range (((List.range (n + 1)).map (kep x y n)).map PyData.int) (by simp; omega) (tf_ints _) (by omega) nD (fun _ _ => trivial) ?_ ?_ (fun x σ' H' Q Q' h => h _ _) (fun σ' H' Q Q' h => h _ _)
    · rintro i xv Hx Hx' hi sx hyy d hd R hR
      obtain ⟨rfl, rfl⟩ := hyy
      have hi2 : i < n + 1 := by omega
      have ei : (0 : Int) + ((i : Nat) : Int) = ((i : Nat) : Int) := by omega
      dsimp only
      rw [ei]
      rw [List.getElem?_map, List.getElem?_map, List.getElem?_range hi2] at hd
      cases hd
      have ek : kep x y n i = (1 + r2) * (1 + (n : Int)) + (i : Int) * (1 + r2) + (1 + r3) * (1 + (n : Int) - (i : Int)) := by
        unfold kep
        rw [hx, hy, en]
      refine ⟨rfl, rfl, _, rfl, _, rfl, _, _, rfl, rfl, wide_mul (a := 31) (b := 8) (by omega) (by omega) (by decide) (by decide) (by decide), _, rfl, _, rfl, _, _, rfl, rfl, wide_mul (a := 8) (b := 31) (by omega) (by omega) (by decide) (by decide) (by decide), _, _, rfl, rfl, _, rfl, _, rfl, _, rfl, _, _, rfl, rfl, _, _, rfl, rfl, wide_mul (a := 31) (b := 8) (by omega) (by omega) (by decide) (by decide) (by decide), _, _, rfl, rfl, ?_⟩
      refine hR _ _ (Same.refl _) ?_
      rw [ek]
      exact .int _
    intro H5 acc s5 ha hA5
    rw [dp_ints_inv hA5] at ha
    have hmem : W ∈ (List.range (n + 1)).map (kep x y n) := List.mem_map.mpr ⟨l0, List.mem_range.mpr (by omega), hw0.symm⟩
    refine ⟨_, rfl, _, rfl, D, _, rfl, .inl (.inl ha), List.length_pos_of_mem hmem, fun mm g1 g2 => ?_⟩
    have em : mm = W := by
      have a1 := g2 W hmem
      obtain ⟨l, hl, rfl⟩ := List.mem_map.mp g1
      have a2 := hwl l (by have := List.mem_range.mp hl; omega)
      rw [← hW] at a2
      omega
    rw [em]
    have q' := q _ (((b12.trans (But.of (s12.trans s14))).trans (But.of s5)))
    show rEq (V.int (lw (sm (List.replicate (n + 1) x)) (sm (List.replicate n 0 ++ [y])) 0 (n + 1))) (V.int W) H5 _
    rw [← hW]
    refine ⟨rfl, ?_⟩
    rw [decide_eq_true rfl]
    exact q'
def sp_law (K : PySem.W.Frag) : Sp := fun vs H Q _ => ∃ (a : Addr) (ns : List Int), vs = [.ref a] ∧ SqL K H a (ns.map V.int) ∧ ns.length ≤ 63 ∧ ∀ H', Q (.bl true) H'
theorem ok_law (TX : Tx K mg) : FnOk P w K mg base CX0 68 TX.a_law TX.fd_law ["_law_script"] (sp_law K) := by
  refine TX.f_law.ok sc_law (fun vs H Q E h => ?_) (fun cdv A outer s H vs Q E hr h => ?_)
  · obtain ⟨a, ns, rfl, _⟩ := h; rfl
  · obtain ⟨a, ns, rfl, hS, hlen, q⟩ := h
    refine ⟨_, (pss_cons (ps_for PassesOwn.never rfl (pi_range1 (by rfl) TX.b_range (pa_cons pe_int pa_nil)) (pg_name (i := 1) sc_law.nd rfl (.inl rfl))
        (pss_one (ps_if (pt_not (pt_val (pe_call (ok_L_right TX) (hr.mono (by decide)) (by rfl) TX.g_L_right TX.f_L_right.kp TX.bd_L_right .nil pass0 (pa_cons (pe_call (ok_L_pot TX) (hr.mono (by decide)) (by rfl) TX.g_L_pot TX.f_L_pot.kp TX.bd_L_pot .nil pass0 (pa_cons (pv 0) (pa_cons (pv 1) pa_nil))) pa_nil))))
          (pss_one (ps_ret pe_bl))
          pss_nil)))
      (pss_cons (ps_if (PW.pt (pw_or (pt_cmpR (op_neD hr.units) (pe_call (ok_least_work TX) (hr.mono (by decide)) (by rfl) TX.g_least_work TX.f_least_work.kp TX.bd_least_work .nil pass0 (pa_cons (pe_tup pa_nil) (pa_cons (pe_tup pa_nil) pa_nil))) (pe_tup (pa_cons pe_int (pa_cons (pe_tup pa_nil) pa_nil))) (nomark _)) (pw_or1 (pt_cmpR (op_neD hr.units) (pe_call (ok_least_roots TX) (hr.mono (by decide)) (by rfl) TX.g_least_roots TX.f_least_roots.kp TX.bd_least_roots .nil pass0 (pa_cons (pe_tup pa_nil) (pa_cons (pe_tup pa_nil) pa_nil))) (pe_tup pa_nil) (nomark _)))))
        (pss_one (ps_ret pe_bl))
        pss_nil)
      (pss_cons (ps_setLc (i := 2) (own := [("_law_count", 3)]) (by rfl) sc_law.nd rfl rfl (sw_true rfl rfl rfl (by decide +kernel)) (pi_range1 (by rfl) TX.b_range (pa_cons pe_int pa_nil)) (blkOk_by (own := [("_law_count", 3)]) (N := N_law) (sc := defScope s_law) (by decide +kernel)) (fun _ _ _ _ _ => (pg_name (i := 3) sc_law.nd rfl (Or.inl rfl))) (fun _ _ _ _ _ => pts_nil) (fun _ _ _ _ _ => (pe_ix (k_ixT (K := K) rfl) (pe_call (ok_least_work TX) (hr.mono (by decide)) (by rfl) TX.g_least_work TX.f_least_work.kp TX.bd_least_work .nil pass0 (pa_cons (pe_op (k_repZ (K := K) rfl) (pe_tup (pa_cons pe_int pa_nil)) (pv 3)) (pa_cons (pe_op (k_repZ (K := K) rfl) (pe_tup (pa_cons pe_int pa_nil)) (pv 3)) pa_nil))) pe_int (fun _ _ => rfl))))
      (pss_one (ps_ret (pe_cmpR (op_eqD hr.units) (pv 2) (pe_lst (pa_cons pe_int (pa_cons pe_int (pa_cons pe_int (pa_cons pe_int (pa_cons pe_int (pa_cons pe_int (pa_cons pe_int (pa_cons pe_int pa_nil))))))))) (nomark _))))))), ?_⟩
    refine ⟨_, rfl, by decide, by decide, for_range (lo := 0) (fun i σ H' => ∃ y1 y2 y3, σ = [some (.ref a), y1, y2, y3] ∧ Same H H') ⟨_, _, _, rfl, Same.refl _⟩ ?_ ?_⟩
    · rintro i σ H1 hi ⟨y1, y2, y3, rfl, s1⟩
      have hi2 : i < 2 := hi
      have ei : (0 : Int) + ((i : Nat) : Int) = ((i : Nat) : Int) := by omega
      rw [ei]
      refine ⟨.ref a, rfl, _, rfl, a, ns, i, rfl, s1.seq hS, by omega, fun H2 p s2 np pp => ?_⟩
      refine ⟨p, rfl, pp, fun H3 b3 => ⟨true, rfl, iteF ?_⟩⟩
      exact ⟨_, _, _, rfl, s1.trans (But.same s2 b3 np)⟩
    · rintro σ H1 ⟨y1, y2, y3, rfl, s1⟩
      have l0 : Lds [] := fun z hz => by cases hz
      refine ⟨sz60 (by simp), fun e1 ne1 => ⟨sz60 (by simp), fun e2 ne2 => ?_⟩⟩
      have v1 := same_upd (o := .tup []) ne1
      have v2 := same_upd (o := .tup []) ne2
      refine ⟨e1, e2, [], [], rfl, Same.tup v2 (.inl (.inl upd_same)), .inl (.inl upd_same), l0, l0, rfl, by decide, fun G1 o1 r1 s1 k1 k1' => ?_⟩
      refine ⟨sz60 (by simp), fun e3 ne3 => ⟨sz60 (by simp), fun e4 ne4 => ?_⟩⟩
      have v3 := same_upd (o := .tup []) ne3
      have v4 := same_upd (o := .tup [V.int 0, V.ref e3]) ne4
      refine ne_lw (w := 0) (ns := []) k1 k1' (v3.trans v4) (Same.tup v4 (.inl (.inl upd_same))) (.inl (.inl upd_same)) ⟨_, rfl, iteF ?_⟩
      refine ⟨sz60 (by simp), fun e5 ne5 => ⟨sz60 (by simp), fun e6 ne6 => ?_⟩⟩
      have v5 := same_upd (o := .tup []) ne5
      have v6 := same_upd (o := .tup []) ne6
      refine ⟨e5, e6, [], [], rfl, Same.tup v6 (.inl (.inl upd_same)), .inl (.inl upd_same), l0, l0, rfl, by decide, fun G2 o2 s2 k2 => ?_⟩
      refine ⟨sz60 (by simp), fun e7 ne7 => ?_⟩
      have v7 := same_upd (o := .tup []) ne7
      refine ne_data (d := .tuple []) (k := 1) (Dp.same v7 k2) (.tup (.inl (.inl upd_same)) .nil) (Sh.tup (k := 0) (by simp)) (by decide) ⟨_, rfl, iteF ?_⟩
      generalize upd G2 e7 _ = G3
      refine ⟨_, rfl, by decide, by decide, fun D nD => ?_⟩
      refine lc_all (K := K) walk_range (([0, 2, 5, 8, 12, 16, 20, 24] : List Int).map PyData.int) rfl (tf_ints _) (by decide) nD (fun _ _ => trivial) ?_ ?_ (fun x σ' H' Q Q' h => h _ _) (fun σ' H' Q Q' h => h _ _)
      · rintro i xv Hx Hx' hi sx hyy d hd R hR
        obtain ⟨rfl, rfl⟩ := hyy
        have hi8 : i < 8 := hi
        have ei : (0 : Int) + ((i : Nat) : Int) = ((i : Nat) : Int) := by omega
        dsimp only
        rw [ei]
        refine ⟨rfl, rfl, sz60 (by simp), fun z1 n1 => ⟨_, rfl, repI (.inl (.inl upd_same)) (by simp) (by omega) (by omega) (by simp) fun t1 G4 u1 h1 => ?_⟩⟩
        refine ⟨sz60 (by simp), fun z2 n2 => ⟨_, rfl, repI (.inl (.inl upd_same)) (by simp) (by omega) (by omega) (by simp) fun t2 G5 u2 h2 => ?_⟩⟩
        rw [rep_v, Int.toNat_natCast] at h1 h2
        have w1 := (same_upd (o := .tup [V.int 1]) n1).trans u1
        have w2 := (same_upd (o := .tup [V.int 1]) n2).trans u2
        refine ⟨t1, t2, _, _, rfl, Same.tup w2 h1, h2, lds_rep (by decide), lds_rep (by decide), rfl, by simp; omega, fun G6 o6 r6 s6 k6 k6' => ?_⟩
        rw [List.length_replicate, lw_ones i hi8] at k6
        refine ⟨o6, _, 0, _, rfl, rfl, k6, rfl, ?_⟩
        refine hR _ _ ((w1.trans w2).trans s6) ?_
        have ed : d = PyData.int (([0, 2, 5, 8, 12, 16, 20, 24] : List Int).getD i 0) := by
          rw [List.getElem?_map, List.getElem?_eq_getElem hi8] at hd
          rw [List.getD_eq_getElem?_getD, List.getElem?_eq_getElem hi8]
          exact (Option.some.inj hd).symm
        rw [ed]
        exact .int _
      · intro H5 acc s5 ha hA5
        refine ⟨_, rfl, sz60 (by simp), fun c1 nc1 => ?_⟩
        have z6 := same_upd (o := .lst [V.int 0, V.int 2, V.int 5, V.int 8, V.int 12, V.int 16, V.int 20, V.int 24]) nc1
        refine eq_data (d := .list (([0, 2, 5, 8, 12, 16, 20, 24] : List Int).map PyData.int)) (k := 1) (.lst (.inl (.inl (z6 _ _ ha))) (DpAll.same z6 hA5)) (.lst (.inl (.inl upd_same)) (dp_ints [0, 2, 5, 8, 12, 16, 20, 24])) (Sh.lst (k := 0) (Sh.ints _)) (by decide) ?_
        exact q _
end
theorem all_mk {l : PySem.W.OpenLaw} {w : World} {K : PySem.W.Frag} {h : Heap} {mg : Str → Option Value} {fa : Addr} (X : K.In h) (G : h.Ns mainGlobals mg) (hfa : mg "law" = some (.ref fa))
    {f_is_int : Addr} {od_is_int an_is_int : Option Addr} {sl_is_int : Array (Option Value)} {oc_is_int kV_is_int dc_is_int pm_is_int cd_is_int ct_is_int : Value}
    (a_is_int : PySem.W.nsIn K mainGlobals "is_int" = some (some (.ref f_is_int))) (l_is_int : K.lookup f_is_int = some ⟨oc_is_int, od_is_int, .func (PySem.W.fnOf "is_int" "is_int" (defArgs s_is_int) (defBody s_is_int) (defScope s_is_int) .none kV_is_int dc_is_int pm_is_int an_is_int cd_is_int ct_is_int), sl_is_int⟩) (c_is_int : PySem.W.codeIn K cd_is_int "is_int" = true) (k_is_int : PySem.W.keepIn K (.ref f_is_int) = true)
    {f_is_count : Addr} {od_is_count an_is_count : Option Addr} {sl_is_count : Array (Option Value)} {oc_is_count kV_is_count dc_is_count pm_is_count cd_is_count ct_is_count : Value}
    (a_is_count : PySem.W.nsIn K mainGlobals "is_count" = some (some (.ref f_is_count))) (l_is_count : K.lookup f_is_count = some ⟨oc_is_count, od_is_count, .func (PySem.W.fnOf "is_count" "is_count" (defArgs s_is_count) (defBody s_is_count) (defScope s_is_count) .none kV_is_count dc_is_count pm_is_count an_is_count cd_is_count ct_is_count), sl_is_count⟩) (c_is_count : PySem.W.codeIn K cd_is_count "is_count" = true) (k_is_count : PySem.W.keepIn K (.ref f_is_count) = true)
    {f_is_count_up_to : Addr} {od_is_count_up_to an_is_count_up_to : Option Addr} {sl_is_count_up_to : Array (Option Value)} {oc_is_count_up_to kV_is_count_up_to dc_is_count_up_to pm_is_count_up_to cd_is_count_up_to ct_is_count_up_to : Value}
    (a_is_count_up_to : PySem.W.nsIn K mainGlobals "is_count_up_to" = some (some (.ref f_is_count_up_to))) (l_is_count_up_to : K.lookup f_is_count_up_to = some ⟨oc_is_count_up_to, od_is_count_up_to, .func (PySem.W.fnOf "is_count_up_to" "is_count_up_to" (defArgs s_is_count_up_to) (defBody s_is_count_up_to) (defScope s_is_count_up_to) .none kV_is_count_up_to dc_is_count_up_to pm_is_count_up_to an_is_count_up_to cd_is_count_up_to ct_is_count_up_to), sl_is_count_up_to⟩) (c_is_count_up_to : PySem.W.codeIn K cd_is_count_up_to "is_count_up_to" = true) (k_is_count_up_to : PySem.W.keepIn K (.ref f_is_count_up_to) = true)
    {f_are_loads : Addr} {od_are_loads an_are_loads : Option Addr} {sl_are_loads : Array (Option Value)} {oc_are_loads kV_are_loads dc_are_loads pm_are_loads cd_are_loads ct_are_loads : Value}
    (a_are_loads : PySem.W.nsIn K mainGlobals "are_loads" = some (some (.ref f_are_loads))) (l_are_loads : K.lookup f_are_loads = some ⟨oc_are_loads, od_are_loads, .func (PySem.W.fnOf "are_loads" "are_loads" (defArgs s_are_loads) (defBody s_are_loads) (defScope s_are_loads) .none kV_are_loads dc_are_loads pm_are_loads an_are_loads cd_are_loads ct_are_loads), sl_are_loads⟩) (c_are_loads : PySem.W.codeIn K cd_are_loads "are_loads" = true) (k_are_loads : PySem.W.keepIn K (.ref f_are_loads) = true)
    {f_check_sizes : Addr} {od_check_sizes an_check_sizes : Option Addr} {sl_check_sizes : Array (Option Value)} {oc_check_sizes kV_check_sizes dc_check_sizes pm_check_sizes cd_check_sizes ct_check_sizes : Value}
    (a_check_sizes : PySem.W.nsIn K mainGlobals "check_sizes" = some (some (.ref f_check_sizes))) (l_check_sizes : K.lookup f_check_sizes = some ⟨oc_check_sizes, od_check_sizes, .func (PySem.W.fnOf "check_sizes" "check_sizes" (defArgs s_check_sizes) (defBody s_check_sizes) (defScope s_check_sizes) .none kV_check_sizes dc_check_sizes pm_check_sizes an_check_sizes cd_check_sizes ct_check_sizes), sl_check_sizes⟩) (c_check_sizes : PySem.W.codeIn K cd_check_sizes "check_sizes" = true) (k_check_sizes : PySem.W.keepIn K (.ref f_check_sizes) = true)
    {f_check_reads : Addr} {od_check_reads an_check_reads : Option Addr} {sl_check_reads : Array (Option Value)} {oc_check_reads kV_check_reads dc_check_reads pm_check_reads cd_check_reads ct_check_reads : Value}
    (a_check_reads : PySem.W.nsIn K mainGlobals "check_reads" = some (some (.ref f_check_reads))) (l_check_reads : K.lookup f_check_reads = some ⟨oc_check_reads, od_check_reads, .func (PySem.W.fnOf "check_reads" "check_reads" (defArgs s_check_reads) (defBody s_check_reads) (defScope s_check_reads) .none kV_check_reads dc_check_reads pm_check_reads an_check_reads cd_check_reads ct_check_reads), sl_check_reads⟩) (c_check_reads : PySem.W.codeIn K cd_check_reads "check_reads" = true) (k_check_reads : PySem.W.keepIn K (.ref f_check_reads) = true)
    {f_check_loads : Addr} {od_check_loads an_check_loads : Option Addr} {sl_check_loads : Array (Option Value)} {oc_check_loads kV_check_loads dc_check_loads pm_check_loads cd_check_loads ct_check_loads : Value}
    (a_check_loads : PySem.W.nsIn K mainGlobals "check_loads" = some (some (.ref f_check_loads))) (l_check_loads : K.lookup f_check_loads = some ⟨oc_check_loads, od_check_loads, .func (PySem.W.fnOf "check_loads" "check_loads" (defArgs s_check_loads) (defBody s_check_loads) (defScope s_check_loads) .none kV_check_loads dc_check_loads pm_check_loads an_check_loads cd_check_loads ct_check_loads), sl_check_loads⟩) (c_check_loads : PySem.W.codeIn K cd_check_loads "check_loads" = true) (k_check_loads : PySem.W.keepIn K (.ref f_check_loads) = true)
    {f_runs_at_end : Addr} {od_runs_at_end an_runs_at_end : Option Addr} {sl_runs_at_end : Array (Option Value)} {oc_runs_at_end kV_runs_at_end dc_runs_at_end pm_runs_at_end cd_runs_at_end ct_runs_at_end : Value}
    (a_runs_at_end : PySem.W.nsIn K mainGlobals "runs_at_end" = some (some (.ref f_runs_at_end))) (l_runs_at_end : K.lookup f_runs_at_end = some ⟨oc_runs_at_end, od_runs_at_end, .func (PySem.W.fnOf "runs_at_end" "runs_at_end" (defArgs s_runs_at_end) (defBody s_runs_at_end) (defScope s_runs_at_end) .none kV_runs_at_end dc_runs_at_end pm_runs_at_end an_runs_at_end cd_runs_at_end ct_runs_at_end), sl_runs_at_end⟩) (c_runs_at_end : PySem.W.codeIn K cd_runs_at_end "runs_at_end" = true) (k_runs_at_end : PySem.W.keepIn K (.ref f_runs_at_end) = true)
    {f_least_work : Addr} {od_least_work an_least_work : Option Addr} {sl_least_work : Array (Option Value)} {oc_least_work kV_least_work dc_least_work pm_least_work cd_least_work ct_least_work : Value}
    (a_least_work : PySem.W.nsIn K mainGlobals "least_work" = some (some (.ref f_least_work))) (l_least_work : K.lookup f_least_work = some ⟨oc_least_work, od_least_work, .func (PySem.W.fnOf "least_work" "least_work" (defArgs s_least_work) (defBody s_least_work) (defScope s_least_work) .none kV_least_work dc_least_work pm_least_work an_least_work cd_least_work ct_least_work), sl_least_work⟩) (c_least_work : PySem.W.codeIn K cd_least_work "least_work" = true) (k_least_work : PySem.W.keepIn K (.ref f_least_work) = true)
    {f_least_of : Addr} {od_least_of an_least_of : Option Addr} {sl_least_of : Array (Option Value)} {oc_least_of kV_least_of dc_least_of pm_least_of cd_least_of ct_least_of : Value}
    (a_least_of : PySem.W.nsIn K mainGlobals "least_of" = some (some (.ref f_least_of))) (l_least_of : K.lookup f_least_of = some ⟨oc_least_of, od_least_of, .func (PySem.W.fnOf "least_of" "least_of" (defArgs s_least_of) (defBody s_least_of) (defScope s_least_of) .none kV_least_of dc_least_of pm_least_of an_least_of cd_least_of ct_least_of), sl_least_of⟩) (c_least_of : PySem.W.codeIn K cd_least_of "least_of" = true) (k_least_of : PySem.W.keepIn K (.ref f_least_of) = true)
    {f_least_rows : Addr} {od_least_rows an_least_rows : Option Addr} {sl_least_rows : Array (Option Value)} {oc_least_rows kV_least_rows dc_least_rows pm_least_rows cd_least_rows ct_least_rows : Value}
    (a_least_rows : PySem.W.nsIn K mainGlobals "least_rows" = some (some (.ref f_least_rows))) (l_least_rows : K.lookup f_least_rows = some ⟨oc_least_rows, od_least_rows, .func (PySem.W.fnOf "least_rows" "least_rows" (defArgs s_least_rows) (defBody s_least_rows) (defScope s_least_rows) .none kV_least_rows dc_least_rows pm_least_rows an_least_rows cd_least_rows ct_least_rows), sl_least_rows⟩) (c_least_rows : PySem.W.codeIn K cd_least_rows "least_rows" = true) (k_least_rows : PySem.W.keepIn K (.ref f_least_rows) = true)
    {f_load_sums : Addr} {od_load_sums an_load_sums : Option Addr} {sl_load_sums : Array (Option Value)} {oc_load_sums kV_load_sums dc_load_sums pm_load_sums cd_load_sums ct_load_sums : Value}
    (a_load_sums : PySem.W.nsIn K mainGlobals "load_sums" = some (some (.ref f_load_sums))) (l_load_sums : K.lookup f_load_sums = some ⟨oc_load_sums, od_load_sums, .func (PySem.W.fnOf "load_sums" "load_sums" (defArgs s_load_sums) (defBody s_load_sums) (defScope s_load_sums) .none kV_load_sums dc_load_sums pm_load_sums an_load_sums cd_load_sums ct_load_sums), sl_load_sums⟩) (c_load_sums : PySem.W.codeIn K cd_load_sums "load_sums" = true) (k_load_sums : PySem.W.keepIn K (.ref f_load_sums) = true)
    {f_running_sums : Addr} {od_running_sums an_running_sums : Option Addr} {sl_running_sums : Array (Option Value)} {oc_running_sums kV_running_sums dc_running_sums pm_running_sums cd_running_sums ct_running_sums : Value}
    (a_running_sums : PySem.W.nsIn K mainGlobals "running_sums" = some (some (.ref f_running_sums))) (l_running_sums : K.lookup f_running_sums = some ⟨oc_running_sums, od_running_sums, .func (PySem.W.fnOf "running_sums" "running_sums" (defArgs s_running_sums) (defBody s_running_sums) (defScope s_running_sums) .none kV_running_sums dc_running_sums pm_running_sums an_running_sums cd_running_sums ct_running_sums), sl_running_sums⟩) (c_running_sums : PySem.W.codeIn K cd_running_sums "running_sums" = true) (k_running_sums : PySem.W.keepIn K (.ref f_running_sums) = true)
    {f_works_by_root : Addr} {od_works_by_root an_works_by_root : Option Addr} {sl_works_by_root : Array (Option Value)} {oc_works_by_root kV_works_by_root dc_works_by_root pm_works_by_root cd_works_by_root ct_works_by_root : Value}
    (a_works_by_root : PySem.W.nsIn K mainGlobals "works_by_root" = some (some (.ref f_works_by_root))) (l_works_by_root : K.lookup f_works_by_root = some ⟨oc_works_by_root, od_works_by_root, .func (PySem.W.fnOf "works_by_root" "works_by_root" (defArgs s_works_by_root) (defBody s_works_by_root) (defScope s_works_by_root) .none kV_works_by_root dc_works_by_root pm_works_by_root an_works_by_root cd_works_by_root ct_works_by_root), sl_works_by_root⟩) (c_works_by_root : PySem.W.codeIn K cd_works_by_root "works_by_root" = true) (k_works_by_root : PySem.W.keepIn K (.ref f_works_by_root) = true)
    {f_root_cost : Addr} {od_root_cost an_root_cost : Option Addr} {sl_root_cost : Array (Option Value)} {oc_root_cost kV_root_cost dc_root_cost pm_root_cost cd_root_cost ct_root_cost : Value}
    (a_root_cost : PySem.W.nsIn K mainGlobals "root_cost" = some (some (.ref f_root_cost))) (l_root_cost : K.lookup f_root_cost = some ⟨oc_root_cost, od_root_cost, .func (PySem.W.fnOf "root_cost" "root_cost" (defArgs s_root_cost) (defBody s_root_cost) (defScope s_root_cost) .none kV_root_cost dc_root_cost pm_root_cost an_root_cost cd_root_cost ct_root_cost), sl_root_cost⟩) (c_root_cost : PySem.W.codeIn K cd_root_cost "root_cost" = true) (k_root_cost : PySem.W.keepIn K (.ref f_root_cost) = true)
    {f_schedule_in : Addr} {od_schedule_in an_schedule_in : Option Addr} {sl_schedule_in : Array (Option Value)} {oc_schedule_in kV_schedule_in dc_schedule_in pm_schedule_in cd_schedule_in ct_schedule_in : Value}
    (a_schedule_in : PySem.W.nsIn K mainGlobals "schedule_in" = some (some (.ref f_schedule_in))) (l_schedule_in : K.lookup f_schedule_in = some ⟨oc_schedule_in, od_schedule_in, .func (PySem.W.fnOf "schedule_in" "schedule_in" (defArgs s_schedule_in) (defBody s_schedule_in) (defScope s_schedule_in) .none kV_schedule_in dc_schedule_in pm_schedule_in an_schedule_in cd_schedule_in ct_schedule_in), sl_schedule_in⟩) (c_schedule_in : PySem.W.codeIn K cd_schedule_in "schedule_in" = true) (k_schedule_in : PySem.W.keepIn K (.ref f_schedule_in) = true)
    {f_least_root : Addr} {od_least_root an_least_root : Option Addr} {sl_least_root : Array (Option Value)} {oc_least_root kV_least_root dc_least_root pm_least_root cd_least_root ct_least_root : Value}
    (a_least_root : PySem.W.nsIn K mainGlobals "least_root" = some (some (.ref f_least_root))) (l_least_root : K.lookup f_least_root = some ⟨oc_least_root, od_least_root, .func (PySem.W.fnOf "least_root" "least_root" (defArgs s_least_root) (defBody s_least_root) (defScope s_least_root) .none kV_least_root dc_least_root pm_least_root an_least_root cd_least_root ct_least_root), sl_least_root⟩) (c_least_root : PySem.W.codeIn K cd_least_root "least_root" = true) (k_least_root : PySem.W.keepIn K (.ref f_least_root) = true)
    {f_joined : Addr} {od_joined an_joined : Option Addr} {sl_joined : Array (Option Value)} {oc_joined kV_joined dc_joined pm_joined cd_joined ct_joined : Value}
    (a_joined : PySem.W.nsIn K mainGlobals "joined" = some (some (.ref f_joined))) (l_joined : K.lookup f_joined = some ⟨oc_joined, od_joined, .func (PySem.W.fnOf "joined" "joined" (defArgs s_joined) (defBody s_joined) (defScope s_joined) .none kV_joined dc_joined pm_joined an_joined cd_joined ct_joined), sl_joined⟩) (c_joined : PySem.W.codeIn K cd_joined "joined" = true) (k_joined : PySem.W.keepIn K (.ref f_joined) = true)
    {f_least_roots : Addr} {od_least_roots an_least_roots : Option Addr} {sl_least_roots : Array (Option Value)} {oc_least_roots kV_least_roots dc_least_roots pm_least_roots cd_least_roots ct_least_roots : Value}
    (a_least_roots : PySem.W.nsIn K mainGlobals "least_roots" = some (some (.ref f_least_roots))) (l_least_roots : K.lookup f_least_roots = some ⟨oc_least_roots, od_least_roots, .func (PySem.W.fnOf "least_roots" "least_roots" (defArgs s_least_roots) (defBody s_least_roots) (defScope s_least_roots) .none kV_least_roots dc_least_roots pm_least_roots an_least_roots cd_least_roots ct_least_roots), sl_least_roots⟩) (c_least_roots : PySem.W.codeIn K cd_least_roots "least_roots" = true) (k_least_roots : PySem.W.keepIn K (.ref f_least_roots) = true)
    {f_L_pot : Addr} {od_L_pot an_L_pot : Option Addr} {sl_L_pot : Array (Option Value)} {oc_L_pot kV_L_pot dc_L_pot pm_L_pot cd_L_pot ct_L_pot : Value}
    (a_L_pot : PySem.W.nsIn K mainGlobals "_law_pot" = some (some (.ref f_L_pot))) (l_L_pot : K.lookup f_L_pot = some ⟨oc_L_pot, od_L_pot, .func (PySem.W.fnOf "_law_pot" "_law_pot" (defArgs s_L_pot) (defBody s_L_pot) (defScope s_L_pot) .none kV_L_pot dc_L_pot pm_L_pot an_L_pot cd_L_pot ct_L_pot), sl_L_pot⟩) (c_L_pot : PySem.W.codeIn K cd_L_pot "_law_pot" = true) (k_L_pot : PySem.W.keepIn K (.ref f_L_pot) = true)
    {f_L_take : Addr} {od_L_take an_L_take : Option Addr} {sl_L_take : Array (Option Value)} {oc_L_take kV_L_take dc_L_take pm_L_take cd_L_take ct_L_take : Value}
    (a_L_take : PySem.W.nsIn K mainGlobals "_law_take" = some (some (.ref f_L_take))) (l_L_take : K.lookup f_L_take = some ⟨oc_L_take, od_L_take, .func (PySem.W.fnOf "_law_take" "_law_take" (defArgs s_L_take) (defBody s_L_take) (defScope s_L_take) .none kV_L_take dc_L_take pm_L_take an_L_take cd_L_take ct_L_take), sl_L_take⟩) (c_L_take : PySem.W.codeIn K cd_L_take "_law_take" = true) (k_L_take : PySem.W.keepIn K (.ref f_L_take) = true)
    {f_L_right : Addr} {od_L_right an_L_right : Option Addr} {sl_L_right : Array (Option Value)} {oc_L_right kV_L_right dc_L_right pm_L_right cd_L_right ct_L_right : Value}
    (a_L_right : PySem.W.nsIn K mainGlobals "_law_right" = some (some (.ref f_L_right))) (l_L_right : K.lookup f_L_right = some ⟨oc_L_right, od_L_right, .func (PySem.W.fnOf "_law_right" "_law_right" (defArgs s_L_right) (defBody s_L_right) (defScope s_L_right) .none kV_L_right dc_L_right pm_L_right an_L_right cd_L_right ct_L_right), sl_L_right⟩) (c_L_right : PySem.W.codeIn K cd_L_right "_law_right" = true) (k_L_right : PySem.W.keepIn K (.ref f_L_right) = true)
    {f_law : Addr} {od_law an_law : Option Addr} {sl_law : Array (Option Value)} {oc_law kV_law dc_law pm_law cd_law ct_law : Value}
    (a_law : PySem.W.nsIn K mainGlobals "law" = some (some (.ref f_law))) (l_law : K.lookup f_law = some ⟨oc_law, od_law, .func (PySem.W.fnOf "law" "law" (defArgs s_law) (defBody s_law) (defScope s_law) .none kV_law dc_law pm_law an_law cd_law ct_law), sl_law⟩) (c_law : PySem.W.codeIn K cd_law "law" = true) (k_law : PySem.W.keepIn K (.ref f_law) = true)
    (z_isinstance : PySem.W.nsIn K mainGlobals "isinstance" = some none)
    (z_int : PySem.W.nsIn K mainGlobals "int" = some none)
    (z_bool : PySem.W.nsIn K mainGlobals "bool" = some none)
    (z_all : PySem.W.nsIn K mainGlobals "all" = some none)
    (z_tuple : PySem.W.nsIn K mainGlobals "tuple" = some none)
    (z_len : PySem.W.nsIn K mainGlobals "len" = some none)
    (z_sum : PySem.W.nsIn K mainGlobals "sum" = some none)
    (z_reversed : PySem.W.nsIn K mainGlobals "reversed" = some none)
    (z_range : PySem.W.nsIn K mainGlobals "range" = some none)
    (z_min : PySem.W.nsIn K mainGlobals "min" = some none)
    (z_abs : PySem.W.nsIn K mainGlobals "abs" = some none)
    {t_MOST_LOAD : Tok} (y_MOST_LOAD : PySem.W.nsIn K mainGlobals "MOST_LOAD" = some (some (.int (1000000000) t_MOST_LOAD)))
    {t_MOST_FLUSHES : Tok} (y_MOST_FLUSHES : PySem.W.nsIn K mainGlobals "MOST_FLUSHES" = some (some (.int (60) t_MOST_FLUSHES)))
    : ∃ fd : FuncData, (∀ (s : Shared) (v : Value), BindsTo s fd ⟨[v], []⟩ [("_law_script", v)]) ∧ ∀ base : Heap, K.In base → base.Ns mainGlobals mg → FnOk l.prog w K mg base CX0 68 fa fd ["_law_script"] (sp_law K) := by
  have e := hfa.symm.trans (PySem.W.mg_of X G a_law)
  cases e
  have F_is_int := fun_mk (st := s_is_int) l_is_int c_is_int k_is_int
  have B_is_int := F_is_int.binds (ps := ["value"]) fun _ _ _ _ _ _ us hl => match us, hl with | [_], _ => rfl
  have F_is_count := fun_mk (st := s_is_count) l_is_count c_is_count k_is_count
  have B_is_count := F_is_count.binds (ps := ["value"]) fun _ _ _ _ _ _ us hl => match us, hl with | [_], _ => rfl
  have F_is_count_up_to := fun_mk (st := s_is_count_up_to) l_is_count_up_to c_is_count_up_to k_is_count_up_to
  have B_is_count_up_to := F_is_count_up_to.binds (ps := ["value", "most"]) fun _ _ _ _ _ _ us hl => match us, hl with | [_, _], _ => rfl
  have F_are_loads := fun_mk (st := s_are_loads) l_are_loads c_are_loads k_are_loads
  have B_are_loads := F_are_loads.binds (ps := ["value", "fewest", "most"]) fun _ _ _ _ _ _ us hl => match us, hl with | [_, _, _], _ => rfl
  have F_check_sizes := fun_mk (st := s_check_sizes) l_check_sizes c_check_sizes k_check_sizes
  have B_check_sizes := F_check_sizes.binds (ps := ["sizes", "fewest", "most"]) fun _ _ _ _ _ _ us hl => match us, hl with | [_, _, _], _ => rfl
  have F_check_reads := fun_mk (st := s_check_reads) l_check_reads c_check_reads k_check_reads
  have B_check_reads := F_check_reads.binds (ps := ["reads", "flushes"]) fun _ _ _ _ _ _ us hl => match us, hl with | [_, _], _ => rfl
  have F_check_loads := fun_mk (st := s_check_loads) l_check_loads c_check_loads k_check_loads
  have B_check_loads := F_check_loads.binds (ps := ["sizes", "reads", "most"]) fun _ _ _ _ _ _ us hl => match us, hl with | [_, _, _], _ => rfl
  have F_runs_at_end := fun_mk (st := s_runs_at_end) l_runs_at_end c_runs_at_end k_runs_at_end
  have B_runs_at_end := F_runs_at_end.binds (ps := ["schedule"]) fun _ _ _ _ _ _ us hl => match us, hl with | [_], _ => rfl
  have F_least_work := fun_mk (st := s_least_work) l_least_work c_least_work k_least_work
  have B_least_work := F_least_work.binds (ps := ["sizes", "reads"]) fun _ _ _ _ _ _ us hl => match us, hl with | [_, _], _ => rfl
  have F_least_of := fun_mk (st := s_least_of) l_least_of c_least_of k_least_of
  have B_least_of := F_least_of.binds (ps := ["sizes", "reads"]) fun _ _ _ _ _ _ us hl => match us, hl with | [_, _], _ => rfl
  have F_least_rows := fun_mk (st := s_least_rows) l_least_rows c_least_rows k_least_rows
  have B_least_rows := F_least_rows.binds (ps := ["sizes", "reads"]) fun _ _ _ _ _ _ us hl => match us, hl with | [_, _], _ => rfl
  have F_load_sums := fun_mk (st := s_load_sums) l_load_sums c_load_sums k_load_sums
  have B_load_sums := F_load_sums.binds (ps := ["sizes", "reads"]) fun _ _ _ _ _ _ us hl => match us, hl with | [_, _], _ => rfl
  have F_running_sums := fun_mk (st := s_running_sums) l_running_sums c_running_sums k_running_sums
  have B_running_sums := F_running_sums.binds (ps := ["loads"]) fun _ _ _ _ _ _ us hl => match us, hl with | [_], _ => rfl
  have F_works_by_root := fun_mk (st := s_works_by_root) l_works_by_root c_works_by_root k_works_by_root
  have B_works_by_root := F_works_by_root.binds (ps := ["lefts", "rights", "sums", "start", "stop"]) fun _ _ _ _ _ _ us hl => match us, hl with | [_, _, _, _, _], _ => rfl
  have F_root_cost := fun_mk (st := s_root_cost) l_root_cost c_root_cost k_root_cost
  have B_root_cost := F_root_cost.binds (ps := ["sums", "start", "stop", "root"]) fun _ _ _ _ _ _ us hl => match us, hl with | [_, _, _, _], _ => rfl
  have F_schedule_in := fun_mk (st := s_schedule_in) l_schedule_in c_schedule_in k_schedule_in
  have B_schedule_in := F_schedule_in.binds (ps := ["rows", "sums", "start", "stop"]) fun _ _ _ _ _ _ us hl => match us, hl with | [_, _, _, _], _ => rfl
  have F_least_root := fun_mk (st := s_least_root) l_least_root c_least_root k_least_root
  have B_least_root := F_least_root.binds (ps := ["lefts", "rights", "sums", "start", "stop"]) fun _ _ _ _ _ _ us hl => match us, hl with | [_, _, _, _, _], _ => rfl
  have F_joined := fun_mk (st := s_joined) l_joined c_joined k_joined
  have B_joined := F_joined.binds (ps := ["left", "right"]) fun _ _ _ _ _ _ us hl => match us, hl with | [_, _], _ => rfl
  have F_least_roots := fun_mk (st := s_least_roots) l_least_roots c_least_roots k_least_roots
  have B_least_roots := F_least_roots.binds (ps := ["sizes", "reads"]) fun _ _ _ _ _ _ us hl => match us, hl with | [_, _], _ => rfl
  have F_L_pot := fun_mk (st := s_L_pot) l_L_pot c_L_pot k_L_pot
  have B_L_pot := F_L_pot.binds (ps := ["_law_script", "_law_k"]) fun _ _ _ _ _ _ us hl => match us, hl with | [_, _], _ => rfl
  have F_L_take := fun_mk (st := s_L_take) l_L_take c_L_take k_L_take
  have B_L_take := F_L_take.binds (ps := ["_law_pot_here", "_law_wide"]) fun _ _ _ _ _ _ us hl => match us, hl with | [_, _], _ => rfl
  have F_L_right := fun_mk (st := s_L_right) l_L_right c_L_right k_L_right
  have B_L_right := F_L_right.binds (ps := ["_law_pot_here"]) fun _ _ _ _ _ _ us hl => match us, hl with | [_], _ => rfl
  have F_law := fun_mk (st := s_law) l_law c_law k_law
  have B_law := F_law.binds (ps := ["_law_script"]) fun _ _ _ _ _ _ us hl => match us, hl with | [_], _ => rfl
  let TX : Tx K mg := ⟨_, _, F_is_int, PySem.W.mg_of X G a_is_int, B_is_int, _, _, F_is_count, PySem.W.mg_of X G a_is_count, B_is_count, _, _, F_is_count_up_to, PySem.W.mg_of X G a_is_count_up_to, B_is_count_up_to, _, _, F_are_loads, PySem.W.mg_of X G a_are_loads, B_are_loads, _, _, F_check_sizes, PySem.W.mg_of X G a_check_sizes, B_check_sizes, _, _, F_check_reads, PySem.W.mg_of X G a_check_reads, B_check_reads, _, _, F_check_loads, PySem.W.mg_of X G a_check_loads, B_check_loads, _, _, F_runs_at_end, PySem.W.mg_of X G a_runs_at_end, B_runs_at_end, _, _, F_least_work, PySem.W.mg_of X G a_least_work, B_least_work, _, _, F_least_of, PySem.W.mg_of X G a_least_of, B_least_of, _, _, F_least_rows, PySem.W.mg_of X G a_least_rows, B_least_rows, _, _, F_load_sums, PySem.W.mg_of X G a_load_sums, B_load_sums, _, _, F_running_sums, PySem.W.mg_of X G a_running_sums, B_running_sums, _, _, F_works_by_root, PySem.W.mg_of X G a_works_by_root, B_works_by_root, _, _, F_root_cost, PySem.W.mg_of X G a_root_cost, B_root_cost, _, _, F_schedule_in, PySem.W.mg_of X G a_schedule_in, B_schedule_in, _, _, F_least_root, PySem.W.mg_of X G a_least_root, B_least_root, _, _, F_joined, PySem.W.mg_of X G a_joined, B_joined, _, _, F_least_roots, PySem.W.mg_of X G a_least_roots, B_least_roots, _, _, F_L_pot, PySem.W.mg_of X G a_L_pot, B_L_pot, _, _, F_L_take, PySem.W.mg_of X G a_L_take, B_L_take, _, _, F_L_right, PySem.W.mg_of X G a_L_right, B_L_right, _, _, F_law, PySem.W.mg_of X G a_law, B_law, PySem.W.mg_none_of X G z_isinstance, PySem.W.mg_none_of X G z_int, PySem.W.mg_none_of X G z_bool, PySem.W.mg_none_of X G z_all, PySem.W.mg_none_of X G z_tuple, PySem.W.mg_none_of X G z_len, PySem.W.mg_none_of X G z_sum, PySem.W.mg_none_of X G z_reversed, PySem.W.mg_none_of X G z_range, PySem.W.mg_none_of X G z_min, PySem.W.mg_none_of X G z_abs, _, PySem.W.mg_of X G y_MOST_LOAD, _, PySem.W.mg_of X G y_MOST_FLUSHES⟩
  exact ⟨TX.fd_law, fun s v => .of_eq rfl, fun base _ _ => ok_law TX⟩
end MB
open PySem PySem.W PyProof.Rows
set_option maxHeartbeats 0 in
theorem PySem.Challenge.cw_mergebudget_k39_optimum_known_by_hand_holds : PySem.Challenge.rw_mergebudget_k39_optimum_known_by_hand.Holds := by
  w_on; o_law; k_head; (case hw => w_witness2)
  k_fill
  refine L2.walk_of (l := PySem.Challenge.rw_mergebudget_k39_optimum_known_by_hand) (n := 63) (k := 68) (x := "_law_script") (CX := fun _ => L2.CX0) (sp := fun w => MB.sp_law _) rfl (by decide) rfl ⟨rfl, by decide, by decide⟩ (fun w h Y => PySem.W.kIn_of Y) ?F (fun _ _ a ns hl _ hS => ⟨a, ns, rfl, hS, hl, fun _ => rfl⟩) (fun _ _ _ _ _ h => h)
  case F =>
    intro w mg fa h KX G hmg
    refine' MB.all_mk KX G hmg ?a_is_int ?l_is_int ?c_is_int ?k_is_int ?a_is_count ?l_is_count ?c_is_count ?k_is_count ?a_is_count_up_to ?l_is_count_up_to ?c_is_count_up_to ?k_is_count_up_to ?a_are_loads ?l_are_loads ?c_are_loads ?k_are_loads ?a_check_sizes ?l_check_sizes ?c_check_sizes ?k_check_sizes ?a_check_reads ?l_check_reads ?c_check_reads ?k_check_reads ?a_check_loads ?l_check_loads ?c_check_loads ?k_check_loads ?a_runs_at_end ?l_runs_at_end ?c_runs_at_end ?k_runs_at_end ?a_least_work ?l_least_work ?c_least_work ?k_least_work ?a_least_of ?l_least_of ?c_least_of ?k_least_of ?a_least_rows ?l_least_rows ?c_least_rows ?k_least_rows ?a_load_sums ?l_load_sums ?c_load_sums ?k_load_sums ?a_running_sums ?l_running_sums ?c_running_sums ?k_running_sums ?a_works_by_root ?l_works_by_root ?c_works_by_root ?k_works_by_root ?a_root_cost ?l_root_cost ?c_root_cost ?k_root_cost ?a_schedule_in ?l_schedule_in ?c_schedule_in ?k_schedule_in ?a_least_root ?l_least_root ?c_least_root ?k_least_root ?a_joined ?l_joined ?c_joined ?k_joined ?a_least_roots ?l_least_roots ?c_least_roots ?k_least_roots ?a_L_pot ?l_L_pot ?c_L_pot ?k_L_pot ?a_L_take ?l_L_take ?c_L_take ?k_L_take ?a_L_right ?l_L_right ?c_L_right ?k_L_right ?a_law ?l_law ?c_law ?k_law ?z_isinstance ?z_int ?z_bool ?z_all ?z_tuple ?z_len ?z_sum ?z_reversed ?z_range ?z_min ?z_abs ?y_MOST_LOAD ?y_MOST_FLUSHES
    (case a_is_int => k_is); (case l_is_int => k_is); (case c_is_int => k_is); (case k_is_int => k_is); (case a_is_count => k_is); (case l_is_count => k_is); (case c_is_count => k_is); (case k_is_count => k_is); (case a_is_count_up_to => k_is); (case l_is_count_up_to => k_is); (case c_is_count_up_to => k_is); (case k_is_count_up_to => k_is); (case a_are_loads => k_is); (case l_are_loads => k_is); (case c_are_loads => k_is); (case k_are_loads => k_is); (case a_check_sizes => k_is); (case l_check_sizes => k_is); (case c_check_sizes => k_is); (case k_check_sizes => k_is); (case a_check_reads => k_is); (case l_check_reads => k_is); (case c_check_reads => k_is); (case k_check_reads => k_is); (case a_check_loads => k_is); (case l_check_loads => k_is); (case c_check_loads => k_is); (case k_check_loads => k_is); (case a_runs_at_end => k_is); (case l_runs_at_end => k_is); (case c_runs_at_end => k_is); (case k_runs_at_end => k_is); (case a_least_work => k_is); (case l_least_work => k_is); (case c_least_work => k_is); (case k_least_work => k_is); (case a_least_of => k_is); (case l_least_of => k_is); (case c_least_of => k_is); (case k_least_of => k_is); (case a_least_rows => k_is); (case l_least_rows => k_is); (case c_least_rows => k_is); (case k_least_rows => k_is); (case a_load_sums => k_is); (case l_load_sums => k_is); (case c_load_sums => k_is); (case k_load_sums => k_is); (case a_running_sums => k_is); (case l_running_sums => k_is); (case c_running_sums => k_is); (case k_running_sums => k_is); (case a_works_by_root => k_is); (case l_works_by_root => k_is); (case c_works_by_root => k_is); (case k_works_by_root => k_is); (case a_root_cost => k_is); (case l_root_cost => k_is); (case c_root_cost => k_is); (case k_root_cost => k_is); (case a_schedule_in => k_is); (case l_schedule_in => k_is); (case c_schedule_in => k_is); (case k_schedule_in => k_is); (case a_least_root => k_is); (case l_least_root => k_is); (case c_least_root => k_is); (case k_least_root => k_is); (case a_joined => k_is); (case l_joined => k_is); (case c_joined => k_is); (case k_joined => k_is); (case a_least_roots => k_is); (case l_least_roots => k_is); (case c_least_roots => k_is); (case k_least_roots => k_is); (case a_L_pot => k_is); (case l_L_pot => k_is); (case c_L_pot => k_is); (case k_L_pot => k_is); (case a_L_take => k_is); (case l_L_take => k_is); (case c_L_take => k_is); (case k_L_take => k_is); (case a_L_right => k_is); (case l_L_right => k_is); (case c_L_right => k_is); (case k_L_right => k_is); (case a_law => k_is); (case l_law => k_is); (case c_law => k_is); (case k_law => k_is); (case z_isinstance => k_is); (case z_int => k_is); (case z_bool => k_is); (case z_all => k_is); (case z_tuple => k_is); (case z_len => k_is); (case z_sum => k_is); (case z_reversed => k_is); (case z_range => k_is); (case z_min => k_is); (case z_abs => k_is); (case y_MOST_LOAD => k_is); (case y_MOST_FLUSHES => k_is)
