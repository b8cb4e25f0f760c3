import PyProof.Rows.All
import Wide.All
import OpenK.AllK
import Wide.FinOn
import HandS.ForMost
import HandS.IsInst
import HandS.Wide
import HandS.TupAny
import HandS.TupMul
import HandS.Rev
import HandS.Style
import HandS.Strs
import HandS.Walk
import KE.GoesEnum
import PyProof.ReprRoads
import PyProof.ReprBulk
import HandS.WideMore
import HandS.Conv
import KE.DatumOrd
import HandS.RevRange
import HandS.Zip
import HandS.Dict
import HandS.TupSets
import KE.KDictPairs
import PySem.Challenge.RW_mergebudget_k37_bound_tables_of_any_kind
set_option Elab.async false
set_option linter.all false
set_option maxRecDepth 100000
namespace MB
inductive T where
  | nil
  | node (l r : T)
  deriving DecidableEq

namespace T
def size : T → Nat
  | nil => 0
  | node l r => l.size + 1 + r.size
def runs : T → Nat
  | nil => 0
  | node _ r => 1 + r.runs
def sch : T → List Nat
  | nil => []
  | node l r => l.sch ++ l.runs :: r.sch
def rc : T → List Nat
  | nil => []
  | node l r => l.rc ++ 1 :: r.rc.map (· + 1)
def wr : T → List Nat
  | nil => []
  | node l r => l.wr.map (· + 1) ++ 1 :: r.wr
/-- parents: off, the number of the first node; p, the parent of the root -/
def par (off p : Int) : T → List Int
  | nil => []
  | node l r => par off (off + l.size) l ++ p :: par (off + l.size + 1) (off + l.size) r
def mir : T → T
  | nil => nil
  | node l r => node r.mir l.mir
def push (t : T) (m : Nat) : T :=
  if m = t.runs then node t nil else match t with
    | nil => nil
    | node l r => node l (push r m)
/-- the first flush of the run that a flush that merges m writes -/
def start (t : T) (m : Nat) : Nat :=
  if m = t.runs then 0 else match t with
    | nil => 0
    | node l r => l.size + 1 + start r m
/-- the stack: intervals of the right spine -/
def stk (off : Nat) : T → List (Nat × Nat)
  | nil => []
  | node l r => (off, off + l.size + 1) :: stk (off + l.size + 1) r
def graft : T → T → T
  | nil, t => t
  | node l r, t => node l (graft r t)

theorem sch_len : ∀ t : T, t.sch.length = t.size
  | nil => rfl
  | node l r => by simp [sch, size, sch_len l, sch_len r]; omega
theorem rc_len : ∀ t : T, t.rc.length = t.size
  | nil => rfl
  | node l r => by simp [rc, size, rc_len l, rc_len r]; omega
theorem wr_len : ∀ t : T, t.wr.length = t.size
  | nil => rfl
  | node l r => by simp [wr, size, wr_len l, wr_len r]; omega
theorem par_len : ∀ (t : T) (off p : Int), (t.par off p).length = t.size
  | nil, _, _ => rfl
  | node l r, off, p => by simp [par, size, par_len l, par_len r]; omega
theorem runs_le : ∀ t : T, t.runs ≤ t.size
  | nil => Nat.le_refl _
  | node l r => by have := runs_le r; simp [runs, size]; omega
theorem sum_sch : ∀ t : T, t.sch.sum + t.runs = t.size
  | nil => rfl
  | node l r => by
    have h1 := sum_sch l; have h2 := sum_sch r
    simp [sch, runs, size, List.sum_append]; omega
theorem stk_len : ∀ (t : T) (off : Nat), (t.stk off).length = t.runs
  | nil, _ => rfl
  | node l r, off => by simp [stk, runs, stk_len r]; omega

/-! ### push -/
theorem push_eq {t : T} : t.push t.runs = node t nil := by
  unfold push; rw [if_pos rfl]
theorem push_node {l r : T} {m : Nat} (h : m ≤ r.runs) : (node l r).push m = node l (r.push m) := by
  conv => lhs; unfold push
  rw [if_neg (by simp [runs]; omega)]
theorem start_eq {t : T} : t.start t.runs = 0 := by
  unfold start; rw [if_pos rfl]
theorem start_node {l r : T} {m : Nat} (h : m ≤ r.runs) : (node l r).start m = l.size + 1 + r.start m := by
  conv => lhs; unfold start
  rw [if_neg (by simp [runs]; omega)]
/-- the two ways of a push -/
theorem push_ind {C : T → Nat → Prop} (h1 : ∀ t, C t t.runs) (h2 : ∀ l r m, m ≤ r.runs → C r m → C (node l r) m) : ∀ (t : T) (m : Nat), m ≤ t.runs → C t m
  | nil, m, h => by
    have : m = nil.runs := by simp [runs] at h ⊢; omega
    rw [this]; exact h1 nil
  | node l r, m, h => by
    by_cases e : m = (node l r).runs
    · rw [e]; exact h1 _
    · have hm : m ≤ r.runs := by simp [runs] at h e; omega
      exact h2 l r m hm (push_ind h1 h2 r m hm)
theorem push_sch : ∀ (t : T) (m : Nat), m ≤ t.runs → (t.push m).sch = t.sch ++ [m] :=
  push_ind (fun t => by rw [push_eq]; simp [sch]) fun l r m h ih => by rw [push_node h]; simp [sch, ih]
theorem push_size : ∀ (t : T) (m : Nat), m ≤ t.runs → (t.push m).size = t.size + 1 :=
  push_ind (fun t => by rw [push_eq]; simp [size]) fun l r m h ih => by rw [push_node h]; simp [size, ih]; omega
theorem push_runs : ∀ (t : T) (m : Nat), m ≤ t.runs → (t.push m).runs = t.runs - m + 1 :=
  push_ind (fun t => by rw [push_eq]; simp [runs]) fun l r m h ih => by rw [push_node h]; simp [runs, ih]; omega
theorem push_rc : ∀ (t : T) (m : Nat), m ≤ t.runs → (t.push m).rc = t.rc ++ [t.runs - m + 1] :=
  push_ind (fun t => by rw [push_eq]; simp [rc]) fun l r m h ih => by
    rw [push_node h]; simp [rc, ih, runs]; omega
theorem start_le : ∀ (t : T) (m : Nat), m ≤ t.runs → t.start m ≤ t.size :=
  push_ind (fun t => by rw [start_eq]; omega) fun l r m h ih => by rw [start_node h]; simp [size]; omega
theorem push_wr : ∀ (t : T) (m : Nat), m ≤ t.runs → (t.push m).wr = t.wr.take (t.start m) ++ ((t.wr.drop (t.start m)).map (· + 1) ++ [1]) :=
  push_ind (fun t => by rw [push_eq, start_eq]; simp [wr]) fun l r m h ih => by
    rw [push_node h, start_node h]
    have e : (wr (node l r)) = (l.wr.map (· + 1) ++ [1]) ++ r.wr := by simp [wr]
    have el : (l.wr.map (· + 1) ++ [1]).length = l.size + 1 := by simp [wr_len]
    rw [e, List.take_append, List.drop_append, el]
    rw [List.take_of_length_le (by rw [el]; omega), List.drop_eq_nil_of_le (by rw [el]; omega)]
    rw [show l.size + 1 + r.start m - (l.size + 1) = r.start m by omega]
    simp [wr, ih]
theorem stk_push : ∀ (t : T) (m : Nat), m ≤ t.runs → ∀ off, (t.push m).stk off = (t.stk off).take (t.runs - m) ++ [(off + t.start m, off + t.size + 1)] :=
  push_ind (fun t off => by rw [push_eq, start_eq]; simp [stk]) fun l r m h ih off => by
    rw [push_node h, start_node h]
    have hh : (node l r).runs - m = (r.runs - m) + 1 := by simp [runs]; omega
    rw [hh]
    simp [stk, ih, size]
    omega
theorem stk_at : ∀ (t : T) (m : Nat), m ≤ t.runs → ∀ off, 0 < m → ∃ e, (t.stk off)[t.runs - m]? = some (off + t.start m, e) :=
  push_ind (fun t off h => by
      rw [start_eq, Nat.sub_self]
      cases t with
      | nil => simp [runs] at h
      | node l r => exact ⟨_, rfl⟩) fun l r m h ih off h0 => by
    rw [start_node h]
    have hh : (node l r).runs - m = (r.runs - m) + 1 := by simp [runs]; omega
    rw [hh]
    obtain ⟨e, he⟩ := ih (off + l.size + 1) h0
    refine ⟨e, ?_⟩
    simp only [stk, List.getElem?_cons_succ, he]
    congr 2; omega
theorem start_zero : ∀ (t : T) (m : Nat), m ≤ t.runs → m = 0 → t.start m = t.size :=
  push_ind (fun t h => by
      rw [start_eq]
      cases t with
      | nil => rfl
      | node l r => simp [runs] at h) fun l r m h ih h0 => by
    rw [start_node h, ih h0]; simp [size]

/-! ### schedules and trees -/
theorem graft_nil : ∀ t : T, t.graft nil = t
  | nil => rfl
  | node l r => by simp [graft, graft_nil r]
theorem graft_assoc : ∀ a b c : T, (a.graft b).graft c = a.graft (b.graft c)
  | nil, _, _ => rfl
  | node l r, b, c => by simp [graft, graft_assoc r b c]
theorem graft_runs : ∀ a b : T, (a.graft b).runs = a.runs + b.runs
  | nil, b => by simp [graft, runs]
  | node l r, b => by simp [graft, runs, graft_runs r b]; omega
theorem graft_push : ∀ (u l : T), (u.graft l).push l.runs = u.graft (node l nil)
  | nil, l => by simp [graft, push_eq]
  | node a b, l => by
    simp only [graft]
    rw [push_node (by rw [graft_runs]; omega), graft_push b l]
theorem foldl_sch : ∀ (t u : T), t.sch.foldl push u = u.graft t
  | nil, u => by simp [sch, graft_nil]
  | node l r, u => by
    simp only [sch, List.foldl_append, List.foldl_cons]
    rw [foldl_sch l u, graft_push, foldl_sch r, graft_assoc]
    rfl
theorem sch_inj {a b : T} (h : a.sch = b.sch) : a = b := by
  have e1 := foldl_sch a nil
  have e2 := foldl_sch b nil
  rw [h, e2] at e1
  exact e1.symm
end T

/-- a schedule that begins with `runs` runs -/
def Ok : Nat → List Nat → Prop
  | _, [] => True
  | k, m :: r => m ≤ k ∧ Ok (k - m + 1) r
theorem ok_tree : ∀ (p : List Nat) (u : T), Ok u.runs p → ∃ t : T, t.sch = u.sch ++ p ∧ p.foldl T.push u = t
  | [], u, _ => ⟨u, by simp, rfl⟩
  | m :: r, u, h => by
    obtain ⟨h1, h2⟩ := h
    rw [← T.push_runs u m h1] at h2
    obtain ⟨t, e1, e2⟩ := ok_tree r (u.push m) h2
    exact ⟨t, by rw [e1, T.push_sch u m h1]; simp, e2⟩
theorem tree_ex {p : List Nat} (h : Ok 0 p) : ∃ t : T, t.sch = p := by
  obtain ⟨t, e, _⟩ := ok_tree p .nil h
  exact ⟨t, by rw [e]; rfl⟩
theorem ok_app : ∀ (p q : List Nat) (k k' : Nat), Ok k p → k' + p.sum = k + p.length → Ok k' q → Ok k (p ++ q)
  | [], q, k, k', _, e, h => by
    have : k' = k := by simpa using e
    subst this; exact h
  | m :: r, q, k, k', h, e, hq => ⟨h.1, ok_app r q (k - m + 1) k' h.2 (by have := h.1; simp at e; omega) hq⟩
theorem ok_sch_from : ∀ (t : T) (k : Nat), Ok k t.sch
  | .nil, _ => trivial
  | .node l r, k => by
    refine ok_app l.sch _ k (k + l.runs) (ok_sch_from l k) (by have := T.sum_sch l; rw [T.sch_len]; omega) ?_
    exact ⟨by omega, ok_sch_from r _⟩
theorem ok_take : ∀ (p : List Nat) (k i : Nat), Ok k p → Ok k (p.take i)
  | [], _, i, _ => by cases i <;> trivial
  | m :: r, k, 0, _ => trivial
  | m :: r, k, i + 1, h => ⟨h.1, ok_take r _ i h.2⟩
/-- the tree of the first i flushes -/
def pre (t : T) (i : Nat) : T := (t.sch.take i).foldl T.push .nil
theorem pre_sch (t : T) (i : Nat) : (pre t i).sch = t.sch.take i := by
  obtain ⟨u, e1, e2⟩ := ok_tree (t.sch.take i) .nil (ok_take _ _ i (ok_sch_from t _))
  unfold pre; rw [e2, e1]; rfl
theorem pre_size {t : T} {i : Nat} (h : i ≤ t.size) : (pre t i).size = i := by
  rw [← T.sch_len, pre_sch, List.length_take, T.sch_len]; omega
theorem pre_zero (t : T) : pre t 0 = .nil := rfl
theorem pre_all (t : T) : pre t t.size = t := T.sch_inj (by rw [pre_sch, List.take_of_length_le (by rw [T.sch_len]; exact Nat.le_refl _)])
theorem ok_last : ∀ (p : List Nat) (k m : Nat) (q : List Nat), Ok k (p ++ m :: q) → m + p.sum ≤ k + p.length
  | [], k, m, q, h => by simpa using h.1
  | a :: r, k, m, q, h => by
    have := ok_last r (k - a + 1) m q h.2
    have h1 := h.1
    simp; omega
theorem pre_succ {t : T} {i : Nat} {m : Nat} (h : t.sch[i]? = some m) : pre t (i + 1) = (pre t i).push m ∧ m ≤ (pre t i).runs := by
  have hi : i < t.sch.length := (List.getElem?_eq_some_iff.mp h).1
  constructor
  · unfold pre
    rw [List.take_add_one, h]
    simp
  · have e : t.sch = t.sch.take i ++ m :: t.sch.drop (i + 1) := by
      have h2 := List.getElem?_eq_some_iff.mp h
      obtain ⟨h3, h4⟩ := h2
      rw [← h4]
      simp
    have h1 := ok_sch_from t 0
    rw [e] at h1
    have h2 := ok_last _ _ _ _ h1
    have h3 := T.sum_sch (pre t i)
    rw [pre_sch] at h3
    have h4 : (pre t i).size = (t.sch.take i).length := by rw [← T.sch_len, pre_sch]
    omega
theorem rc_take : ∀ (t : T) (i : Nat), (pre t i).rc = t.rc.take i := by
  intro t i
  by_cases hi : i ≤ t.size
  · suffices h : ∀ k, i + k = t.size → (pre t i).rc = t.rc.take i from h (t.size - i) (by omega)
    intro k
    induction k generalizing i with
    | zero =>
      intro e
      rw [show i = t.size by omega, pre_all, List.take_of_length_le (by rw [T.rc_len]; omega)]
    | succ k ih =>
      intro e
      have hl : i < t.sch.length := by rw [T.sch_len]; omega
      obtain ⟨e1, h1⟩ := pre_succ (List.getElem?_eq_getElem hl)
      have h2 := ih (i + 1) (by omega) (by omega)
      rw [e1, T.push_rc _ _ h1] at h2
      have h3 := congrArg (List.take i) h2
      rw [List.take_append_of_le_length (by rw [T.rc_len, pre_size (by omega)]; omega), List.take_take, List.take_of_length_le (by rw [T.rc_len, pre_size (by omega)]; omega)] at h3
      rw [h3]; congr 1; omega
  · have e : t.sch.take i = t.sch := List.take_of_length_le (by rw [T.sch_len]; omega)
    have : pre t i = t := T.sch_inj (by rw [pre_sch, e])
    rw [this, List.take_of_length_le (by rw [T.rc_len]; omega)]
theorem rc_at {t : T} {i m : Nat} (h : t.sch[i]? = some m) : t.rc[i]? = some ((pre t i).runs - m + 1) := by
  obtain ⟨e1, h1⟩ := pre_succ h
  have hi : i < t.size := by rw [← T.sch_len]; exact (List.getElem?_eq_some_iff.mp h).1
  have h2 := rc_take t (i + 1)
  rw [e1, T.push_rc _ _ h1] at h2
  have h3 := congrArg (fun l : List Nat => l[i]?) h2
  simp only [List.getElem?_take] at h3
  rw [List.getElem?_append_right (by rw [T.rc_len, pre_size (by omega)]; omega), T.rc_len, pre_size (by omega)] at h3
  simp at h3
  exact h3.symm
theorem pre_runs {t : T} {i : Nat} (h : i < t.size) : t.rc[i]? = some (pre t (i + 1)).runs := by
  have hl : i < t.sch.length := by rw [T.sch_len]; exact h
  obtain ⟨e1, h1⟩ := pre_succ (List.getElem?_eq_getElem hl)
  rw [rc_at (List.getElem?_eq_getElem hl), e1, T.push_runs _ _ h1]
/-! ### write counts by place -/
theorem wr_step {t : T} {m : Nat} (h : m ≤ t.runs) (k : Nat) : ((t.push m).wr.getD k 0) = if t.start m ≤ k ∧ k < t.size + 1 then t.wr.getD k 0 + 1 else t.wr.getD k 0 := by
  have hs := T.start_le t m h
  have hl := T.wr_len t
  rw [T.push_wr t m h]
  simp only [List.getD_eq_getElem?_getD]
  by_cases h1 : k < t.start m
  · rw [List.getElem?_append_left (by rw [List.length_take]; omega), List.getElem?_take, if_pos h1, if_neg (by omega)]
  · have e : (t.wr.take (t.start m)).length = t.start m := by rw [List.length_take]; omega
    rw [List.getElem?_append_right (by omega), e]
    by_cases h2 : k < t.size
    · rw [List.getElem?_append_left (by rw [List.length_map, List.length_drop]; omega), List.getElem?_map, List.getElem?_drop, if_pos (by omega), show t.start m + (k - t.start m) = k by omega]
      rw [List.getElem?_eq_getElem (by omega)]
      rfl
    · by_cases h3 : k = t.size
      · have e2 : ((t.wr.drop (t.start m)).map (· + 1)).length = k - t.start m := by rw [List.length_map, List.length_drop]; omega
        rw [List.getElem?_append_right (by omega), e2, Nat.sub_self, if_pos (by omega), List.getElem?_eq_none (by omega : t.wr.length ≤ k)]
        rfl
      · rw [List.getElem?_eq_none (by simp; omega), if_neg (by omega), List.getElem?_eq_none (by omega : t.wr.length ≤ k)]
theorem list_by {c d : List Nat} (hl : c.length = d.length) (h : ∀ k, k < c.length → c[k]? = some (d.getD k 0)) : c = d := by
  refine List.ext_getElem? fun k => ?_
  by_cases hk : k < c.length
  · rw [h k hk, List.getD_eq_getElem?_getD, List.getElem?_eq_getElem (by omega)]
    rfl
  · rw [List.getElem?_eq_none (by omega), List.getElem?_eq_none (by omega)]
theorem stk_last {t : T} {i m : Nat} (h : t.sch[i]? = some m) : (pre t (i + 1)).stk 0 = ((pre t i).stk 0).take ((pre t i).runs - m) ++ [((pre t i).start m, i + 1)] := by
  obtain ⟨e, h1⟩ := pre_succ h
  have hi : i < t.size := by rw [← T.sch_len]; exact (List.getElem?_eq_some_iff.mp h).1
  rw [e, T.stk_push _ _ h1, Nat.zero_add, Nat.zero_add, pre_size (by omega)]

/-! ### subtrees -/
inductive Sub (t : T) : Nat → T → Nat → Int → Prop
  | root : Sub t 0 t 1 (-1)
  | left {off k : Nat} {p : Int} {l r : T} : Sub t off (.node l r) k p → Sub t off l k ((off + l.size : Nat) : Int)
  | right {off k : Nat} {p : Int} {l r : T} : Sub t off (.node l r) k p → Sub t (off + l.size + 1) r (k + 1) ((off + l.size : Nat) : Int)
def T.parOf (t : T) : List Int := t.par 0 (-1)
theorem slice_left {α : Type} {L a b : List α} {x : α} {off : Nat} (h : (L.drop off).take (a.length + 1 + b.length) = a ++ x :: b) : (L.drop off).take a.length = a := by
  have := congrArg (List.take a.length) h
  rw [List.take_take, List.take_left' rfl, show min a.length (a.length + 1 + b.length) = a.length by omega] at this
  exact this
theorem slice_mid {α : Type} {L a b : List α} {x : α} {off : Nat} (h : (L.drop off).take (a.length + 1 + b.length) = a ++ x :: b) : L[off + a.length]? = some x := by
  have := congrArg (fun l : List α => l[a.length]?) h
  simp only [List.getElem?_take, List.getElem?_drop] at this
  rw [if_pos (by omega), List.getElem?_append_right (Nat.le_refl _), Nat.sub_self] at this
  simpa using this
theorem slice_right {α : Type} {L a b : List α} {x : α} {off : Nat} (h : (L.drop off).take (a.length + 1 + b.length) = a ++ x :: b) : (L.drop (off + a.length + 1)).take b.length = b := by
  have := congrArg (List.drop (a.length + 1)) h
  rw [List.drop_take, List.drop_drop] at this
  have e2 : List.drop (a.length + 1) (a ++ x :: b) = b := by
    rw [List.drop_append]; simp
  rw [e2] at this
  have h2 := congrArg (List.take b.length) this
  rw [List.take_take, List.take_length] at h2
  rw [← Nat.add_assoc] at h2
  rw [show b.length = min b.length (a.length + 1 + b.length - (a.length + 1)) by omega]
  exact h2
theorem sub_le {t : T} {off k : Nat} {s : T} {p : Int} (h : Sub t off s k p) : off + s.size ≤ t.size ∧ 1 ≤ k ∧ k ≤ off + 1 := by
  induction h with
  | root => exact ⟨by omega, by omega, by omega⟩
  | left _ ih => simp only [T.size] at ih; omega
  | right _ ih => simp only [T.size] at ih; omega
theorem sub_out {t : T} {off k : Nat} {s : T} {p : Int} (h : Sub t off s k p) : (p = -1 ∨ ((0 ≤ p ∧ p < t.size) ∧ (p + 1 = off ∨ p = ((off + s.size : Nat) : Int)))) := by
  cases h with
  | root => exact .inl rfl
  | left h => have := sub_le h; simp only [T.size] at this; exact .inr ⟨by omega, .inr rfl⟩
  | right h => have := sub_le h; simp only [T.size] at this; exact .inr ⟨by omega, .inl (by omega)⟩
theorem sub_rc {t : T} {off k : Nat} {s : T} {p : Int} (h : Sub t off s k p) : (t.rc.drop off).take s.size = s.rc.map (· + (k - 1)) := by
  induction h with
  | root => simp [← T.rc_len]
  | @left off k p l r h ih =>
    have e : (T.node l r).rc.map (· + (k - 1)) = l.rc.map (· + (k - 1)) ++ (1 + (k - 1)) :: (r.rc.map (· + 1)).map (· + (k - 1)) := by simp [T.rc]
    rw [e] at ih
    have hl : (l.rc.map (· + (k - 1))).length = l.size := by rw [List.length_map, T.rc_len]
    have hr : ((r.rc.map (· + 1)).map (· + (k - 1))).length = r.size := by rw [List.length_map, List.length_map, T.rc_len]
    have := slice_left (a := l.rc.map (· + (k - 1))) (b := (r.rc.map (· + 1)).map (· + (k - 1))) (L := t.rc) (off := off) (x := 1 + (k - 1)) (by rw [hl, hr]; exact ih)
    rw [hl] at this
    exact this
  | @right off k p l r h ih =>
    have e : (T.node l r).rc.map (· + (k - 1)) = l.rc.map (· + (k - 1)) ++ (1 + (k - 1)) :: (r.rc.map (· + 1)).map (· + (k - 1)) := by simp [T.rc]
    rw [e] at ih
    have hl : (l.rc.map (· + (k - 1))).length = l.size := by rw [List.length_map, T.rc_len]
    have hr : ((r.rc.map (· + 1)).map (· + (k - 1))).length = r.size := by rw [List.length_map, List.length_map, T.rc_len]
    have := slice_right (a := l.rc.map (· + (k - 1))) (b := (r.rc.map (· + 1)).map (· + (k - 1))) (L := t.rc) (off := off) (x := 1 + (k - 1)) (by rw [hl, hr]; exact ih)
    rw [hl, hr] at this
    rw [this, List.map_map]
    refine List.map_congr_left fun a _ => ?_
    have := (sub_le h).2.1
    simp only [Function.comp]
    omega
theorem sub_par {t : T} {off k : Nat} {s : T} {p : Int} (h : Sub t off s k p) : (t.parOf.drop off).take s.size = s.par (off : Int) p := by
  induction h with
  | root => simp only [T.parOf]; rw [List.drop_zero, List.take_of_length_le (by rw [T.par_len]; omega)]; rfl
  | @left off k p l r h ih =>
    simp only [T.par] at ih
    have hl := T.par_len l (off : Int) ((off : Int) + l.size)
    have hr := T.par_len r ((off : Int) + l.size + 1) ((off : Int) + l.size)
    have := slice_left (a := l.par (off : Int) ((off : Int) + l.size)) (b := r.par ((off : Int) + l.size + 1) ((off : Int) + l.size)) (L := t.parOf) (off := off) (x := p) (by rw [hl, hr]; exact ih)
    rw [hl] at this
    rw [this, Int.natCast_add]
  | @right off k p l r h ih =>
    simp only [T.par] at ih
    have hl := T.par_len l (off : Int) ((off : Int) + l.size)
    have hr := T.par_len r ((off : Int) + l.size + 1) ((off : Int) + l.size)
    have := slice_right (a := l.par (off : Int) ((off : Int) + l.size)) (b := r.par ((off : Int) + l.size + 1) ((off : Int) + l.size)) (L := t.parOf) (off := off) (x := p) (by rw [hl, hr]; exact ih)
    rw [hl, hr] at this
    rw [this]
    simp only [Int.natCast_add]
    rfl
theorem sub_root {t : T} {off k : Nat} {l r : T} {p : Int} (h : Sub t off (.node l r) k p) : t.parOf[off + l.size]? = some p := by
  have ih := sub_par h
  simp only [T.par] at ih
  have hl := T.par_len l (off : Int) ((off : Int) + l.size)
  have hr := T.par_len r ((off : Int) + l.size + 1) ((off : Int) + l.size)
  have := slice_mid (a := l.par (off : Int) ((off : Int) + l.size)) (b := r.par ((off : Int) + l.size + 1) ((off : Int) + l.size)) (L := t.parOf) (off := off) (x := p) (by rw [hl, hr]; exact ih)
  rw [hl] at this
  exact this
/-- the parents of a subtree: the root's alone lies outside -/
theorem par_in : ∀ (s : T) (off p : Int) (i : Nat) (q : Int), (s.par off p)[i]? = some q → (∃ l r, s = .node l r ∧ i = l.size ∧ q = p) ∨ (off ≤ q ∧ q < off + s.size ∧ ∀ l r, s = .node l r → i ≠ l.size)
  | .nil, _, _, _, _, h => by simp [T.par] at h
  | .node l r, off, p, i, q, h => by
    simp only [T.par] at h
    have hl := T.par_len l off (off + l.size)
    by_cases h1 : i < l.size
    · rw [List.getElem?_append_left (by omega)] at h
      refine .inr ?_
      rcases par_in l off (off + l.size) i q h with ⟨a, b, e, e2, e3⟩ | ⟨h2, h3, _⟩
      · refine ⟨by omega, by simp only [T.size]; omega, fun l' r' e' => by cases e'; omega⟩
      · refine ⟨by omega, by simp only [T.size]; omega, fun l' r' e' => by cases e'; omega⟩
    · rw [List.getElem?_append_right (by omega), hl] at h
      by_cases h2 : i = l.size
      · subst h2
        rw [Nat.sub_self] at h
        have : p = q := by simpa using h
        exact .inl ⟨l, r, rfl, rfl, this.symm⟩
      · obtain ⟨j, e⟩ : ∃ j, i - l.size = j + 1 := ⟨i - l.size - 1, by omega⟩
        rw [e, List.getElem?_cons_succ] at h
        refine .inr ?_
        rcases par_in r (off + l.size + 1) (off + l.size) j q h with ⟨a, b, e4, e2, e3⟩ | ⟨h4, h3, _⟩
        · refine ⟨by omega, by simp only [T.size]; omega, fun l' r' e' => by cases e'; omega⟩
        · refine ⟨by omega, by simp only [T.size]; omega, fun l' r' e' => by cases e'; omega⟩
theorem rc_pos : ∀ (s : T) (i v : Nat), s.rc[i]? = some v → 1 ≤ v
  | .nil, _, _, h => by simp [T.rc] at h
  | .node l r, i, v, h => by
    simp only [T.rc] at h
    by_cases h1 : i < l.size
    · rw [List.getElem?_append_left (by rw [T.rc_len]; exact h1)] at h
      exact rc_pos l i v h
    · rw [List.getElem?_append_right (by rw [T.rc_len]; omega), T.rc_len] at h
      rcases Nat.eq_zero_or_pos (i - l.size) with e | e
      · rw [e] at h; simp at h; omega
      · obtain ⟨j, e⟩ : ∃ j, i - l.size = j + 1 := ⟨i - l.size - 1, by omega⟩
        rw [e, List.getElem?_cons_succ, List.getElem?_map] at h
        cases h2 : r.rc[j]? with
        | none => rw [h2] at h; cases h
        | some u => rw [h2] at h; simp at h; omega
theorem rc_one {l r : T} {i : Nat} (h : (T.node l r).rc[i]? = some 1) : i ≤ l.size := by
  simp only [T.rc] at h
  by_cases h1 : i ≤ l.size
  · exact h1
  · rw [List.getElem?_append_right (by rw [T.rc_len]; omega), T.rc_len] at h
    obtain ⟨j, e⟩ : ∃ j, i - l.size = j + 1 := ⟨i - l.size - 1, by omega⟩
    rw [e, List.getElem?_cons_succ, List.getElem?_map] at h
    cases h2 : r.rc[j]? with
    | none => rw [h2] at h; cases h
    | some u =>
      have := rc_pos r j u h2
      rw [h2] at h; simp at h; omega
theorem rc_root (l r : T) : (T.node l r).rc[l.size]? = some 1 := by
  simp only [T.rc]
  rw [List.getElem?_append_right (by rw [T.rc_len]; exact Nat.le_refl _), T.rc_len, Nat.sub_self]; rfl
theorem sub_rc_at {t : T} {off k : Nat} {s : T} {p : Int} (h : Sub t off s k p) {i : Nat} (hi : i < s.size) : ∃ v, s.rc[i]? = some v ∧ t.rc[off + i]? = some (v + (k - 1)) := by
  have e := congrArg (fun l : List Nat => l[i]?) (sub_rc h)
  simp only [List.getElem?_take, List.getElem?_drop, List.getElem?_map] at e
  rw [if_pos hi] at e
  have hv := List.getElem?_eq_getElem (show i < s.rc.length by rw [T.rc_len]; exact hi)
  rw [hv] at e
  exact ⟨_, hv, e⟩
theorem sub_par_at {t : T} {off k : Nat} {s : T} {p : Int} (h : Sub t off s k p) {i : Nat} (hi : i < s.size) : ∃ q, (s.par (off : Int) p)[i]? = some q ∧ t.parOf[off + i]? = some q := by
  have e := congrArg (fun l : List Int => l[i]?) (sub_par h)
  simp only [List.getElem?_take, List.getElem?_drop] at e
  rw [if_pos hi] at e
  have hv := List.getElem?_eq_getElem (show i < (s.par (off : Int) p).length by rw [T.par_len]; exact hi)
  rw [hv] at e
  exact ⟨_, hv, e⟩
theorem filter_one {f : Nat → Bool} {n c : Nat} (hc : c < n) (h1 : f c = true) (h2 : ∀ i, i < n → f i = true → i = c) : (List.range n).filter f = [c] := by
  induction n with
  | zero => omega
  | succ n ih =>
    rw [List.range_succ, List.filter_append]
    by_cases e : c = n
    · subst e
      have e0 : (List.range c).filter f = [] := List.filter_eq_nil_iff.mpr fun i hi hf => by
        have := List.mem_range.mp hi
        have := h2 i (by omega) hf
        omega
      rw [e0]; simp [h1]
    · rw [ih (by omega) fun i hi hf => h2 i (by omega) hf]
      have : f n = false := by
        cases hf : f n with
        | false => rfl
        | true => exact absurd (h2 n (by omega) hf) (by omega)
      simp [this]
/-- the work of a list of subtrees -/
def todo : List (Nat × T × Nat × Int) → Nat
  | [] => 0
  | x :: r => 2 * x.2.1.size + 1 + todo r
theorem todo_app : ∀ a b, todo (a ++ b) = todo a + todo b
  | [], b => by simp [todo]
  | x :: r, b => by simp [todo, todo_app r b]; omega
theorem len_todo : ∀ L, L.length ≤ todo L
  | [] => Nat.le_refl _
  | x :: r => by have := len_todo r; simp [todo]; omega

/-! ### one step up -/
theorem getD_app_l {a b : List Nat} {i : Nat} (h : i < a.length) : (a ++ b).getD i 0 = a.getD i 0 := by
  simp only [List.getD_eq_getElem?_getD, List.getElem?_append_left h]
theorem getD_app_r {a b : List Nat} {i : Nat} (h : a.length ≤ i) : (a ++ b).getD i 0 = b.getD (i - a.length) 0 := by
  simp only [List.getD_eq_getElem?_getD, List.getElem?_append_right h]
theorem getD_map1 {a : List Nat} {i : Nat} (h : i < a.length) : (a.map (· + 1)).getD i 0 = a.getD i 0 + 1 := by
  simp only [List.getD_eq_getElem?_getD, List.getElem?_map, List.getElem?_eq_getElem h]; rfl
theorem wr_l {l r : T} {i : Nat} (h : i < l.size) : (T.node l r).wr.getD i 0 = l.wr.getD i 0 + 1 := by
  simp only [T.wr]
  rw [getD_app_l (by rw [List.length_map, T.wr_len]; exact h), getD_map1 (by rw [T.wr_len]; exact h)]
theorem wr_m {l r : T} : (T.node l r).wr.getD l.size 0 = 1 := by
  simp only [T.wr]
  rw [getD_app_r (by rw [List.length_map, T.wr_len]; exact Nat.le_refl _), List.length_map, T.wr_len, Nat.sub_self]; rfl
theorem wr_r {l r : T} {j : Nat} : (T.node l r).wr.getD (l.size + 1 + j) 0 = r.wr.getD j 0 := by
  simp only [T.wr]
  rw [getD_app_r (by rw [List.length_map, T.wr_len]; omega), List.length_map, T.wr_len, show l.size + 1 + j - l.size = j + 1 by omega, List.getD_cons_succ]
theorem rc_l {l r : T} {i : Nat} (h : i < l.size) : (T.node l r).rc.getD i 0 = l.rc.getD i 0 := by
  simp only [T.rc]
  rw [getD_app_l (by rw [T.rc_len]; exact h)]
theorem rc_m {l r : T} : (T.node l r).rc.getD l.size 0 = 1 := by
  simp only [T.rc]
  rw [getD_app_r (by rw [T.rc_len]; exact Nat.le_refl _), T.rc_len, Nat.sub_self]; rfl
theorem rc_r {l r : T} {j : Nat} (h : j < r.size) : (T.node l r).rc.getD (l.size + 1 + j) 0 = r.rc.getD j 0 + 1 := by
  simp only [T.rc]
  rw [getD_app_r (by rw [T.rc_len]; omega), T.rc_len, show l.size + 1 + j - l.size = j + 1 by omega, List.getD_cons_succ, getD_map1 (by rw [T.rc_len]; exact h)]
theorem up : ∀ (s : T) (off p : Int) (i : Nat) (q : Int), (s.par off p)[i]? = some q →
    (q = p ∧ s.wr.getD i 0 = 1 ∧ s.rc.getD i 0 = 1) ∨
    ∃ j : Nat, q = off + j ∧ j < s.size ∧ j ≠ i ∧ (i < j → s.wr.getD i 0 = s.wr.getD j 0 + 1 ∧ s.rc.getD i 0 = s.rc.getD j 0) ∧ (j < i → s.wr.getD i 0 = s.wr.getD j 0 ∧ s.rc.getD i 0 = s.rc.getD j 0 + 1)
  | .nil, _, _, _, _, h => by simp [T.par] at h
  | .node l r, off, p, i, q, h => by
    simp only [T.par] at h
    have hl := T.par_len l off (off + l.size)
    by_cases h1 : i < l.size
    · rw [List.getElem?_append_left (by omega)] at h
      refine .inr ?_
      rcases up l off (off + l.size) i q h with ⟨e, e1, e2⟩ | ⟨j, e, hj, hne, c1, c2⟩
      · exact ⟨l.size, e, by simp only [T.size]; omega, by omega, fun _ => ⟨by rw [wr_l h1, wr_m, e1], by rw [rc_l h1, rc_m, e2]⟩, fun z => by omega⟩
      · exact ⟨j, e, by simp only [T.size]; omega, hne, fun z => ⟨by rw [wr_l h1, wr_l hj, (c1 z).1], by rw [rc_l h1, rc_l hj, (c1 z).2]⟩, fun z => ⟨by rw [wr_l h1, wr_l hj, (c2 z).1], by rw [rc_l h1, rc_l hj, (c2 z).2]⟩⟩
    · rw [List.getElem?_append_right (by omega), hl] at h
      by_cases h2 : i = l.size
      · subst h2
        rw [Nat.sub_self] at h
        have : p = q := by simpa using h
        exact .inl ⟨this.symm, wr_m, rc_m⟩
      · obtain ⟨k, e⟩ : ∃ k, i = l.size + 1 + k := ⟨i - l.size - 1, by omega⟩
        subst e
        rw [show l.size + 1 + k - l.size = k + 1 by omega, List.getElem?_cons_succ] at h
        have hk : k < r.size := by
          have := (List.getElem?_eq_some_iff.mp h).1
          rw [T.par_len] at this; exact this
        refine .inr ?_
        rcases up r (off + l.size + 1) (off + l.size) k q h with ⟨e, e1, e2⟩ | ⟨j, e, hj, hne, c1, c2⟩
        · exact ⟨l.size, e, by simp only [T.size]; omega, by omega, fun z => by omega, fun _ => ⟨by rw [wr_r, wr_m, e1], by rw [rc_r hk, rc_m, e2]⟩⟩
        · exact ⟨l.size + 1 + j, by rw [e]; omega, by simp only [T.size]; omega, by omega, fun z => ⟨by rw [wr_r, wr_r, (c1 (by omega)).1], by rw [rc_r hk, rc_r hj, (c1 (by omega)).2]⟩, fun z => ⟨by rw [wr_r, wr_r, (c2 (by omega)).1], by rw [rc_r hk, rc_r hj, (c2 (by omega)).2]⟩⟩
theorem wr_pos {t : T} {i : Nat} (h : i < t.size) : 1 ≤ t.wr.getD i 0 := by
  induction t generalizing i with
  | nil => simp [T.size] at h
  | node l r ihl ihr =>
    by_cases h1 : i < l.size
    · rw [wr_l h1]; omega
    · by_cases h2 : i = l.size
      · subst h2; rw [wr_m]; exact Nat.le_refl _
      · obtain ⟨k, e⟩ : ∃ k, i = l.size + 1 + k := ⟨i - l.size - 1, by omega⟩
        subst e
        rw [wr_r]; exact ihr (by simp only [T.size] at h; omega)
theorem rc_posD {t : T} {i : Nat} (h : i < t.size) : 1 ≤ t.rc.getD i 0 := by
  have := List.getElem?_eq_getElem (show i < t.rc.length by rw [T.rc_len]; exact h)
  rw [List.getD_eq_getElem?_getD, this]
  exact rc_pos t i _ this

/-! ### mirrors -/
def mirN (N : Int) (q : Int) : Int := if q = -1 then -1 else N - 1 - q
theorem mir_size : ∀ t : T, t.mir.size = t.size
  | .nil => rfl
  | .node l r => by simp [T.mir, T.size, mir_size l, mir_size r]; omega
theorem mir_par : ∀ (s : T) (N off p : Int), 0 ≤ off → ((s.par off p).reverse).map (mirN N) = s.mir.par (N - off - s.size) (mirN N p)
  | .nil, _, _, _, _ => rfl
  | .node l r, N, off, p, h => by
    simp only [T.par, T.mir, List.reverse_append, List.reverse_cons, List.map_append, List.map_cons, List.map_nil]
    rw [mir_par l N off (off + l.size) h, mir_par r N (off + l.size + 1) (off + l.size) (by omega), mir_size]
    have e1 : mirN N (off + l.size) = N - 1 - (off + l.size) := by unfold mirN; rw [if_neg (by omega)]
    rw [e1]
    have e2 : N - off - ((T.node l r).size : Int) = N - (off + l.size + 1) - r.size := by simp only [T.size]; omega
    rw [e2]
    have e3 : N - (off + ↑l.size + 1) - ↑r.size + ↑r.size = N - 1 - (off + ↑l.size) := by omega
    rw [e3, show N - 1 - (off + (l.size : Int)) + 1 = N - off - l.size by omega]
    simp
theorem mir_parOf (t : T) : t.mir.parOf = (t.parOf.reverse).map (mirN t.size) := by
  unfold T.parOf
  rw [mir_par t t.size 0 (-1) (by omega)]
  rw [show ((t.size : Int) - 0 - t.size) = 0 by omega]
  rfl
theorem mir_wr : ∀ t : T, t.mir.wr = t.rc.reverse
  | .nil => rfl
  | .node l r => by simp [T.mir, T.wr, T.rc, mir_wr l, mir_wr r]
theorem mir_rc : ∀ t : T, t.mir.rc = t.wr.reverse
  | .nil => rfl
  | .node l r => by simp [T.mir, T.wr, T.rc, mir_rc l, mir_rc r]
theorem mir_mir : ∀ t : T, t.mir.mir = t
  | .nil => rfl
  | .node l r => by simp [T.mir, mir_mir l, mir_mir r]

/-! ### parents of a joined tree -/
theorem par_below {N : Int} : ∀ (s : T) (off p : Int), 0 ≤ off → (s.par off p).map (fun q => if q = -1 then N else q) = s.par off (if p = -1 then N else p)
  | .nil, _, _, _ => rfl
  | .node l r, off, p, h => by
    simp only [T.par, List.map_append, List.map_cons]
    rw [par_below l off _ h, par_below r (off + l.size + 1) _ (by omega), if_neg (by omega : ¬ off + (l.size : Int) = -1)]
theorem par_beyond {N : Int} : ∀ (s : T) (off p : Int), 0 ≤ off → (s.par off p).map (fun q => if q = -1 then N else q + N + 1) = s.par (off + N + 1) (if p = -1 then N else p + N + 1)
  | .nil, _, _, _ => rfl
  | .node l r, off, p, h => by
    simp only [T.par, List.map_append, List.map_cons]
    rw [par_beyond l off _ h, par_beyond r (off + l.size + 1) _ (by omega), if_neg (by omega : ¬ off + (l.size : Int) = -1)]
    have e1 : off + (l.size : Int) + N + 1 = off + N + 1 + l.size := by omega
    have e2 : off + (l.size : Int) + 1 + N + 1 = off + N + 1 + l.size + 1 := by omega
    rw [e1, e2]
theorem parOf_node (s u : T) : (T.node s u).parOf = s.parOf.map (fun q => if q = -1 then (s.size : Int) else q) ++ [-1] ++ u.parOf.map (fun q => if q = -1 then (s.size : Int) else q + s.size + 1) := by
  unfold T.parOf
  rw [par_below s 0 (-1) (by omega), par_beyond u 0 (-1) (by omega)]
  simp only [T.par]
  simp
theorem parOf_root (s u : T) : (T.node s u).parOf[s.size]? = some (-1) := by
  have := sub_root (t := T.node s u) .root
  simpa using this
theorem parOf_first {s u : T} {m : Nat} (h : m < s.size) : (T.node s u).parOf[m]? ≠ some (-1) := fun e => by
  rcases par_in _ _ _ _ _ e with ⟨l, r, e1, e2, _⟩ | ⟨h1, _, _⟩
  · cases e1; omega
  · omega

/-! ### runs as lists of flushes -/
theorem stk_pair : ∀ (t : T) (off j : Nat), j + 1 ≤ t.runs → (t.stk off)[t.runs - (j + 1)]? = some (off + t.start (j + 1), off + t.start j)
  | .nil, _, _, h => by simp [T.runs] at h
  | .node l r, off, j, h => by
    by_cases e : j = r.runs
    · subst e
      have e1 : (T.node l r).runs = r.runs + 1 := by simp [T.runs]; omega
      rw [e1, Nat.sub_self, ← e1, T.start_eq, T.start_node (Nat.le_refl _), T.start_eq]
      rfl
    · have h1 : j + 1 ≤ r.runs := by simp [T.runs] at h; omega
      have e1 : (T.node l r).runs - (j + 1) = (r.runs - (j + 1)) + 1 := by simp [T.runs]; omega
      rw [e1, T.start_node h1, T.start_node (by omega)]
      simp only [T.stk, List.getElem?_cons_succ]
      rw [stk_pair r (off + l.size + 1) j h1]
      congr 2 <;> omega
theorem start_anti : ∀ (t : T) (j : Nat), j + 1 ≤ t.runs → t.start (j + 1) < t.start j
  | .nil, _, h => by simp [T.runs] at h
  | .node l r, j, h => by
    by_cases e : j = r.runs
    · subst e
      have e1 : (T.node l r).runs = r.runs + 1 := by simp [T.runs]; omega
      rw [← e1, T.start_eq, T.start_node (Nat.le_refl _), T.start_eq]
      omega
    · have h1 : j + 1 ≤ r.runs := by simp [T.runs] at h; omega
      rw [T.start_node h1, T.start_node (by omega)]
      have := start_anti r j h1
      omega
/-- the flushes of [a, b) -/
def seg (a b : Nat) : List Nat := List.range' a (b - a)
theorem seg_app {a b c : Nat} (h1 : a ≤ b) (h2 : b ≤ c) : seg a b ++ seg b c = seg a c := by
  unfold seg
  have := List.range'_append_1 (s := a) (m := b - a) (n := c - b)
  rw [show a + (b - a) = b by omega, show b - a + (c - b) = c - a by omega] at this
  exact this
theorem seg_one (a : Nat) : seg a (a + 1) = [a] := by
  unfold seg
  rw [show a + 1 - a = 1 by omega]; rfl
theorem seg_nil (a : Nat) : seg a a = [] := by unfold seg; rw [Nat.sub_self]; rfl
theorem seg_len (a b : Nat) : (seg a b).length = b - a := by unfold seg; rw [List.length_range']
theorem seg_at {a b k : Nat} (h : a + k < b) : (seg a b)[k]? = some (a + k) := by
  unfold seg
  rw [List.getElem?_range' (by omega)]
  simp
theorem stk_take_succ {t : T} {j : Nat} (off : Nat) (h : j + 1 ≤ t.runs) : (t.stk off).take (t.runs - j) = (t.stk off).take (t.runs - (j + 1)) ++ [(off + t.start (j + 1), off + t.start j)] := by
  rw [show t.runs - j = (t.runs - (j + 1)) + 1 by omega, List.take_add_one, stk_pair t off j h]; rfl
/-- adjacent, from off on -/
theorem stk_starts : ∀ (t : T) (off : Nat), (t.stk off).map (·.1) = (off :: (t.stk off).map (·.2)).dropLast
  | .nil, _ => rfl
  | .node l r, off => by
    have ih := stk_starts r (off + l.size + 1)
    simp only [T.stk, List.map_cons]
    rw [ih]; rfl
theorem stk_stops : ∀ (t : T) (off : Nat), (off :: (t.stk off).map (·.2)).getLast? = some (off + t.size)
  | .nil, off => by simp [T.stk, T.size]
  | .node l r, off => by
    have ih := stk_stops r (off + l.size + 1)
    simp only [T.stk, List.map_cons, T.size]
    rw [List.getLast?_cons_cons, ih]
    congr 1; omega
theorem stk_lt : ∀ (t : T) (off : Nat) (p : Nat × Nat), p ∈ t.stk off → off ≤ p.1 ∧ p.1 < p.2 ∧ p.2 ≤ off + t.size
  | .nil, _, _, h => by simp [T.stk] at h
  | .node l r, off, p, h => by
    simp only [T.stk] at h
    rcases List.mem_cons.mp h with rfl | h
    · simp only [T.size]; omega
    · have := stk_lt r _ p h
      simp only [T.size]; omega
end MB

set_option maxHeartbeats 4000000
namespace MB
open PySem PySem.Spec PyProof.Rows L2

/-! ### great powers -/
def CPowW (i j : Int) : Prop := 0 ≤ j ∧ (Builtin.Int.intBits i : Int) * j ≤ 2 ^ 27
theorem op_powW {X : Cx} : OpR X (binaryOp .Pow) (rI CPowW fun i j => .int (i ^ j.toNat)) := opI fun _ _ _ _ _ _ _ hc q => pow_int hc.1 hc.2 q

/-! ### xs[i] op= e -/
theorem get_list {X : Cx} : PGet X (rIxL X.K) := by
  intro pins s σ H x y v u Q I rx ry h
  obtain ⟨p, xs, i, z, rfl, rfl, hq, he, q⟩ := h
  cases rx
  obtain ⟨t, rfl⟩ := ry
  obtain ⟨its, r, pl, hz⟩ := I.list hq
  obtain ⟨j, h1, h2, h3, h4, h5⟩ := atI_get he
  obtain ⟨w, ew, rw'⟩ := r.get h2
  have hl := r.length
  have hn := line63
  have fin : EP X pins σ Q w s := ⟨z, H, I, rw', q⟩
  by_cases h0 : 0 ≤ i
  · have hj : i.toNat = j := by
      rw [seqIndex_of h0 h5] at h1
      exact Option.some.inj h1
    exact getItem_listL pl.isList h0 (by omega) (by rw [hj]; exact ew) fin
  · have hj : (i + (its.toArray.size : Int)).toNat = j := by
      rw [seqIndex_neg (by omega) h4] at h1
      rw [List.size_toArray, ← hl]
      exact Option.some.inj h1
    exact wpAny_getItem_list_neg pl.isList (by omega) (by rw [List.size_toArray] <;> omega) (by omega) (by rw [hj]; simpa using ew) fin

/-! ### sum of a tuple of ints -/
theorem ints_at : ∀ {ns : List Int} {its : List Value}, Vals (ns.map V.int) its → ∀ (i : Nat) (v : Value), its[i]? = some v → ∃ t, v = .int (ns.getD i 0) t
  | [], _, .nil, i, v, h => by simp at h
  | n :: ns, u :: us, .cons r rr, 0, v, h => by
    obtain ⟨t, rfl⟩ := r
    simp at h
    exact ⟨t, by simp [h]⟩
  | n :: ns, u :: us, .cons r rr, i + 1, v, h => by
    have := ints_at rr i v (by simpa using h)
    simpa using this
theorem preSum_getD (ns : List Int) : ∀ k, k ≤ ns.length → preSum (fun i => ns.getD i 0) k = (ns.take k).sum
  | 0, _ => by simp [preSum]
  | k + 1, h => by
    have e : ns[k]? = some (ns.getD k 0) := by
      rw [List.getElem?_eq_getElem (by omega), List.getD_eq_getElem?_getD, List.getElem?_eq_getElem (by omega)]
      rfl
    rw [preSum, preSum_getD ns k (by omega), L2.sum_take e]
def rSumT (K : PySem.W.Frag) : List V → Hp → VK → Prop := fun xs H Q => ∃ (a : Addr) (ns : List Int), xs = [V.ref a] ∧ SqT K H a (ns.map V.int) ∧ Q (.int ns.sum) H
theorem cr_sumT {X : Cx} (hc : X.calm = true) : CallR X (.builtin "sum") (rSumT X.K) := by
  intro pins s σ H vs us Q I r h
  obtain ⟨a, ns, rfl, hs, q⟩ := h
  obtain ⟨its, rv, hl, _⟩ := I.tuple hs
  rw [Vals.ref1 r]
  have hT : s.heap.IsTuple a its.toArray := hl
  have hlt : a < s.heap.objs.size := by obtain ⟨_, e, _⟩ := hl; exact Heap.lt_size e
  refine PySem.call_sum_walkG (wpAny_pyIter_tuple hT ?_)
  refine ⟨s.heap.objs.size, [s.heap.objs.size, a], [s.heap.objs.size], its.toArray.size, _, _, fun i => ns.getD i 0, rfl, Walks.tuple (A := X.A.in1) (I.ok.hd hc) _ a (Nat.ne_of_lt hlt) its.toArray, ⟨⟨_, Heap.get?_push_size _ rfl, rfl, rfl⟩, hT.at fun o e => Heap.get?_push_of_some _ e⟩, fun b hb => ?_, fun i v hv => ints_at rv i v (by simpa using hv), fun h' tk t' hk => ?_⟩
  · show b < (s.heap.push _).objs.size
    rw [Heap.size_push]
    have e : b = s.heap.objs.size ∨ b = a := by simpa using hb
    rcases e with e | e
    · rw [e]; exact Nat.lt_succ_self _
    · rw [e]; exact Nat.lt_succ_of_lt hlt
  · have el : its.toArray.size = ns.length := by rw [List.size_toArray, ← rv.length, List.length_map]
    rw [el, preSum_getD ns _ (Nat.le_refl _), List.take_length]
    refine ⟨.int ns.sum, H, I.kept fun b o e => hk b o ?_ (Heap.get?_push_of_some _ e), ⟨_, rfl⟩, q⟩
    have := Heap.lt_size e
    simp only [List.mem_singleton]
    exact Nat.ne_of_lt this

/-! ### enumerate(tuple) -/
set_option maxHeartbeats 4000000 in
theorem meets_enumerate_newT (l : Addr) (items : Array Value) (n : Nat) (dct : Option Addr) (sl : Array (Option Value)) :
    Meets (Builtin.«enumerate.__new__» ⟨[.type "enumerate", .ref l], []⟩) (fun _ R s => s.heap.get? l = some { cls := .type "tuple", dict := dct, data := .seq items n, slots := sl } ∧
      R (.ok (.ret (.ref (s.heap.push { cls := .type "tuple_iterator", data := .fields #[.ref l, .int 0 0] }).objs.size)))
        { s with heap := (s.heap.push { cls := .type "tuple_iterator", data := .fields #[.ref l, .int 0 0] }).push { cls := .type "enumerate", data := .fields #[.none, .bool false, .ref s.heap.objs.size, rawInt 0, .none, .none] } }) :=
  .of_wp fun prog w A R s h => by
    obtain ⟨hp, g, d, tk, os⟩ := s; obtain ⟨hl, h⟩ := h
    have hsub := sub_enumerate
    have hL : Heap.IsTuple (Shared.heap ⟨hp, g, d, tk, os⟩) l items := ⟨_, hl, rfl, n, rfl⟩
    wp_walk using AutoSeq1.wpAny_loadPart' hl
    refine wpAny_stack_any fun st => wpAny_pure ?_
    split
    · rename_i c _ _ _ _ _
      cases (c == Value.type "enumerate")
      · wp_walk using AutoSeq1.wpAny_loadPart' hl, wpAny_pyIter_tuple hL
        exact ⟨_, rfl, h⟩
      · wp_walk using AutoSeq1.wpAny_loadPart' hl, wpAny_pyIter_tuple hL
        exact ⟨_, rfl, h⟩
    · wp_walk using AutoSeq1.wpAny_loadPart' hl, wpAny_pyIter_tuple hL
      exact ⟨_, rfl, h⟩
section
variable {prog : Program} {w : World} {A : Around} {E : Value → Shared → Prop} {s : Shared}
theorem call_enumerate_tuple {l : Addr} {items : Array Value} {Q : Value → Shared → Prop} (hL : s.heap.IsTuple l items)
    (h : ∀ h', IsEnum h' (s.heap.objs.size + 1) s.heap.objs.size 0 .none → h'.IsTupleIter s.heap.objs.size l 0 → h'.objs.size = s.heap.objs.size + 2 →
      (∀ b o, s.heap.get? b = some o → h'.get? b = some o) → Q (.ref (s.heap.objs.size + 1)) { s with heap := h' }) :
    wpAny (model prog w) A (call (.type "enumerate") [.ref l]) Q E s := by
  obtain ⟨⟨c, dct, dt, sl⟩, hl, hc, n, hd⟩ := hL
  replace hc : c = .type "tuple" := hc
  replace hd : dt = .seq items n := hd
  subst hc hd
  refine callType_new F.called_enumerate (by decide) (F.typeCall_enumerate_1 _) (F.newCall_enumerate_1 _) (fun obj => F.args_object_init_2 obj _) F.entry_enumerate_new
    (meets_enumerate_newT l items n dct sl) ⟨hl, ?_⟩
  have hz : (s.heap.push { cls := .type "tuple_iterator", data := .fields #[.ref l, .int 0 0] }).objs.size = s.heap.objs.size + 1 := Heap.size_push ..
  show _ ∧ _
  rw [hz]
  have he : IsEnum ((s.heap.push { cls := .type "tuple_iterator", data := .fields #[.ref l, .int 0 0] }).push
      { cls := .type "enumerate", data := .fields #[.none, .bool false, .ref s.heap.objs.size, rawInt 0, .none, .none] }) (s.heap.objs.size + 1) s.heap.objs.size 0 .none := by
    have := Heap.get?_push_size (s.heap.push { cls := .type "tuple_iterator", data := .fields #[.ref l, .int 0 0] })
      (o := { cls := .type "enumerate", data := .fields #[.none, .bool false, .ref s.heap.objs.size, rawInt 0, .none, .none] }) rfl
    rw [hz] at this; exact this
  refine ⟨⟨_, he, rfl⟩, h _ he ⟨_, Heap.get?_push_of_some _ (Heap.get?_push_size _ rfl), rfl, rfl⟩ (by rw [Heap.size_push, hz]) fun b o x => Heap.get?_push_of_some _ (Heap.get?_push_of_some _ x)⟩
end
def IteT (K : PySem.W.Frag) (a : Addr) : It :=
  ⟨fun i H => ∃ (xs : List V) (x : V), SqT K H a xs ∧ xs[i]? = some x, fun i H v H' => ∃ T x, v = .ref T ∧ H T = none ∧ H' = upd H T (.tup [.int (i : Nat), x]) ∧ ∀ xs, SqT K H a xs → xs[i]? = some x, fun i H => ∃ xs : List V, SqT K H a xs ∧ xs.length = i⟩
theorem tup_ne {h : Heap} {a it : Addr} {items : Array Value} {i : Nat} (h1 : h.IsTuple a items) (h2 : h.IsTupleIter it a i) : a ≠ it := fun e => by
  obtain ⟨o, ho, hc, n, hd⟩ := h1
  obtain ⟨o', ho', hc', hd'⟩ := h2
  rw [e] at ho
  rw [ho] at ho'
  cases ho'
  rw [hd] at hd'
  cases hd'
theorem turn_enumT {P : Program} {w : World} {K : PySem.W.Frag} {elts : List Expr} {kk : Nat} {tpos : Pos} (a e it : Addr) (hae : a ≠ e) :
    Turn P w K (.Tuple elts kk tpos) (IteT K a) [e, it] e (fun i h => (∃ old, IsEnum h e it ((i : Nat) : Int) old) ∧ h.IsTupleIter it a i ∧ e ≠ it) where
  mem := by simp
  obj := fun i h st b hb => by
    obtain ⟨⟨old, he⟩, ⟨o, ho, hc, hd⟩, _⟩ := st
    have e' : b = e ∨ b = it := by simpa using hb
    rcases e' with z | z
    · rw [z]; exact ⟨_, he, fun v q => nomatch q⟩
    · rw [z]; exact ⟨o, ho, fun v q => by rw [hd] at q; cases q⟩
  keep := fun i h h' st k => let ⟨⟨old, he⟩, hi, hne⟩ := st; ⟨⟨old, k e (by simp) _ he⟩, hi.at fun o q => k it (by simp) o q, hne⟩
  item := by
    intro X hP hw hK hc i pins s σ H E I hf st hg
    subst hP hw hK
    obtain ⟨⟨old, he⟩, hit, hne⟩ := st
    obtain ⟨xs, x, hq, hx⟩ := hg
    obtain ⟨its, rv, p, hz⟩ := I.tuple hq
    have p : s.heap.IsTuple a its.toArray := p
    have hat : a ≠ it := tup_ne p hit
    have hel : e < s.heap.objs.size := Heap.lt_size he
    have hil : it < s.heap.objs.size := by obtain ⟨_, q, _⟩ := hit; exact Heap.lt_size q
    have hlen : i < its.toArray.size := by
      rw [List.size_toArray, ← rv.length]; exact (List.getElem?_eq_some_iff.mp hx).1
    refine wpAny_pyNext_enum_itemD (Draws.tuple (prog := X.prog) (w := X.w) (A := X.A.in1) (I.ok.hd hc) it a hat its.toArray) he ⟨hit, p⟩ hlen hne (by simp; exact ⟨hne, fun z => hae z.symm⟩) fun u h' tk hu ho hit' hT hsz hk => ?_
    obtain ⟨u', hu', ru'⟩ := rv.get hx
    have eu : u = u' := by
      have h1 : its[i]? = some u := by simpa using hu
      rw [h1] at hu'; exact Option.some.inj hu'
    subst eu
    refine ⟨_, rfl, wpAny_letOwnedTupleGo_enum (s := { s with heap := h', toks := tk + 1 }) ho fun h'' he' sb => ?_⟩
    have hT2 : h''.get? s.heap.objs.size = some { cls := .type "tuple", data := .seq #[.int i tk, u] } := (sb.2 _ (Nat.ne_of_gt hel)).trans hT
    have new : ObjOk X.prog X.w (upd H s.heap.objs.size (.tup [.int (i : Nat), x])) h'' s.heap.objs.size (.tup [.int (i : Nat), x]) :=
      ⟨by show 2 ≤ sizeLine; decide, [.int i tk, u], .cons ⟨_, rfl⟩ (.cons ru' .nil), ⟨_, hT2, rfl, _, rfl⟩⟩
    have I1 : Inv X pins σ (upd H s.heap.objs.size (.tup [.int (i : Nat), x])) { s with heap := h'', toks := tk + 1 } :=
      I.turnedNew (ch := [e, it]) (fun b ob hb q => (sb.2 b (fun z => hb (by simp [z]))).trans (hk b ob (fun z => hb (by simp [z])) (fun z => hb (by simp [z])) q)) hf (Nat.le_refl _) new
    refine ⟨.ref s.heap.objs.size, _, I1, rfl, ⟨_, x, rfl, I.hok.fresh (Nat.le_refl _), rfl, fun ys hy => by rw [I.tuple_inj hy hq]; exact hx⟩, ⟨⟨u, ?_⟩, hit'.1.at fun o q => (sb.2 it (Ne.symm hne)).trans q, hne⟩, fun b hb => ?_⟩
    · have e1 : ((i + 1 : Nat) : Int) = (i : Int) + 1 := by omega
      rw [e1]; exact he'
    · have hb' : b < s.heap.objs.size := by
        have e' : b = e ∨ b = it := by simpa using hb
        rcases e' with z | z
        · rw [z]; exact hel
        · rw [z]; exact hil
      rw [upd_ne (Nat.ne_of_lt hb')]
      exact (hf b hb).1
  done := by
    intro X hP hw hK hc i pins s σ H E I hf st hg
    subst hP hw hK
    obtain ⟨⟨old, he⟩, hit, hne⟩ := st
    obtain ⟨xs, hq, hx⟩ := hg
    obtain ⟨its, rv, p, hz⟩ := I.tuple hq
    have p : s.heap.IsTuple a its.toArray := p
    have hat : a ≠ it := tup_ne p hit
    obtain ⟨f0, f1, f2, f3, f4, f5⟩ := hf it (by simp)
    have hlen : its.toArray.size = i := by rw [List.size_toArray, ← rv.length, hx]
    refine wpAny_pyNext_enum_endD (Draws.tuple (prog := X.prog) (w := X.w) (A := X.A.in1) (I.ok.hd hc) it a hat its.toArray) he ?_ fun h' eb => ⟨rfl, I.turned (t' := s.toks) (fun b o hb q => eb b o hb q) f0 f1 f3 f4 f5⟩
    rw [hlen]
    exact ⟨hit, p⟩
  self := fun A i s Q E st h => let ⟨⟨_, he⟩, _⟩ := st; wpAny_pyIter_enum he h
def iEnumT (K : PySem.W.Frag) (ta : TA) : TI := fun σ H R => ta σ H fun vs H1 => ∃ a xs, vs = [.ref a] ∧ SqT K H1 a xs ∧ R (IteT K a) H1
theorem pi_enumT {X : Cx} {e : Expr} {ta : TA} {p pos tpos : Pos} {elts : List Expr} {kk : Nat} (hg : Gl X "enumerate") (hm : X.mg "enumerate" = none) (ha : PA X [e] ta) (hs : starEach [e] X.env = [(false, eval e X.env)] := by rfl) :
    PI X (.Tuple elts kk tpos) (.Call (.Name "enumerate" p) [e] [] pos) (iEnumT X.K ta) := by
  refine ⟨fun pins s σ H R I h => ?_⟩
  refine Call_ (ld_blt I hg hm boot_enumerate (PyProof.Rows.callWith_type1 (thn (ha.run pos pins s σ H _ I h) fun us s1 ⟨vs, H1, I1, r1, q1⟩ => ?_) hs rfl))
  obtain ⟨a, xs, ex, hq, q⟩ := q1
  subst ex
  cases r1 with
  | cons r rr =>
    cases rr
    cases r
    obtain ⟨its, rv, p', hz⟩ := I1.tuple hq
    have hlt : a < s1.heap.objs.size := by obtain ⟨_, e, _⟩ := p'; exact Heap.lt_size e
    refine call_enumerate_tuple p' fun h' he hit hsz hk => wpAny_pyIter_enum he ?_
    have I2 : Inv X pins σ H1 { s1 with heap := h' } := I1.kept (t' := s1.toks) hk
    refine ⟨s1.heap.objs.size + 1, [s1.heap.objs.size + 1, s1.heap.objs.size], _, _, H1, rfl, I2, turn_enumT a (s1.heap.objs.size + 1) s1.heap.objs.size (Nat.ne_of_lt (Nat.lt_succ_of_lt hlt)), ⟨⟨.none, he⟩, hit, Nat.succ_ne_self _⟩, fun b hb => ?_, q⟩
    have e' : b = s1.heap.objs.size + 1 ∨ b = s1.heap.objs.size := by simpa using hb
    have hle : s1.heap.objs.size ≤ b := by
      rcases e' with z | z
      · rw [z]; exact Nat.le_add_right _ _
      · rw [z]; exact Nat.le_refl _
    exact I1.fpOk hle (I1.hok.fresh hle)
theorem walk_enumT {K : PySem.W.Frag} {a : Addr} {xs : List V} : Walk (IteT K a) xs.length (fun H => SqT K H a xs) (YPair (fun i => some (.int (i : Nat))) (fun i => xs[i]?)) := by
  refine ⟨fun i H hi hG => ⟨xs, xs[i], hG, List.getElem?_eq_getElem hi⟩, fun H hG => ⟨xs, hG, rfl⟩, fun i H x H' hi hG y => ?_⟩
  obtain ⟨T, x, e1, e2, e3, e4⟩ := y
  exact ⟨T, _, x, e1, e2, e3, rfl, e4 xs hG⟩

/-! ### tuple.index of an int -/
theorem flat_ints (ns : List Int) : (ns.map V.int).all flatV = true := by
  rw [List.all_map]
  exact List.all_eq_true.mpr fun _ _ => rfl
theorem mt_tindex {X : Cx} : MtR X "tuple.index" (fun x xs H Q => ∃ p, ∃ ys : List Int, ∃ z j, x = .ref p ∧ xs = [.int z] ∧ SqT X.K H p (ys.map V.int) ∧ ys[j]? = some z ∧ (∀ m, m < j → ys[m]? ≠ some z) ∧ Q (.int (j : Nat)) H) := by
  intro pins s σ H x xs v us Q I rx rs h
  obtain ⟨p, ys, z, j, rfl, rfl, hq, hy, hno, q⟩ := h
  cases rx
  obtain ⟨u, rfl, t, rfl⟩ := vals1 rs
  obtain ⟨its, r, pl, hz⟩ := I.tuple hq
  obtain ⟨⟨cls, dd, dt, sl⟩, ho, hc, n, hd⟩ := pl
  simp only at hc hd
  subst hc
  subst hd
  have hl : its.toArray.size = ys.length := by rw [List.size_toArray, ← r.length, List.length_map]
  have hj : j < its.toArray.size := by rw [hl]; exact (List.getElem?_eq_some_iff.mp hy).1
  have at' : ∀ (m : Nat) (hm : m < its.toArray.size), ∃ y t', ys[m]? = some y ∧ its.toArray[m] = Value.int y t' := fun m hm => by
    have hm' : m < ys.length := by rw [← hl]; exact hm
    obtain ⟨w, hw, t', hw'⟩ := r.get (i := m) (x := .int ys[m]) (by simp [hm'])
    refine ⟨ys[m], t', List.getElem?_eq_getElem hm', ?_⟩
    have e := (List.getElem?_eq_some_iff.mp hw).2
    rw [← hw', ← e]
    simp
  refine call_meets PySem.F.slot_tuple_index ⟨_, ho, rfl⟩ PySem.F.entry_tuple_index (PySem.F.args_tuple_index_2 _ _) (TI.tuple_indexAt p its.toArray n dd sl (.int z t) (eqU (.int z)) j hj ?_ ?_)
    ⟨ho, fun w hw => mem_eqAt (x := .int z) ⟨t, rfl⟩ rfl r (flat_ints ys) w (by simpa using hw), ⟨.int (j : Nat), H, I.tok _, ⟨_, rfl⟩, q⟩⟩
  · obtain ⟨y, t', h1, h2⟩ := at' j hj
    rw [hy] at h1
    cases h1
    rw [h2]
    show (z == z) = true
    exact beq_self_eq_true z
  · intro m hm hmj
    obtain ⟨y, t', h1, h2⟩ := at' m hm
    rw [h2]
    show (y == z) = false
    exact beq_eq_false_iff_ne.mpr fun e => hno m hmj (e ▸ h1)

/-! ### rules by the written part K itself (for a comprehension's block) -/
def rLen (K : PySem.W.Frag) : List V → Hp → VK → Prop := fun xs H Q => ∃ p ys, xs = [.ref p] ∧ (SqL K H p ys ∨ SqT K H p ys) ∧ Q (.int ys.length) H
def rTupOf (K : PySem.W.Frag) : List V → Hp → VK → Prop := fun xs H Q => ∃ p ys, xs = [.ref p] ∧ ((SqL K H p ys ∧ ∀ l, H l = none → Q (.ref l) (upd H l (.tup ys))) ∨ (SqT K H p ys ∧ Q (.ref p) H))
def rListOf (K : PySem.W.Frag) : List V → Hp → VK → Prop := fun xs H Q => ∃ p ys, xs = [.ref p] ∧ (SqL K H p ys ∨ SqT K H p ys) ∧ ∀ l, H l = none → Q (.ref l) (upd H l (.lst ys))
section
variable {X : Cx} {K : PySem.W.Frag}
theorem k_len (hK : X.K = K) : CallR X (.builtin "len") (rLen K) := by subst hK; exact call_len_seq
theorem k_tupOf (hK : X.K = K) : CallR X (.type "tuple") (rTupOf K) := by subst hK; exact call_tuple_of
theorem k_listOf (hK : X.K = K) : CallR X (.type "list") (rListOf K) := by subst hK; exact call_list_of
theorem k_isi (hK : X.K = K) : CallR X (.builtin "isinstance") (rIsi K) := by subst hK; exact call_isi
theorem k_ixT (hK : X.K = K) : IxR X (rIxT K) := by subst hK; exact ix_tup
theorem k_ixL (hK : X.K = K) : IxR X (rIxL K) := by subst hK; exact ix_list
theorem k_slT (hK : X.K = K) : SlR X (rSlA K) := by subst hK; exact sl_tupA
theorem k_catT (hK : X.K = K) : OpR X (binaryOp .Add) (rCatA K) := by subst hK; exact op_catA
theorem k_sumT (hK : X.K = K) (hc : X.calm = true) : CallR X (.builtin "sum") (rSumT K) := by subst hK; exact cr_sumT hc
end

/-! ### a statement, then the rest, with a word between them -/
def tCut (t u : TS) : TS := fun D σ H => ∃ Mid : L2.St → Hp → Prop, t { D with nx := Mid } σ H ∧ ∀ σ' H', Mid σ' H' → u D σ' H'
theorem pss_cut {X : Cx} {st : Stmt} {rest : List Stmt} {t u : TS} (h1 : PS X st t) (h2 : PSs X rest u) : PSs X (st :: rest) (tCut t u) := by
  refine ⟨fun pins s σ H D I h => ?_⟩
  obtain ⟨Mid, hm, hu⟩ := h
  refine wpAny_execs_cons (thn (h1.run pins s σ H { D with nx := Mid } I hm) fun f s1 q => ?_)
  cases f with
  | next =>
    obtain ⟨σ', H', I', q⟩ := q
    exact h2.run pins s1 σ' H' D I' (hu σ' H' q)
  | ret v => exact q
  | brk => exact q
  | cont => exact q

/-! ### a tuple that is known to be plain; its method index -/
def rTupOfZ (K : PySem.W.Frag) : List V → Hp → VK → Prop := fun xs H Q => ∃ p ys, xs = [.ref p] ∧ SqL K H p ys ∧ ∀ l o, H l = none → o.dict = none → Q (.ref l) (upd H l (.frz o (.tup ys)))
theorem k_tupOfZ {X : Cx} {K : PySem.W.Frag} (hK : X.K = K) : CallR X (.type "tuple") (rTupOfZ K) := by
  subst hK
  intro pins s σ H xs us Q I r h
  obtain ⟨p, ys, rfl, hq, q⟩ := h
  obtain ⟨u, rfl, rx⟩ := vals1 r
  cases rx
  obtain ⟨its, r', pl, hz⟩ := I.list hq
  have hlen := r'.length
  refine call_tuple_list pl.isList (fun h' kp => ?_) (by simp only [List.size_toArray] <;> omega)
  have I1 : Inv X pins σ H { s with heap := h' } := I.kept (t' := s.toks) kp
  have I2 : Inv X pins σ (upd H h'.objs.size (.frz { cls := .type "tuple", data := .seq its.toArray } (.tup ys))) { s with heap := h'.push { cls := .type "tuple", data := .seq its.toArray } } :=
    I1.laid (t' := s.toks) (fun b o e => Heap.get?_push_of_some _ e) (Nat.le_refl _) (show ObjOk X.prog X.w _ _ _ (.frz _ (.tup ys)) from ⟨Heap.get?_push_size _ rfl, hz, its, r', IsTup.new _ _⟩)
  exact ⟨.ref h'.objs.size, _, I2, rfl, q _ _ (I1.hok.fresh (Nat.le_refl _)) rfl⟩
def tTM (r : V → List V → Hp → VK → Prop) (to : TE) (t : TA) : TE := fun σ H Q => to σ H fun x H1 => (∃ a ob xs, x = .ref a ∧ H1 a = some (.frz ob (.tup xs)) ∧ ob.dict = none) ∧ t σ H1 fun xs H2 => r x xs H2 Q
theorem pe_tm {X : Cx} {o e : Expr} {es : List Expr} {to : TE} {t : TA} {name : Str} {apos cpos : Pos} {id : String} {r : V → List V → Hp → VK → Prop} (slot : Slot "tuple" name id) (hty : typeOf (.builtin id) = pure (.type "method_descriptor")) (hm : MtR X id r) (ho : PE X o to) (ha : PA X (e :: es) t)
    (hbase : attributeBase o name X.env (eval o X.env) = eval o X.env := by rfl)
    (hfew : ((backTo cpos (starEach (e :: es) X.env)).all (fun x => !x.1) && (backToKw cpos (keywordEach [] X.env)).all (fun x => x.1.isSome)
      && decide ((e :: es).length + ([] : List Keyword).length + (if ([] : List Keyword).isEmpty then 0 else 1) < 30)) = true := by rfl)
    (hline : (apos.endLine == cpos.line) = true := by rfl) (hs : starEach (e :: es) X.env = (false, eval e X.env) :: starEach es X.env := by rfl) (hplain : (backTo cpos (starEach es X.env)).any (·.1) = false := by rfl) :
    PE X (.Call (.Attribute o name apos) (e :: es) [] cpos) (tTM r to t) := by
  refine ⟨fun pins s σ H Q I h => ?_⟩
  refine wpAny_Call_method_late hbase hfew hline rfl (thn (ho.run pins s σ H _ I h) fun v s1 ⟨x, H1, I1, r1, ty, q1⟩ => ?_)
  obtain ⟨a, ob, xs, rfl, hf, hd⟩ := ty
  cases r1
  obtain ⟨hg, hz, its, rv, o', ho', hc, _⟩ := (show ObjOk X.prog X.w H1 s1.heap a (.frz ob (.tup xs)) from I1.hok a _ hf)
  have hc' : ob.cls = .type "tuple" := by rw [hg] at ho'; cases ho'; exact hc
  refine ⟨"tuple", id, PySem.F.plainAttrs_tuple, slot, hty, ⟨ob, hg, hc'⟩, fun b e => by cases e; exact ⟨ob, hg, hd⟩, ?_⟩
  have hA := ha.run cpos pins s1 σ H1 _ I1 q1
  rw [hs] at hA ⊢
  refine Calls.callWith_builtin (by show (false || (backTo cpos (starEach es X.env)).any (·.1)) = false; rw [hplain] <;> rfl) (Calls.evalArgs_plain ?_)
  exact thn hA fun us s2 ⟨vs, H2, I2, r2, q2⟩ => hm pins s2 σ H2 (.ref a) vs (.ref a) us Q I2 rfl r2 q2

/-! ### places in the text -/
def xAsg : Stmt → Expr
  | .Assign _ e _ => e
  | _ => .Constant .none 0 ⟨0, 0, 0, 0⟩
def xArg (i : Nat) : Expr → Expr
  | .Call _ as _ _ => as.getD i (.Constant .none 0 ⟨0, 0, 0, 0⟩)
  | _ => .Constant .none 0 ⟨0, 0, 0, 0⟩
def xLcSc : Expr → Scope
  | .ListComp _ _ sc _ => sc
  | _ => { kind := .function, names := [], isGenerator := false, isCoroutine := false }
/-! ### readings are monotone -/
theorem mono_pair {K : PySem.W.Frag} {n i j : Nat} (x : V) (σ' : L2.St) (H' : Hp) (Q Q' : L2.St → Hp → Prop) (h : ∀ a b, Q a b → Q' a b) (e : gTup K n (gCons (gName i) (gCons (gName j) gNil)) x σ' H' Q) : gTup K n (gCons (gName i) (gCons (gName j) gNil)) x σ' H' Q' := by
  obtain ⟨a, xs, e1, e2, e3, v, r, e4, v', r', e5, e6, q⟩ := e
  exact ⟨a, xs, e1, e2, e3, v, r, e4, v', r', e5, e6, h _ _ q⟩

section
variable {X : Cx} {K : PySem.W.Frag}
theorem k_piL {tg l : Expr} {tl : TE} (hK : X.K = K) (hl : PE X l tl) : PI X tg l (iList K tl) := by subst hK; exact pi_list hl
theorem k_piT {tg l : Expr} {tl : TE} (hK : X.K = K) (hl : PE X l tl) : PI X tg l (iTup K tl) := by subst hK; exact pi_tup hl
theorem k_pgT2 {x y : Str} {px py : Pos} {k : Nat} {pos : Pos} {t1 t2 : TG} (hK : X.K = K) (hc : X.calm = true) (h1 : PG X (.Name x px) t1) (h2 : PG X (.Name y py) t2) : PG X (.Tuple [.Name x px, .Name y py] k pos) (gTup K 2 (gCons t1 (gCons t2 gNil))) := by
  subst hK
  exact pg_tup hc (pgs_cons h1 (pgs_cons h2 pgs_nil))
end
end MB

set_option maxHeartbeats 4000000
namespace MB
open PySem PySem.Spec PyProof.Rows L2

/-! ### heaps -/
theorem same_upd {H : Hp} {p : Addr} {o : HO} (h : H p = none) : Same H (upd H p o) := fun b x e => by
  rw [upd_ne (ne_of_none e h)]
  exact e
/-- an object that was not tracked may change -/
theorem Same.mut {H H' : Hp} {p : Addr} {o : HO} (s : Same H H') (h : H p = none) : Same H (upd H' p o) := fun b x e => by
  rw [upd_ne (ne_of_none e h)]
  exact s _ _ e
theorem Same.tup {K : PySem.W.Frag} {H H' : Hp} {a : Addr} {xs : List V} (e : Same H H') (h : SqT K H a xs) : SqT K H' a xs := by
  rcases h with (h | ⟨o, h⟩) | h
  · exact .inl (.inl (e _ _ h))
  · exact .inl (.inr ⟨o, e _ _ h⟩)
  · exact .inr h
theorem Same.tupF {K : PySem.W.Frag} {H H' : Hp} {a : Addr} {o : Obj} {xs : List V} (e : Same H H') (h : H a = some (.frz o (.tup xs))) : SqT K H' a xs := .inl (.inr ⟨o, e _ _ h⟩)
theorem Dp.same {K : PySem.W.Frag} {H H' : Hp} (e : Same H H') : ∀ {v : V} {d : PyData}, Dp K H v d → Dp K H' v d := by
  intro v d h
  refine Dp.rec (motive_1 := fun v d _ => Dp K H' v d) (motive_2 := fun vs ds _ => DpAll K H' vs ds) ?_ ?_ ?_ ?_ ?_ ?_ ?_ ?_ h
  · exact .non
  · intro b; exact .bl b
  · intro i; exact .int i
  · intro x; exact .str x
  · intro a xs ds hs _ ih; exact .lst (e.seq hs) ih
  · intro a xs ds hs _ ih; exact .tup (Same.tup e hs) ih
  · exact .nil
  · intro v vs d ds _ _ h1 h2; exact .cons h1 h2
theorem DpAll.get {K : PySem.W.Frag} {H : Hp} : ∀ {vs : List V} {ds : List PyData}, DpAll K H vs ds → ∀ {i : Nat} {d : PyData}, ds[i]? = some d → ∃ v, vs[i]? = some v ∧ Dp K H v d
  | _, _, .nil, i, d, h => by simp at h
  | _, _, .cons a b, 0, d, h => by
    simp at h; subst h
    exact ⟨_, rfl, a⟩
  | _, _, .cons a b, i + 1, d, h => by
    obtain ⟨v, h1, h2⟩ := DpAll.get b (i := i) (d := d) (by simpa using h)
    exact ⟨v, by simpa using h1, h2⟩
theorem DpAll.len {K : PySem.W.Frag} {H : Hp} : ∀ {vs : List V} {ds : List PyData}, DpAll K H vs ds → vs.length = ds.length
  | _, _, .nil => rfl
  | _, _, .cons a b => by simp [DpAll.len b]
theorem DpAll.take {K : PySem.W.Frag} {H : Hp} : ∀ {vs : List V} {ds : List PyData} (n : Nat), DpAll K H vs ds → DpAll K H (vs.take n) (ds.take n)
  | _, _, 0, _ => .nil
  | _, _, _ + 1, .nil => .nil
  | _, _, n + 1, .cons a b => .cons a (DpAll.take n b)
theorem DpAll.append {K : PySem.W.Frag} {H : Hp} : ∀ {vs ws : List V} {ds es : List PyData}, DpAll K H vs ds → DpAll K H ws es → DpAll K H (vs ++ ws) (ds ++ es)
  | _, _, _, _, .nil, s => s
  | _, _, _, _, .cons a b, s => .cons a (DpAll.append b s)
theorem DpAll.same {K : PySem.W.Frag} {H H' : Hp} (e : Same H H') : ∀ {vs : List V} {ds : List PyData}, DpAll K H vs ds → DpAll K H' vs ds
  | _, _, .nil => .nil
  | _, _, .cons a b => .cons (Dp.same e a) (DpAll.same e b)
theorem dp_ints {K : PySem.W.Frag} {H : Hp} : ∀ ns : List Int, DpAll K H (ns.map V.int) (ns.map PyData.int)
  | [] => .nil
  | n :: ns => .cons (.int n) (dp_ints ns)
theorem ty_tup {K : PySem.W.Frag} {H : Hp} {a : Addr} {xs : List V} (h : SqT K H a xs) : TyX K H (.ref a) (.type "tuple") := by
  rcases h with (h | ⟨o, h⟩) | ⟨o, its, n, h, hc, _⟩
  · exact .base (.tup h)
  · exact .fTuple h
  · exact .kTuple h hc

/-! ### lists of numbers -/
def vi (p : List Nat) : List V := p.map fun (m : Nat) => V.int (m : Int)
def ci (p : List Nat) : List Int := p.map fun (m : Nat) => (m : Int)
theorem vi_ci (p : List Nat) : vi p = (ci p).map V.int := by simp [vi, ci]
theorem vi_len (p : List Nat) : (vi p).length = p.length := by simp [vi]
theorem vi_get {p : List Nat} {i m : Nat} (h : p[i]? = some m) : (vi p)[i]? = some (.int (m : Int)) := by simp [vi, h]
theorem vi_app (p q : List Nat) : vi (p ++ q) = vi p ++ vi q := by simp [vi]
theorem at_vi {p : List Nat} {i m : Nat} (h : p[i]? = some m) : atI (vi p) (i : Int) = some (.int (m : Int)) := atI_nat (vi_get h)
theorem sz60 {n : Nat} (h : n ≤ 100000) : n ≤ sizeLine := Nat.le_trans h (by decide)
theorem sz61 {n : Nat} (h : n ≤ 100000) : n < sizeLine := Nat.lt_of_le_of_lt h (by decide)
theorem decT {c : Prop} [Decidable c] (h : c) {A B : Prop} (a : A) : if decide c = true then A else B := by
  rw [if_pos (decide_eq_true h)]; exact a
theorem decF {c : Prop} [Decidable c] (h : ¬ c) {A B : Prop} (b : B) : if decide c = true then A else B := by
  rw [if_neg (by simp [h])]; exact b

/-! ### data of tuples: no list within -/
inductive Tf : PyData → Prop
  | non : Tf .none
  | bl (b : Bool) : Tf (.bool b)
  | int (i : Int) : Tf (.int i)
  | str (x : Str) : Tf (.str x)
  | tup {ds : List PyData} : (∀ d, d ∈ ds → Tf d) → Tf (.tuple ds)
theorem Tf.items {ds : List PyData} (h : Tf (.tuple ds)) : ∀ d, d ∈ ds → Tf d := by
  cases h with
  | tup h => exact h
theorem tf_ints (ns : List Int) : ∀ d, d ∈ ns.map PyData.int → Tf d := fun d h => by
  obtain ⟨i, _, rfl⟩ := List.mem_map.mp h
  exact .int i
/-- all tuples stay -/
def Keep (K : PySem.W.Frag) (H H' : Hp) : Prop := ∀ a xs, SqT K H a xs → SqT K H' a xs
theorem Keep.of {K : PySem.W.Frag} {H H' : Hp} (s : Same H H') : Keep K H H' := fun _ _ h => Same.tup s h
theorem Keep.trans {K : PySem.W.Frag} {H H1 H2 : Hp} (a : Keep K H H1) (b : Keep K H1 H2) : Keep K H H2 := fun _ _ h => b _ _ (a _ _ h)
theorem Keep.refl {K : PySem.W.Frag} {H : Hp} : Keep K H H := fun _ _ h => h
/-- all but the list at l stay -/
def But (l : Addr) (H H' : Hp) : Prop := ∀ b o, b ≠ l → H b = some o → H' b = some o
theorem But.refl {l : Addr} {H : Hp} : But l H H := fun _ _ _ h => h
theorem But.trans {l : Addr} {H H1 H2 : Hp} (a : But l H H1) (b : But l H1 H2) : But l H H2 := fun c o n h => b c o n (a c o n h)
theorem But.of {l : Addr} {H H' : Hp} (s : Same H H') : But l H H' := fun c o _ h => s c o h
theorem But.upd {l : Addr} {H : Hp} {o : HO} : But l H (L2.upd H l o) := fun c u n h => by rw [upd_ne n]; exact h
theorem But.keep {K : PySem.W.Frag} {l : Addr} {H H' : Hp} {ys : List V} (s : But l H H') (hl : H l = some (.lst ys)) : Keep K H H' := fun a xs h => by
  rcases h with (h | ⟨o, h⟩) | h
  · exact .inl (.inl (s _ _ (fun e => by rw [e, hl] at h; cases h) h))
  · exact .inl (.inr ⟨o, s _ _ (fun e => by rw [e, hl] at h; cases h) h⟩)
  · exact .inr h
theorem But.same {l : Addr} {H0 H H' : Hp} (s : Same H0 H) (b : But l H H') (n : H0 l = none) : Same H0 H' := fun c o e => b c o (ne_of_none e n) (s c o e)
theorem Dp.keep {K : PySem.W.Frag} {H H' : Hp} (e : Keep K H H') : ∀ {v : V} {d : PyData}, Tf d → Dp K H v d → Dp K H' v d := by
  intro v d t h
  refine Dp.rec (motive_1 := fun v d _ => Tf d → Dp K H' v d) (motive_2 := fun vs ds _ => (∀ d, d ∈ ds → Tf d) → DpAll K H' vs ds) ?_ ?_ ?_ ?_ ?_ ?_ ?_ ?_ h t
  · intro _; exact .non
  · intro b _; exact .bl b
  · intro i _; exact .int i
  · intro x _; exact .str x
  · intro a xs ds hs _ ih t; cases t
  · intro a xs ds hs _ ih t; exact .tup (e _ _ hs) (ih t.items)
  · intro _; exact .nil
  · intro v vs d ds _ _ h1 h2 t; exact .cons (h1 (t _ (List.mem_cons_self ..))) (h2 fun d hd => t d (List.mem_cons_of_mem _ hd))
theorem DpAll.keep {K : PySem.W.Frag} {H H' : Hp} (e : Keep K H H') : ∀ {vs : List V} {ds : List PyData}, (∀ d, d ∈ ds → Tf d) → DpAll K H vs ds → DpAll K H' vs ds
  | _, _, _, .nil => .nil
  | _, _, t, .cons a b => .cons (Dp.keep e (t _ (List.mem_cons_self ..)) a) (DpAll.keep e (fun d hd => t d (List.mem_cons_of_mem _ hd)) b)
theorem dp_ints_inv {K : PySem.W.Frag} {H : Hp} : ∀ {ns : List Int} {vs : List V}, DpAll K H vs (ns.map PyData.int) → vs = ns.map V.int
  | [], _, .nil => rfl
  | n :: ns, _, .cons a b => by
    cases a
    rw [dp_ints_inv b]
    rfl
theorem Dp.tupInv {K : PySem.W.Frag} {H : Hp} {v : V} {ds : List PyData} (h : Dp K H v (.tuple ds)) : ∃ a xs, v = .ref a ∧ SqT K H a xs ∧ DpAll K H xs ds := by
  cases h with
  | tup h1 h2 => exact ⟨_, _, rfl, h1, h2⟩
theorem Dp.intsInv {K : PySem.W.Frag} {H : Hp} {v : V} {ns : List Int} (h : Dp K H v (.tuple (ns.map PyData.int))) : ∃ a, v = .ref a ∧ SqT K H a (ns.map V.int) := by
  obtain ⟨a, xs, e, h1, h2⟩ := Dp.tupInv h
  rw [dp_ints_inv h2] at h1
  exact ⟨a, e, h1⟩

/-! ### a comprehension that gives an item at each turn -/
theorem lc_all {K : PySem.W.Frag} {J : It} {n : Nat} {G : Hp → Prop} {Y : Nat → Hp → V → Hp → Prop} (w : Walk J n G Y) {g : TG} {tt : TT} {te : TE} {vs : List Nat} {σ : L2.St} {H1 : Hp} {D : Addr} {Qd : Hp → Prop}
    (ds : List PyData) (hl : ds.length = n) (ht : ∀ d, d ∈ ds → Tf d) (hn : n ≤ 1000) (hD : H1 D = none) (hG : ∀ H, Same H1 H → G H)
    (hs : ∀ i x H H', i < n → Same H1 H → Y i H x H' → ∀ d, ds[i]? = some d → ∀ R : V → Hp → Prop, (∀ y H4, Same H H4 → Dp K H4 y d → R y H4) →
      g x (wipe σ vs) H' fun σ2 H2 => wipe σ2 vs = wipe σ vs ∧ tt σ2 H2 fun b H3 => b = true ∧ te σ2 H3 R)
    (hd : ∀ H acc, Same H1 H → H D = some (.lst acc) → DpAll K H acc ds → Qd H)
    (mg : ∀ x σ' H' (Q Q' : L2.St → Hp → Prop), (∀ a b, Q a b → Q' a b) → g x σ' H' Q → g x σ' H' Q') (mt : ∀ σ' H' (Q Q' : Bool → Hp → Prop), (∀ a b, Q a b → Q' a b) → tt σ' H' Q → tt σ' H' Q') :
    ∃ W : Nat → Nat → Hp → Prop, (∃ m, W 0 m (upd H1 D (.lst []))) ∧ ∀ i m H, W i m H →
      (J.stop i H ∧ Qd H) ∨ (J.go i H ∧ ∃ Nx : Hp → Prop, (∀ H', Nx H' → ∃ m', m' < m ∧ W (i + 1) m' H') ∧ ∀ x H', J.yld i H x H' → g x (wipe σ vs) H' fun σ2 H2 => wipe σ2 vs = wipe σ vs ∧ tt σ2 H2 fun b H3 =>
        if b = true then te σ2 H3 fun y H4 => ∃ acc, H4 D = some (.lst acc) ∧ acc.length < sizeLine ∧ Nx (upd H4 D (.lst (acc ++ [y]))) else Nx H3) := by
  refine lc_it w (fun i H => Same H1 H ∧ ∃ acc, H D = some (.lst acc) ∧ DpAll K H acc (ds.take i)) ⟨same_upd hD, [], upd_same, .nil⟩ (fun i H _ h => hG H h.1) ?_ ?_
  · rintro i x H H' hi ⟨s1, acc, ha, hA⟩ hy
    have hd' : ds[i]? = some ds[i] := List.getElem?_eq_getElem (by omega)
    have hlen := DpAll.len hA
    rw [List.length_take] at hlen
    refine mg _ _ _ _ _ ?_ (hs i x H H' hi s1 hy ds[i] hd' (fun y H4 => ∃ acc, H4 D = some (.lst acc) ∧ acc.length < sizeLine ∧ (Same H1 (upd H4 D (.lst (acc ++ [y]))) ∧ ∃ acc', (upd H4 D (.lst (acc ++ [y]))) D = some (.lst acc') ∧ DpAll K (upd H4 D (.lst (acc ++ [y]))) acc' (ds.take (i + 1)))) ?_)
    · rintro σ2 H2 ⟨h1, h2⟩
      refine ⟨h1, mt _ _ _ _ ?_ h2⟩
      rintro b H3 ⟨rfl, h3⟩
      exact iteT h3
    · intro y H4 s4 hy4
      refine ⟨acc, s4 _ _ ha, sz61 (by omega), Same.mut (s1.trans s4) hD, acc ++ [y], upd_same, ?_⟩
      have kp : Keep K H4 (upd H4 D (.lst (acc ++ [y]))) := But.keep But.upd (s4 _ _ ha)
      rw [List.take_add_one, hd']
      refine DpAll.keep kp (fun d h => ?_) (DpAll.append (DpAll.same s4 hA) (.cons hy4 .nil))
      rcases List.mem_append.mp h with h | h
      · exact ht d (List.mem_of_mem_take h)
      · have e : d = ds[i] := by simpa using h
        rw [e]; exact ht _ (List.getElem_mem ..)
  · rintro H ⟨s1, acc, ha, hA⟩
    rw [List.take_of_length_le (by omega)] at hA
    exact hd H acc s1 ha hA

/-! ### tuples cut and joined -/
theorem cut_to {xs : List V} {k : Nat} (h : k ≤ xs.length) : cutV xs none (some (k : Int)) = xs.take k := by
  unfold cutV
  rw [HT.sIx_none, HT.sIx_nat, Nat.min_eq_left h]
  simp
theorem cut_from {xs : List V} {k : Nat} (h : k ≤ xs.length) : cutV xs (some (k : Int)) none = xs.drop k := by
  unfold cutV
  rw [HT.sIx_none, HT.sIx_nat, Nat.min_eq_left h]
  rw [List.take_of_length_le (by rw [List.length_drop]; omega)]
theorem sl_read {K : PySem.W.Frag} {H : Hp} {a : Addr} {xs : List V} {lo hi : Option Int} {Q : VK} (h : SqT K H a xs) (q : ∀ p H', Same H H' → SqT K H' p (cutV xs lo hi) → Q (.ref p) H') : rSlA K (.ref a) lo hi H Q := by
  refine ⟨a, xs, rfl, h, fun e => q a H (Same.refl H) ?_, fun _ p hp => q p _ (same_upd hp) (.inl (.inl upd_same))⟩
  unfold cutV
  rw [e.1, e.2]
  simpa using h
theorem cat_read {K : PySem.W.Frag} {H : Hp} {a b : Addr} {xs ys : List V} {Q : VK} (ha : SqT K H a xs) (hb : SqT K H b ys) (hz : xs.length + ys.length ≤ 100000) (q : ∀ p H', Same H H' → SqT K H' p (xs ++ ys) → Q (.ref p) H') : rCatA K (.ref a) (.ref b) H Q := by
  refine ⟨a, b, xs, ys, rfl, rfl, ha, hb, sz60 hz, fun e => q b H (Same.refl H) ?_, fun _ e => q a H (Same.refl H) ?_, fun _ _ p hp => q p _ (same_upd hp) (.inl (.inl upd_same))⟩
  · rw [e]; exact hb
  · rw [e, List.append_nil]; exact ha
theorem DpAll.snoc {K : PySem.W.Frag} {H : Hp} : ∀ {vs : List V} {ds : List PyData} {d : PyData}, DpAll K H vs (ds ++ [d]) → ∃ us v, vs = us ++ [v] ∧ DpAll K H us ds ∧ Dp K H v d
  | _, [], _, .cons a .nil => ⟨[], _, rfl, .nil, a⟩
  | _, _ :: ds, _, .cons a b => by
    obtain ⟨us, v, e, h1, h2⟩ := DpAll.snoc b
    exact ⟨_ :: us, v, by rw [e]; rfl, .cons a h1, h2⟩
theorem ixN_of {n j : Nat} (hj : j < n) : ixN n (j : Int) = some j := by
  unfold ixN
  rw [if_pos (by omega), if_pos (by omega)]
  simp
theorem vi_set (c : List Nat) (k v : Nat) : (vi c).set k (.int (v : Int)) = vi (c.set k v) := by
  unfold vi
  rw [List.map_set]
theorem vi_rep (n v : Nat) : vi (List.replicate n v) = List.replicate n (.int (v : Int)) := by simp [vi]

/-! ### [x for x in range(lo, hi) if ..] -/
theorem lc_fil {lo : Int} {n j : Nat} {vs : List Nat} {σ : L2.St} {H1 : Hp} {D : Addr} {Qd : Hp → Prop} {tt : TT} (f : Nat → Bool) (hn : n ≤ 1000) (hD : H1 D = none)
    (hw : ∀ x, wipe ((wipe σ vs).set j (some x)) vs = wipe σ vs) (hj : ∀ x : V, ((wipe σ vs).set j (some x))[j]? = some (some x))
    (ht : ∀ (i : Nat) H (Q : Bool → Hp → Prop), i < n → Same H1 H → Q (f i) H → tt ((wipe σ vs).set j (some (.int (lo + (i : Nat))))) H Q)
    (hd : ∀ H, Same H1 H → H D = some (.lst (((List.range n).filter f).map fun (i : Nat) => V.int (lo + (i : Nat)))) → Qd H) :
    ∃ W : Nat → Nat → Hp → Prop, (∃ m, W 0 m (upd H1 D (.lst []))) ∧ ∀ i m H, W i m H →
      ((Itr lo n).stop i H ∧ Qd H) ∨ ((Itr lo n).go i H ∧ ∃ Nx : Hp → Prop, (∀ H', Nx H' → ∃ m', m' < m ∧ W (i + 1) m' H') ∧ ∀ x H', (Itr lo n).yld i H x H' → gName j x (wipe σ vs) H' fun σ2 H2 => wipe σ2 vs = wipe σ vs ∧ tt σ2 H2 fun b H3 =>
        if b = true then tVar j σ2 H3 fun y H4 => ∃ acc, H4 D = some (.lst acc) ∧ acc.length < sizeLine ∧ Nx (upd H4 D (.lst (acc ++ [y]))) else Nx H3) := by
  refine lc_range (lo := lo) (n := n) (fun i H => Same H1 H ∧ H D = some (.lst (((List.range i).filter f).map fun (i : Nat) => V.int (lo + (i : Nat))))) ⟨same_upd hD, upd_same⟩ ?_ ?_
  · rintro i H hi ⟨s1, h1⟩
    refine ⟨hw _, ht i H _ hi s1 ?_⟩
    have hlen : (((List.range i).filter f).map fun (i : Nat) => V.int (lo + (i : Nat))).length ≤ i := by
      rw [List.length_map]
      have := List.length_filter_le f (List.range i)
      rw [List.length_range] at this
      exact this
    by_cases hf : f i = true
    · rw [hf]
      refine iteT ⟨_, hj _, _, h1, sz61 (by omega), Same.mut s1 hD, ?_⟩
      rw [List.range_succ, List.filter_append, List.map_append]
      simp only [List.filter_cons, hf, if_true, List.filter_nil, List.map_cons, List.map_nil]
      exact upd_same
    · have hf' : f i = false := by simpa using hf
      rw [hf']
      refine iteF ⟨s1, ?_⟩
      rw [List.range_succ, List.filter_append, List.map_append]
      simpa [hf'] using h1
  · rintro H ⟨s1, h1⟩
    exact hd H s1 h1
theorem iteB1 {b : Bool} {A B : Prop} (h : b = true) (a : A) : if b = true then A else B := by rw [if_pos h]; exact a
theorem iteB0 {b : Bool} {A B : Prop} (h : b = false) (a : B) : if b = true then A else B := by rw [if_neg (by rw [h]; decide)]; exact a

/-! ### deep comparisons -/
theorem lay_all : ∀ {ds : List PyData}, (∀ d, d ∈ ds → d.canLay0 = true) → PyData.canLayAll0 ds = true
  | [], _ => by simp [PyData.canLayAll0]
  | d :: ds, h => by
    simp only [PyData.canLayAll0]
    rw [h d (List.mem_cons_self ..), lay_all fun e he => h e (List.mem_cons_of_mem _ he)]; rfl
theorem dep_all {k : Nat} : ∀ {ds : List PyData}, (∀ d, d ∈ ds → d.depth ≤ k) → PyData.depthAll ds ≤ k
  | [], _ => by simp [PyData.depthAll]
  | d :: ds, h => by
    simp only [PyData.depthAll]
    have h1 := h d (List.mem_cons_self ..)
    have h2 := dep_all (k := k) fun e he => h e (List.mem_cons_of_mem _ he)
    omega
/-- plain data of at most so many levels -/
def Sh (k : Nat) (d : PyData) : Prop := d.canLay0 = true ∧ d.depth ≤ k
theorem Sh.shaped {k : Nat} {d : PyData} (h : Sh k d) (hk : k ≤ 64) : SeqAt.shaped d = true := by
  unfold SeqAt.shaped
  rw [h.1, decide_eq_true (by have := h.2; omega)]; rfl
theorem Sh.tup {k : Nat} {ds : List PyData} (h : ∀ d, d ∈ ds → Sh k d) : Sh (k + 1) (.tuple ds) :=
  ⟨by simp only [PyData.canLay0]; exact lay_all fun d hd => (h d hd).1, by simp only [PyData.depth]; have := dep_all (k := k) (ds := ds) fun d hd => (h d hd).2; omega⟩
theorem Sh.lst {k : Nat} {ds : List PyData} (h : ∀ d, d ∈ ds → Sh k d) : Sh (k + 1) (.list ds) :=
  ⟨by simp only [PyData.canLay0]; exact lay_all fun d hd => (h d hd).1, by simp only [PyData.depth]; have := dep_all (k := k) (ds := ds) fun d hd => (h d hd).2; omega⟩
theorem Sh.int (i : Int) {k : Nat} : Sh k (.int i) := ⟨by simp [PyData.canLay0], by simp [PyData.depth]⟩
theorem Sh.ints {k : Nat} (ns : List Int) : ∀ d, d ∈ ns.map PyData.int → Sh k d := fun d h => by
  obtain ⟨i, _, rfl⟩ := List.mem_map.mp h
  exact .int i
theorem eq_data {K : PySem.W.Frag} {H : Hp} {x y : V} {d : PyData} {Q : VK} {k : Nat} (hx : Dp K H x d) (hy : Dp K H y d) (hs : Sh k d) (hk : k ≤ 64) (q : Q (.bl true) H) : rEqD K x y H Q :=
  ⟨d, d, hx, hy, hs.shaped hk, hs.shaped hk, by rw [SeqAt.eqv_refl d hs.1]; exact q⟩
theorem ne_data {K : PySem.W.Frag} {H : Hp} {x y : V} {d : PyData} {Q : VK} {k : Nat} (hx : Dp K H x d) (hy : Dp K H y d) (hs : Sh k d) (hk : k ≤ 64) (q : Q (.bl false) H) : rNeD K x y H Q :=
  ⟨d, d, hx, hy, hs.shaped hk, hs.shaped hk, by rw [SeqAt.eqv_refl d hs.1]; exact q⟩
theorem dp_tup {K : PySem.W.Frag} {H : Hp} {a : Addr} {ns : List Int} (h : SqT K H a (ns.map V.int)) : Dp K H (.ref a) (.tuple (ns.map PyData.int)) := .tup h (dp_ints ns)
theorem ne_ints {K : PySem.W.Frag} {H : Hp} {a b : Addr} {ns : List Int} {Q : VK} (ha : SqT K H a (ns.map V.int)) (hb : SqT K H b (ns.map V.int)) (q : Q (.bl false) H) : rNeD K (.ref a) (.ref b) H Q :=
  ne_data (dp_tup ha) (dp_tup hb) (Sh.tup (k := 0) (Sh.ints ns)) (by decide) q
end MB

set_option maxHeartbeats 4000000
namespace MB
open PySem PySem.Spec PyProof.Rows L2

/-! ### a def called where no repr is under way -/
structure FnG (P : Program) (w : World) (K : PySem.W.Frag) (mg : Str → Option Value) (base : Heap) (CX : CXT) (k : Nat) (f : Addr) (fd : FuncData) (ps : List Str) (sp : Sp) : Prop where
  len : ∀ vs H Q E, sp vs H Q E → vs.length = ps.length
  run : ∀ (A : Around), A.guards = some [] → Room k A → ∀ (outer : List Env) (s : Shared) (H : Hp) (args : Args) (us : List Value) (vs : List V) (Q : VK) (E : XK),
    Env0 P w K mg base A outer s H → BindsTo s fd args (ps.zip us) → Vals vs us → sp vs H Q E → codeAny (model P w) A (.call (.ref f) args) (CR CX outer P w H s Q E) s
section
variable {P : Program} {w : World} {K : PySem.W.Frag} {mg : Str → Option Value} {base : Heap} {CX : CXT} {k : Nat} {f : Addr} {fd : FuncData} {ps : List Str} {sp : Sp}
theorem FnG.of (F : FnOk P w K mg base CX k f fd ps sp) : FnG P w K mg base CX k f fd ps sp :=
  ⟨F.len, fun A _ hr outer s H args us vs Q E => F.run A outer s H args us vs Q E hr⟩
theorem deeper_guards {A : Around} {env : Env} (h : A.guards = some []) : (A.deeper env).guards = some [] := h
theorem fnG_of {name qual : Str} {params : Arguments} {body : List Stmt} {scope : Scope} {dV kV doc pm cdv ct oc : Value} {an od : Option Addr} {osl : Array (Option Value)} {N : List Str}
    (lk : K.lookup f = some ⟨oc, od, .func (PySem.W.fnOf name qual params body scope dV kV doc pm an cdv ct), osl⟩) (hcd : PySem.W.codeIn K cdv qual = true) (S : FnScope N ps scope)
    (len : ∀ vs H Q E, sp vs H Q E → vs.length = ps.length)
    (hbody : ∀ (A : Around), A.guards = some [] → ∀ (outer : List Env) (s : Shared) (H : Hp) (vs : List V) (Q : VK) (E : XK), Room k (A.deeper (envOfC qual scope s.heap.objs.size f cdv)) → sp vs H Q E →
      ∃ t, PSs (cxOf CX P w K mg base N qual scope f cdv A outer s H E) body t ∧ t { nx := fun _ H' => Q .non H', rt := Q } (start N vs) H) :
    FnG P w K mg base CX (k + 1) f (PySem.W.fnOf name qual params body scope dV kV doc pm an cdv ct) ps sp := by
  refine ⟨len, fun A hgd hr outer s H args us vs Q E e0 hb r hsp => ?_⟩
  have kept : ∀ b o, base.get? b = some o → s.heap.get? b = some o := fun b o e => (e0.bs b o e).1
  have KX : K.In s.heap := e0.mod.kin.keeps kept
  obtain ⟨t, ht, hq⟩ := hbody A hgd outer s H vs Q E (hr.deeper _) hsp
  have par : ∀ y ∈ ps.zip us, scope.names.lookup y.1 = some .local ∨ (scope.names.lookup y.1 = some .cell ∧ ((cellsFrom (s.heap.objs.size + 1) scope.names []).lookup y.1).isSome = true) := by
    rintro ⟨n, v⟩ hy
    exact (S.par n (List.of_mem_zip hy).1).imp id fun z => ⟨z, PySem.W.cellsFrom_some _ _ _ (.inl z)⟩
  refine codeAny_call_function hr.depth (KX _ _ lk) rfl S.co S.gen rfl (PySem.W.codeRec_of KX hcd) (hb _ _ _ _ (wpAny_newFunctionEnv_cells S.kind par fun env he s1 x => ?_))
  subst he
  refine ⟨(e0.mod.nolimit.keeps kept).keeps x.toInCall.keep, codeAny_func (wpAny_mono (ht.run [] s1 (start N vs) H _ (inv_start S hr.hd e0 (len _ _ _ _ hsp) r x) hq) (fun fl s' hs => ?_) fun e s' hs => hs)⟩
  rcases fl with _ | _ | _ | u
  · obtain ⟨σ', H', J, q⟩ := hs
    exact ⟨V.non, H', J.os, J.bare, J.base, J.hok, rfl, q⟩
  · exact (let ⟨_, _, _, q⟩ := hs; False.elim q)
  · exact (let ⟨_, _, _, q⟩ := hs; False.elim q)
  · obtain ⟨v, σ', H', J, rv, q⟩ := hs
    exact ⟨v, H', J.os, J.bare, J.base, J.hok, rv, q⟩
theorem Fun.okG {x qual : Str} {st : Stmt} {N : List Str} (F : L2.Fun K x qual st f fd) (S : FnScope N ps (defScope st)) (len : ∀ vs H Q E, sp vs H Q E → vs.length = ps.length)
    (hbody : ∀ (cdv : Value) (A : Around), A.guards = some [] → ∀ (outer : List Env) (s : Shared) (H : Hp) (vs : List V) (Q : VK) (E : XK), Room k (A.deeper (envOfC qual (defScope st) s.heap.objs.size f cdv)) → sp vs H Q E →
      ∃ t, PSs (cxOf CX0 P w K mg base N qual (defScope st) f cdv A outer s H E).nox (defBody st) t ∧ t { nx := fun _ H' => Q .non H', rt := Q } (start N vs) H) : FnG P w K mg base CX0 (k + 1) f fd ps sp := by
  obtain ⟨oc, od, kV, doc, pm, an, cdv, ct, osl, rfl, lk, hcd⟩ := F.ex
  exact fnG_of lk hcd S len fun A hgd outer s H vs Q E hr hsp => let ⟨t, h, q⟩ := hbody cdv A hgd outer s H vs Q E hr hsp; ⟨t, h.nox, q⟩
end
section
variable {X : Cx} {CX : CXT} {k : Nat} {f : Addr} {fd : FuncData} {ps : List Str} {sp : Sp} {ds : List Value} {dvs : List V} {E : XK} {x : Str} {p pos : Pos} {e : Expr} {es : List Expr} {t : TA}
theorem pe_callG (F : FnG X.prog X.w X.K X.mg X.base CX k f fd ps sp) (hgd : X.A.guards = some []) (hr : Room k X.A) (hg : Gl X x) (hm : X.mg x = some (.ref f)) (hk : PySem.W.keepIn X.K (.ref f) = true) (hb : Binds X.K fd ps ds) (hd : Vals dvs ds) (hx : Passes CX X E)
    (ha : PA X (e :: es) t) (hdb : (x == ("__debug__" : Str)) = false := by decide) (he : starEach (e :: es) X.env = (false, eval e X.env) :: starEach es X.env := by rfl) (hpl : (backTo pos (starEach es X.env)).any (·.1) = false := by rfl) :
    PE X (.Call (.Name x p) (e :: es) [] pos) (tCall sp dvs E t) := by
  refine ⟨fun pins s σ H Q I h => wpAny_Call_Name_kw (ld_glob I hg hm (PySem.W.callWith_K (h₀ := X.base) I.ok.mod.kin hk (thn (ha.run pos pins s σ H _ I h) fun us s1 ⟨vs, H1, I1, r, q⟩ => ⟨I1.kIn, ?_⟩) he hpl) hdb)⟩
  have r2 : Vals (vs ++ dvs) (us ++ ds) := r.append hd
  have hl : (us ++ ds).length = ps.length := r2.length.symm.trans (F.len _ _ _ _ q)
  refine wpAny_call (codeAny_mono (F.run X.A hgd hr X.stack s1 H1 ⟨us, []⟩ (us ++ ds) (vs ++ dvs) Q E I1.env0 (hb s1 us I1.kIn hl) r2 q) fun res s' hq => ?_)
  rcases res with e | fl
  · exact hx pins σ H1 s1 e s' I1 hq
  · rcases fl with _ | _ | _ | u
    · exact False.elim hq
    · exact False.elim hq
    · exact False.elim hq
    · exact I1.after hq
end

/-! ### repr of plain data -/
def rReprD (K : PySem.W.Frag) : List V → Hp → VK → Prop := fun xs H Q => ∃ (x : V) (d : PyData), xs = [x] ∧ Dp K H x d ∧ d.canLay0 = true ∧ d.showable = true ∧ d.depth ≤ 60 ∧ d.shown.length ≤ sizeLine ∧ Q (.str d.shown) H
theorem call_reprD {X : Cx} (hgd : X.A.guards = some []) (hu : X.A.units + 64 < cLine) : CallR X (.builtin "repr") (rReprD X.K) := by
  intro pins s σ H xs us Q I r h
  obtain ⟨x, d, rfl, hd, hc, hs, hdep, hz, q⟩ := h
  obtain ⟨u, rfl, rx⟩ := vals1 r
  obtain ⟨as, rd⟩ := Dp.reads I d x u hd rx
  have nd := PyData.hasDict_of_canLay d hc
  have fin : ∀ (h' : Heap) (v tk : Tok), (∀ b o, s.heap.get? b = some o → h'.get? b = some o) → EP X pins σ Q (.str d.shown v) { s with heap := h', toks := tk } := fun h' v tk hk => ⟨.str d.shown, H, I.kept hk, ⟨_, rfl⟩, q⟩
  cases rd with
  | none => exact PySem.P.repr_of_none (fin _ _ _ fun _ _ e => e)
  | bool b =>
    refine PySem.P.repr_of_bool ?_
    cases b <;> exact fin s.heap s.toks (s.toks + 1) fun _ _ e => e
  | int i t => exact PySem.P.repr_of_int (by simpa [PyData.showable] using hs) (fin s.heap s.toks (s.toks + 1) fun _ _ e => e)
  | str y t => exact PySem.P.repr_of_str (fin s.heap s.toks (s.toks + 1) fun _ _ e => e) hz
  | list h1 h2 h3 h4 => exact repr_of_reads' (.list h1 h2 h3 h4) hs (PyData.noDict_hsm nd) hgd (by omega) (fun _ _ e => e) fin hz
  | tuple h1 h2 h3 h4 => exact repr_of_reads' (.tuple h1 h2 h3 h4) hs (PyData.noDict_hsm nd) hgd (by omega) (fun _ _ e => e) fin hz
  | dict h1 h2 h3 h4 h5 => simp [PyData.canLay0] at hc

/-! ### the end: a law whose promise asks that no repr is under way -/
theorem law_callG {P : Program} {w : World} {K : PySem.W.Frag} {mg mb : Str → Option Value} {k : Nat} {fa a : Addr} {fd : FuncData} {x : Str} {sp : Sp} {s₁ : Shared} {vs : List Value} {ns : List Int}
    (KX : K.In s₁.heap) (hns : s₁.heap.Ns mainGlobals mg) (hb : s₁.heap.Ns builtinsNs mb) (hbb : ∀ x : Str, x ≠ "__name__" → mb x = bootBuiltins x) (hlim : s₁.heap.NoLimit) (hg : s₁.gens = #[])
    (ha : s₁.heap.get? a = some { cls := .type "list", data := .seq vs.toArray }) (hi : IntsAre vs ns) (hl : ns.length ≤ sizeLine) (hr : Room k callerA)
    (F : ∀ base : Heap, K.In base → base.Ns mainGlobals mg → FnG P w K mg base CX0 k fa fd [x] sp) (hbind : ∀ (s : Shared) (u : Value), BindsTo s fd ⟨[u], []⟩ [(x, u)])
    (hsp : ∀ H : Hp, SqL K H a (ns.map V.int) → sp [.ref a] H (fun v _ => v = .bl true) fun _ _ _ => False) :
    codeAny (model P w) callerA (.call (.ref fa) ⟨[.ref a], []⟩) (fun r s' => r = .ok (.ret (.bool true)) ∧ OldK s₁.heap s'.heap ∧ s'.os = s₁.os ∧ AllBare s'.gens) s₁ := by
  let oS : Obj := { cls := .type "list", data := .seq vs.toArray }
  -- the script is tracked as it stands, unless it is one of the module's own objects
  let H : Hp := fun b => if b = a ∧ K.lookup a = none then some (.frz oS (.lst (ns.map V.int))) else none
  have rv := vals_ints hi
  have Hsome : ∀ {b : Addr} {o : HO}, H b = some o → b = a ∧ K.lookup a = none ∧ o = .frz oS (.lst (ns.map V.int)) := fun {b o} e => by
    by_cases c : b = a ∧ K.lookup a = none
    · have e' := (if_pos c).symm.trans e
      exact ⟨c.1, c.2, (Option.some.inj e').symm⟩
    · have e' := (if_neg c).symm.trans e
      cases e'
  have free : ∀ {b : Addr}, (∀ z : b = a, K.lookup a ≠ none) → H b = none := fun {b} n => if_neg fun c => n c.1 c.2
  have hS : SqL K H a (ns.map V.int) := by
    cases hk : K.lookup a with
    | none => exact .inl (.inr ⟨oS, if_pos ⟨rfl, hk⟩⟩)
    | some o =>
      have e := (KX a o hk).symm.trans ha
      cases e
      exact .inr ⟨_, vs.toArray, _, hk, rfl, rfl, rfl, by rw [List.size_toArray, hi.length]; exact hl, by simpa using rv⟩
  have hok : HOk P w H s₁.heap := fun b o e => by
    obtain ⟨rfl, _, rfl⟩ := Hsome e
    exact ⟨ha, by rw [List.length_map]; exact hl, vs, _, rv, ha⟩
  have noDict : ∀ {b : Addr} {o : Obj} {es : Array DictEntry} {ep : Nat}, s₁.heap.get? b = some o → o.data = .dict es ep → H b = none := fun {b o es ep} e d => free fun z => by
    subst z
    rw [ha] at e
    cases e
    cases d
  have ns_hid : ∀ {b : Addr} {m : Str → Option Value}, s₁.heap.Ns b m → (hidT s₁.heap H).Ns b m := fun {b m} ⟨o, es, ep, e, d, r⟩ => ⟨o, es, ep, hidT_get e (noDict e d), d, r⟩
  have hKb : K.In (hidT s₁.heap H) := fun b o e => hidT_get (KX b o e) (free fun z => by subst z; rw [e]; exact fun y => nomatch y)
  have hM : Mod K mg (hidT s₁.heap H) := ⟨hKb, ns_hid hns, ⟨mb, ns_hid hb, hbb⟩, let ⟨mc, h1, h2⟩ := hlim; ⟨mc, ns_hid h1, h2⟩⟩
  have e0 : Env0 P w K mg (hidT s₁.heap H) callerA [] s₁ H := ⟨rfl, hM, fun b o e => of_hidT e, Nat.le_of_eq (hidT_size _ _), trivial, (fun b hb => absurd (show b ∈ ([] : List Addr) from hb) (by simp)), hok, .of_eq hg⟩
  refine codeAny_mono ((F _ hKb (ns_hid hns)).run callerA rfl hr [] s₁ H ⟨[.ref a], []⟩ [.ref a] [.ref a] _ _ e0 (hbind s₁ (.ref a)) (.cons rfl .nil) (hsp H hS)) fun r s' h => ?_
  rcases r with e | fl
  · exact False.elim h
  rcases fl with _ | _ | _ | u
  · exact False.elim h
  · exact False.elim h
  · exact False.elim h
  obtain ⟨v, H', os, bare, un, hok', r', q⟩ := h
  have q' : v = .bl true := q
  subst q'
  obtain rfl : u = Value.bool true := r'
  refine ⟨rfl, OldK.of_keep fun b o e => ?_, os, bare⟩
  cases hb' : H b with
  | none => exact un.keep b o e hb' (fun z => absurd (show b ∈ ([] : List Addr) from z) (by simp)) (by simp)
  | some u =>
    obtain ⟨rfl, hk, rfl⟩ := Hsome hb'
    have e2 := (hok' _ _ (un.frzs _ oS _ hb')).1
    rw [ha] at e
    cases e
    exact e2
theorem walk_ofG {l : PySem.W.OpenLaw} {n k : Nat} {q : Program} {loose : List Str} {XP : (Str → Option Value) → Heap → Prop} {YP : World → Heap → Prop} {d : DefRec} {K : Params → PySem.W.Frag} {sp : PySem.W.Frag → Sp} {x : Str}
    (hn : l.most = some n) (hn2 : n ≤ sizeLine) (hdf : d.params.defaults = []) (hr : Room k callerA)
    (hY : ∀ (w : World) (h : Heap), YP w h → (K w.params).In h)
    (F : ∀ (w : World) (mg : Str → Option Value) (fa : Addr) (h : Heap), (K w.params).In h → h.Ns mainGlobals mg → mg d.name = some (.ref fa) →
      ∃ fd : FuncData, (∀ (s : Shared) (u : Value), BindsTo s fd ⟨[u], []⟩ [(x, u)]) ∧
        ∀ base : Heap, (K w.params).In base → base.Ns mainGlobals mg → FnG l.prog w (K w.params) mg base CX0 k fa fd [x] (sp (K w.params)))
    (hsp : ∀ (K : PySem.W.Frag) (H : Hp) (a : Addr) (ns : List Int), ns.length ≤ n → SqL K H a (ns.map V.int) → sp K [.ref a] H (fun v _ => v = .bl true) fun _ _ _ => False) :
    PySem.W.WalkO q loose XP YP l.row.toRowW d [] (fun f vs => PySem.call f vs) :=
  Att.attach_call hn hdf fun w s₀ s₁ mg mb fa o pm cd doc a vs ns G Y ho hd hcd hmg hobj hints hlen hg =>
    have KX := hY w _ Y
    let ⟨fd, hb, hF⟩ := F w mg fa _ KX G.T.g hmg
    law_callG KX G.T.g G.T.b G.T.builtins G.T.nolimit hg hobj hints (Nat.le_trans hlen hn2) hr hF hb fun H hS => hsp _ H a ns hlen hS
end MB

set_option maxHeartbeats 4000000
namespace MB
open PySem PySem.Spec PyProof.Rows L2
/-- data whose repr is asked: levels, size -/
structure Rp (k n : Nat) (d : PyData) : Prop where
  sh : Sh k d
  shw : d.showable = true
  short : d.leavesShort 13 = true
  bulk : d.bulk ≤ n
theorem Rp.mono {k n m : Nat} {d : PyData} (h : Rp k n d) (e : n ≤ m) : Rp k m d := ⟨h.sh, h.shw, h.short, Nat.le_trans h.bulk e⟩
theorem Rp.int {i : Int} {k : Nat} (h : i.natAbs < 1000000) : Rp k 0 (.int i) := by
  refine ⟨.int i, ?_, ?_, by simp [PyData.bulk]⟩
  · simp only [PyData.showable]
    refine decide_eq_true ?_
    by_cases h0 : i.natAbs = 0
    · rw [h0]; decide
    · exact Nat.lt_trans ((Nat.log2_lt h0).mpr (show i.natAbs < 2 ^ 20 by omega)) (by decide)
  · simp only [PyData.leavesShort]
    refine decide_eq_true ?_
    have e := int_text_length_le10 (a := i) (k := 6) (by decide) h
    have e2 : (PyData.shown (.int i)).length = (toString i).length := by
      simp only [PyData.shown]
      exact PySem.ofString_length _
    omega
theorem rp_all {k n : Nat} : ∀ {ds : List PyData}, (∀ d, d ∈ ds → Rp k n d) → PyData.showableAll ds = true ∧ PyData.leavesShortAll 13 ds = true ∧ PyData.bulkAll ds ≤ (n + 1) * ds.length
  | [], _ => ⟨by simp [PyData.showableAll], by simp [PyData.leavesShortAll], by simp [PyData.bulkAll]⟩
  | d :: ds, h => by
    have h1 := h d (List.mem_cons_self ..)
    obtain ⟨a, b, c⟩ := rp_all fun e he => h e (List.mem_cons_of_mem _ he)
    refine ⟨by simp only [PyData.showableAll, h1.shw, a, Bool.and_self], by simp only [PyData.leavesShortAll, h1.short, b, Bool.and_self], ?_⟩
    simp only [PyData.bulkAll, List.length_cons]
    have := h1.bulk
    rw [Nat.mul_add]
    omega
theorem Rp.tup {k n m : Nat} {ds : List PyData} (h : ∀ d, d ∈ ds → Rp k n d) (hm : (n + 1) * ds.length ≤ m) : Rp (k + 1) m (.tuple ds) := by
  obtain ⟨a, b, c⟩ := rp_all h
  exact ⟨Sh.tup fun d hd => (h d hd).sh, by simp only [PyData.showable]; exact a, by simp only [PyData.leavesShort]; exact b, by simp only [PyData.bulk]; omega⟩
theorem Rp.lst {k n m : Nat} {ds : List PyData} (h : ∀ d, d ∈ ds → Rp k n d) (hm : (n + 1) * ds.length ≤ m) : Rp (k + 1) m (.list ds) := by
  obtain ⟨a, b, c⟩ := rp_all h
  exact ⟨Sh.lst fun d hd => (h d hd).sh, by simp only [PyData.showable]; exact a, by simp only [PyData.leavesShort]; exact b, by simp only [PyData.bulk]; omega⟩
theorem Rp.ints {ns : List Int} {k m : Nat} (h : ∀ i, i ∈ ns → i.natAbs < 1000000) (hm : ns.length ≤ m) : Rp (k + 1) m (.tuple (ns.map PyData.int)) :=
  Rp.tup (n := 0) (fun d hd => by obtain ⟨i, hi, rfl⟩ := List.mem_map.mp hd; exact .int (h i hi)) (by rw [List.length_map]; omega)
theorem Rp.bool {b : Bool} {k : Nat} : Rp k 0 (.bool b) := ⟨⟨by simp [PyData.canLay0], by simp [PyData.depth]⟩, by simp [PyData.showable], by simp [PyData.leavesShort], by simp [PyData.bulk]⟩
/-- repr(x), by data -/
theorem repr_read {K : PySem.W.Frag} {H : Hp} {x : V} {d : PyData} {Q : VK} {k n : Nat} (hd : Dp K H x d) (hs : Rp k n d) (hk : k ≤ 60) (hn : n ≤ 1048576) (q : Q (.str d.shown) H) : rReprD K [x] H Q :=
  ⟨x, d, rfl, hd, hs.sh.1, hs.shw, Nat.le_trans hs.sh.2 hk, PyData.shown_fits_bulk (B := 13) (by decide) (by decide) hs.short (Nat.le_trans hs.bulk (by omega)), q⟩
theorem Rp.all {k n : Nat} {d : PyData} (hs : Rp k n d) (hk : k ≤ 60) (hn : n ≤ 1048576) : d.canLay0 = true ∧ d.showable = true ∧ d.depth ≤ 60 ∧ d.shown.length ≤ sizeLine :=
  ⟨hs.sh.1, hs.shw, Nat.le_trans hs.sh.2 hk, PyData.shown_fits_bulk (B := 13) (by decide) (by decide) hs.short (Nat.le_trans hs.bulk (by omega))⟩
end MB

set_option maxHeartbeats 4000000
namespace MB
open PySem PySem.Spec PyProof.Rows L2
/-- data whose repr is asked: levels, size -/
structure RpW (k n : Nat) (d : PyData) : Prop where
  sh : Sh k d
  shw : d.showable = true
  short : d.leavesShort  75 = true
  bulk : d.bulk ≤ n
theorem RpW.mono {k n m : Nat} {d : PyData} (h : RpW k n d) (e : n ≤ m) : RpW k m d := ⟨h.sh, h.shw, h.short, Nat.le_trans h.bulk e⟩
theorem RpW.int {i : Int} {k : Nat} (h : i.natAbs < 10 ^ 70) : RpW k 0 (.int i) := by
  refine ⟨.int i, ?_, ?_, by simp [PyData.bulk]⟩
  · simp only [PyData.showable]
    refine decide_eq_true ?_
    by_cases h0 : i.natAbs = 0
    · rw [h0]; decide
    · exact Nat.lt_trans ((Nat.log2_lt h0).mpr (show i.natAbs < 2 ^ 240 by exact Nat.lt_trans h (by decide +kernel))) (by decide)
  · simp only [PyData.leavesShort]
    refine decide_eq_true ?_
    have e := int_text_length_le10 (a := i) (k := 70) (by decide) h
    have e2 : (PyData.shown (.int i)).length = (toString i).length := by
      simp only [PyData.shown]
      exact PySem.ofString_length _
    omega
theorem rpW_all {k n : Nat} : ∀ {ds : List PyData}, (∀ d, d ∈ ds → RpW k n d) → PyData.showableAll ds = true ∧ PyData.leavesShortAll  75 ds = true ∧ PyData.bulkAll ds ≤ (n + 1) * ds.length
  | [], _ => ⟨by simp [PyData.showableAll], by simp [PyData.leavesShortAll], by simp [PyData.bulkAll]⟩
  | d :: ds, h => by
    have h1 := h d (List.mem_cons_self ..)
    obtain ⟨a, b, c⟩ := rpW_all fun e he => h e (List.mem_cons_of_mem _ he)
    refine ⟨by simp only [PyData.showableAll, h1.shw, a, Bool.and_self], by simp only [PyData.leavesShortAll, h1.short, b, Bool.and_self], ?_⟩
    simp only [PyData.bulkAll, List.length_cons]
    have := h1.bulk
    rw [Nat.mul_add]
    omega
theorem RpW.tup {k n m : Nat} {ds : List PyData} (h : ∀ d, d ∈ ds → RpW k n d) (hm : (n + 1) * ds.length ≤ m) : RpW (k + 1) m (.tuple ds) := by
  obtain ⟨a, b, c⟩ := rpW_all h
  exact ⟨Sh.tup fun d hd => (h d hd).sh, by simp only [PyData.showable]; exact a, by simp only [PyData.leavesShort]; exact b, by simp only [PyData.bulk]; omega⟩
theorem RpW.lst {k n m : Nat} {ds : List PyData} (h : ∀ d, d ∈ ds → RpW k n d) (hm : (n + 1) * ds.length ≤ m) : RpW (k + 1) m (.list ds) := by
  obtain ⟨a, b, c⟩ := rpW_all h
  exact ⟨Sh.lst fun d hd => (h d hd).sh, by simp only [PyData.showable]; exact a, by simp only [PyData.leavesShort]; exact b, by simp only [PyData.bulk]; omega⟩
theorem RpW.ints {ns : List Int} {k m : Nat} (h : ∀ i, i ∈ ns → i.natAbs < 10 ^ 70) (hm : ns.length ≤ m) : RpW (k + 1) m (.tuple (ns.map PyData.int)) :=
  RpW.tup (n := 0) (fun d hd => by obtain ⟨i, hi, rfl⟩ := List.mem_map.mp hd; exact .int (h i hi)) (by rw [List.length_map]; omega)
theorem RpW.bool {b : Bool} {k : Nat} : RpW k 0 (.bool b) := ⟨⟨by simp [PyData.canLay0], by simp [PyData.depth]⟩, by simp [PyData.showable], by simp [PyData.leavesShort], by simp [PyData.bulk]⟩
theorem fits75 {d : PyData} (hl : d.leavesShort 75 = true) (hw : d.bulk ≤ 100000) : d.shown.length ≤ sizeLine := by
  have h := PyData.shown_le_bulk 75 (by decide) d hl
  have h2 : (75 + 2) * d.bulk ≤ 77 * 100000 := Nat.mul_le_mul (by omega) (by omega)
  have e : sizeLine = 16777216 := by decide
  omega
/-- repr(x), by data -/
theorem reprW_read {K : PySem.W.Frag} {H : Hp} {x : V} {d : PyData} {Q : VK} {k n : Nat} (hd : Dp K H x d) (hs : RpW k n d) (hk : k ≤ 60) (hn : n ≤ 100000) (q : Q (.str d.shown) H) : rReprD K [x] H Q :=
  ⟨x, d, rfl, hd, hs.sh.1, hs.shw, Nat.le_trans hs.sh.2 hk, fits75 hs.short (Nat.le_trans hs.bulk hn), q⟩
theorem RpW.all {k n : Nat} {d : PyData} (hs : RpW k n d) (hk : k ≤ 60) (hn : n ≤ 100000) : d.canLay0 = true ∧ d.showable = true ∧ d.depth ≤ 60 ∧ d.shown.length ≤ sizeLine :=
  ⟨hs.sh.1, hs.shw, Nat.le_trans hs.sh.2 hk, fits75 hs.short (Nat.le_trans hs.bulk hn)⟩
end MB

set_option maxHeartbeats 4000000
namespace MB
open PySem PySem.Spec PyProof.Rows L2

/-! ### f(p = v), no value by position -/
def gK {α : Type} (us ws : List α) : List α := match us with
  | [] => ws
  | _ :: _ => []
section
variable {X : Cx} {CX : CXT} {k : Nat} {f : Addr} {fd : FuncData} {ps ks : List Str} {sp : Sp} {E : XK} {x : Str} {p pos : Pos} {kws : List Keyword} {tk : TA} {g : List Value → List Value → List Value} {gV : List V → List V → List V}
theorem pe_callK0 (F : FnOk X.prog X.w X.K X.mg X.base CX k f fd ps sp) (hr : Room k X.A) (hg : Gl X x) (hm : X.mg x = some (.ref f)) (hk : PySem.W.keepIn X.K (.ref f) = true) (hb : KBinds X.K fd ps ks g gV) (hx : Passes CX X E)
    (hkw : PK X kws tk) (hall : (backToKw pos (keywordEach kws X.env)).all (·.1.isSome) = true := by rfl) (hks : (backToKw pos (keywordEach kws X.env)).filterMap (·.1) = ks := by rfl)
    (hdb : (x == ("__debug__" : Str)) = false := by decide)
    (hpl : ((backTo pos (starEach [] X.env)).any (·.1) || (backToKw pos (keywordEach kws X.env)).any (·.1.isNone)) = false := by rfl) :
    PE X (.Call (.Name x p) [] kws pos) (tCallK sp gV E tNil tk) := by
  refine ⟨fun pins s σ H Q I h => ?_⟩
  refine wpAny_Call_Name_kw (ld_glob I hg hm ?_ hdb)
  refine PySem.W.callWith_KW0 (h₀ := X.base) I.ok.mod.kin hk hall ?_ hpl
  refine thn (hkw.run pos pins s σ H _ I h) fun ws s2 ⟨zs, H2, I2, rz, q2⟩ => ⟨I2.kIn, ?_⟩
  rw [hks]
  exact run_fnk (us := []) (vs := []) F hr hb hx I2 .nil rz q2
end
theorem kb1 {K : PySem.W.Frag} {x qual : Str} {st : Stmt} {f : Addr} {fd : FuncData} {q : Str} (F : L2.Fun K x qual st f fd)
    (h : ∀ (kV doc pm : Value) (an : Option Addr) (cdv ct u : Value), bindArgs (PySem.W.fnOf x qual (defArgs st) (defBody st) (defScope st) .none kV doc pm an cdv ct) ⟨[], [(q, u)]⟩ = pure [(q, u)]) : KBinds K fd [q] [q] gK gK := by
  obtain ⟨oc, od, kV, doc, pm, an, cdv, ct, osl, rfl, lk, hcd⟩ := F.ex
  refine ⟨fun s us ws _ hl => ?_, fun {vs us zs ws} r1 r2 => ?_⟩
  · cases us with
    | cons u us => exact nomatch hl
    | nil =>
      match ws, hl with
      | [u], _ => exact .of_eq (h kV doc pm an cdv ct u)
  · cases r1 with
    | nil => exact r2
    | cons _ _ => exact .nil

/-! ### a comprehension with a test -/
theorem lc_sel {K : PySem.W.Frag} {J : It} {n : Nat} {G : Hp → Prop} {Y : Nat → Hp → V → Hp → Prop} (w : Walk J n G Y) {g : TG} {tt : TT} {te : TE} {vs : List Nat} {σ : L2.St} {H1 : Hp} {D : Addr} {Qd : Hp → Prop}
    (f : Nat → Bool) (d : Nat → PyData) (ht : ∀ i, i < n → Tf (d i)) (hn : n ≤ 1000) (hD : H1 D = none) (hG : ∀ H, Same H1 H → G H)
    (hs : ∀ i x H H', i < n → Same H1 H → Y i H x H' → ∀ R : V → Hp → Prop, (∀ y H4, Same H H4 → Dp K H4 y (d i) → R y H4) →
      g x (wipe σ vs) H' fun σ2 H2 => wipe σ2 vs = wipe σ vs ∧ tt σ2 H2 fun b H3 => b = f i ∧ Same H H3 ∧ (b = true → te σ2 H3 R))
    (hd : ∀ H acc, Same H1 H → H D = some (.lst acc) → DpAll K H acc (((List.range n).filter f).map d) → Qd H)
    (mg : ∀ x σ' H' (Q Q' : L2.St → Hp → Prop), (∀ a b, Q a b → Q' a b) → g x σ' H' Q → g x σ' H' Q') (mt : ∀ σ' H' (Q Q' : Bool → Hp → Prop), (∀ a b, Q a b → Q' a b) → tt σ' H' Q → tt σ' H' Q') :
    ∃ W : Nat → Nat → Hp → Prop, (∃ m, W 0 m (upd H1 D (.lst []))) ∧ ∀ i m H, W i m H →
      (J.stop i H ∧ Qd H) ∨ (J.go i H ∧ ∃ Nx : Hp → Prop, (∀ H', Nx H' → ∃ m', m' < m ∧ W (i + 1) m' H') ∧ ∀ x H', J.yld i H x H' → g x (wipe σ vs) H' fun σ2 H2 => wipe σ2 vs = wipe σ vs ∧ tt σ2 H2 fun b H3 =>
        if b = true then te σ2 H3 fun y H4 => ∃ acc, H4 D = some (.lst acc) ∧ acc.length < sizeLine ∧ Nx (upd H4 D (.lst (acc ++ [y]))) else Nx H3) := by
  refine lc_it w (fun i H => Same H1 H ∧ ∃ acc, H D = some (.lst acc) ∧ DpAll K H acc (((List.range i).filter f).map d)) ⟨same_upd hD, [], upd_same, .nil⟩ (fun i H _ h => hG H h.1) ?_ ?_
  · rintro i x H H' hi ⟨s1, acc, ha, hA⟩ hy
    have hlen := DpAll.len hA
    have hle : acc.length ≤ i := by
      rw [hlen, List.length_map]
      have := List.length_filter_le f (List.range i)
      rw [List.length_range] at this
      exact this
    refine mg _ _ _ _ _ ?_ (hs i x H H' hi s1 hy (fun y H4 => ∃ acc, H4 D = some (.lst acc) ∧ acc.length < sizeLine ∧ (f i = true → Same H1 (upd H4 D (.lst (acc ++ [y]))) ∧ ∃ acc', (upd H4 D (.lst (acc ++ [y]))) D = some (.lst acc') ∧ DpAll K (upd H4 D (.lst (acc ++ [y]))) acc' (((List.range (i + 1)).filter f).map d))) ?_)
    · rintro σ2 H2 ⟨h1, h2⟩
      refine ⟨h1, mt _ _ _ _ ?_ h2⟩
      rintro b H3 ⟨hb, s3, h3⟩
      cases b with
      | true =>
        refine iteT ?_
        have h4 := h3 rfl
        have hb' := hb.symm
        simp only [hb', true_implies] at h4
        exact h4
      | false =>
        refine iteF ⟨s1.trans s3, acc, s3 _ _ ha, ?_⟩
        rw [List.range_succ, List.filter_append, List.map_append]
        have e : List.filter f [i] = [] := by rw [List.filter_cons, if_neg (by rw [← hb]; decide)]; rfl
        rw [e, List.map_nil, List.append_nil]
        exact DpAll.same s3 hA
    · intro y H4 s4 hy4
      refine ⟨acc, s4 _ _ ha, sz61 (by omega), fun hf => ⟨Same.mut (s1.trans s4) hD, acc ++ [y], upd_same, ?_⟩⟩
      have kp : Keep K H4 (upd H4 D (.lst (acc ++ [y]))) := But.keep But.upd (s4 _ _ ha)
      have e : List.filter f [i] = [i] := by rw [List.filter_cons, if_pos hf]; rfl
      rw [List.range_succ, List.filter_append, List.map_append, e]
      refine DpAll.keep kp (fun d' h => ?_) (DpAll.append (DpAll.same s4 hA) (.cons hy4 .nil))
      rcases List.mem_append.mp h with h | h
      · obtain ⟨j, hj, rfl⟩ := List.mem_map.mp h
        have := List.mem_range.mp (List.mem_filter.mp hj).1
        exact ht j (by omega)
      · have e : d' = d i := by simpa using h
        rw [e]; exact ht i hi
  · rintro H ⟨s1, acc, ha, hA⟩
    exact hd H acc s1 ha hA
end MB

set_option maxHeartbeats 4000000
namespace MB
open PySem PySem.Spec PyProof.Rows L2
/-! ### x *= e -/
theorem ip_mulW {X : Cx} : PIp X .Mult (fun x y H Q => ∃ i j, x = .int i ∧ y = .int j ∧ CMulW i j ∧ Q (.int (i * j)) H) := by
  intro pins s σ H x y v u Q I r1 r2 h
  obtain ⟨i, j, e1, e2, hc, q⟩ := h
  subst e1; subst e2
  obtain ⟨t, rfl⟩ := r1
  obtain ⟨t', rfl⟩ := r2
  exact imul_int ⟨.int _, H, I.tok _, ⟨_, rfl⟩, q⟩ hc.ok
/-! ### f(q = v, p = w): by keywords in any order -/
def gP {α : Type} (idx : List Nat) (us ws : List α) : List α := match us with
  | [] => idx.filterMap fun i => ws[i]?
  | _ :: _ => []
theorem gP_take {α : Type} {n : Nat} {ws : List α} : ∀ {idx : List Nat}, (∀ i, i ∈ idx → i < n) → (idx.filterMap fun i => (ws.take n)[i]?) = idx.filterMap fun i => ws[i]?
  | [], _ => rfl
  | i :: idx, h => by
    have h1 := h i (List.mem_cons_self ..)
    have h2 := gP_take (α := α) (n := n) (ws := ws) (idx := idx) fun j hj => h j (List.mem_cons_of_mem _ hj)
    rw [List.filterMap_cons, List.filterMap_cons, h2, List.getElem?_take, if_pos h1]
theorem gP_len {α : Type} {ws : List α} : ∀ {idx : List Nat}, (idx.filterMap fun i => ws[i]?).length = idx.length → ∀ i, i ∈ idx → i < ws.length
  | [], _, i, h => nomatch h
  | j :: idx, hl, i, h => by
    cases e : ws[j]? with
    | none =>
      simp only [List.filterMap_cons, e] at hl
      have := List.length_filterMap_le (fun i => ws[i]?) idx
      simp only [List.length_cons] at hl
      omega
    | some x =>
      simp only [List.filterMap_cons, e, List.length_cons, Nat.add_right_cancel_iff] at hl
      rcases List.mem_cons.mp h with h | h
      · subst h
        exact (List.getElem?_eq_some_iff.mp e).1
      · exact gP_len hl i h
theorem gP_rel {zs : List V} {ws : List Value} (r : Vals zs ws) : ∀ idx : List Nat, Vals (idx.filterMap fun i => zs[i]?) (idx.filterMap fun i => ws[i]?)
  | [] => .nil
  | i :: idx => by
    have ih := gP_rel r idx
    cases e : zs[i]? with
    | none =>
      have e2 : ws[i]? = none := List.getElem?_eq_none (by rw [← r.length]; exact List.getElem?_eq_none_iff.mp e)
      simp only [List.filterMap_cons, e, e2]; exact ih
    | some x =>
      obtain ⟨u, e2, ru⟩ := r.get e
      simp only [List.filterMap_cons, e, e2]; exact .cons ru ih
theorem zip_take {α β : Type} : ∀ (ks : List α) (ws : List β), ks.zip (ws.take ks.length) = ks.zip ws
  | [], _ => rfl
  | _ :: _, [] => rfl
  | k :: ks, w :: ws => by simp [zip_take ks ws]
theorem kbP {K : PySem.W.Frag} {x qual : Str} {st : Stmt} {f : Addr} {fd : FuncData} {ps ks : List Str} {idx : List Nat} (F : L2.Fun K x qual st f fd) (hi : idx.length = ps.length) (hk : ks.length = ps.length) (hp : 0 < ps.length)
    (hall : (∀ i, i ∈ idx → i < ps.length) ∧ ps.length - 1 ∈ idx)
    (h : ∀ (kV doc pm : Value) (an : Option Addr) (cdv ct : Value) (ws : List Value), ws.length = ps.length → bindArgs (PySem.W.fnOf x qual (defArgs st) (defBody st) (defScope st) .none kV doc pm an cdv ct) ⟨[], ks.zip ws⟩ = pure (ps.zip (gP idx [] ws))) : KBinds K fd ps ks (gP idx) (gP idx) := by
  obtain ⟨oc, od, kV, doc, pm, an, cdv, ct, osl, rfl, lk, hcd⟩ := F.ex
  refine ⟨fun s us ws _ hl => ?_, fun {vs us zs ws} r1 r2 => ?_⟩
  · cases us with
    | cons u us =>
      have : 0 = ps.length := hl
      omega
    | nil =>
      have hl' : (idx.filterMap fun i => ws[i]?).length = idx.length := by rw [hi]; exact hl
      have h2 := gP_len hl' _ hall.2
      have h3 := h kV doc pm an cdv ct (ws.take ps.length) (by rw [List.length_take]; omega)
      have e1 : gP idx [] (ws.take ps.length) = gP idx [] ws := gP_take hall.1
      have e2 : ks.zip (ws.take ps.length) = ks.zip ws := by
        rw [← hk]
        exact zip_take ks ws
      rw [e1, e2] at h3
      exact .of_eq h3
  · cases r1 with
    | nil => exact gP_rel r2 idx
    | cons _ _ => exact .nil
section
variable {X : Cx} {CX : CXT} {k : Nat} {f : Addr} {fd : FuncData} {ps ks : List Str} {sp : Sp} {E : XK} {x : Str} {p pos : Pos} {kws : List Keyword} {tk : TA} {g : List Value → List Value → List Value} {gV : List V → List V → List V}
end
end MB

set_option maxHeartbeats 4000000
namespace MB
open PySem PySem.Spec PyProof.Rows L2
/-- tuple(range(i, j, k)) -/
def tTupR3 (ta : TA) : TE := fun σ H Q => ta σ H fun vs H1 => ∃ (i j k : Int) (n : Nat), vs = [.int i, .int j, .int k] ∧ RgC i j k n ∧ n ≤ 2 ^ 24 ∧ ∀ q, H1 q = none → Q (.ref q) (upd H1 q (.tup ((List.range n).map fun (m : Nat) => V.int (i + (m : Int) * k))))
theorem pe_tupR3 {X : Cx} {a b c : Expr} {ta : TA} {p p' pos pos' : Pos} (hc : X.calm = true) (hg : Gl X "tuple") (hm : X.mg "tuple" = none) (hg' : Gl X "range") (hm' : X.mg "range" = none) (ha : PA X [a, b, c] ta)
    (hs : starEach [a, b, c] X.env = (false, eval a X.env) :: starEach [b, c] X.env := by rfl) (hpl : (backTo pos' (starEach [b, c] X.env)).any (·.1) = false := by rfl)
    (na : starEach [.Call (.Name "range" p') [a, b, c] [] pos'] X.env = (false, eval (.Call (.Name "range" p') [a, b, c] [] pos') X.env) :: starEach [] X.env := by rfl) :
    PE X (.Call (.Name "tuple" p) [.Call (.Name "range" p') [a, b, c] [] pos'] [] pos) (tTupR3 ta) := by
  refine ⟨fun pins s σ H Q I h => ?_⟩
  refine Call_ (ld_blt I hg hm boot_tuple (PyProof.Rows.callWith_type1 (args_cons (Call_ (ld_blt I hg' hm' boot_range (PyProof.Rows.callWith_type1 (thn (ha.run pos' pins s σ H _ I h) fun us s1 ⟨vs, H1, I1, r1, q1⟩ => ?_) hs hpl))) na) na))
  obtain ⟨i, j, k, n, rfl, ⟨c0, c1, c2, c3⟩, hn, q⟩ := q1
  obtain ⟨u1, u2, u3, rfl, ⟨t1, rfl⟩, ⟨t2, rfl⟩, ⟨t3, rfl⟩⟩ : ∃ u1 u2 u3, us = [u1, u2, u3] ∧ RelV (.int i) u1 ∧ RelV (.int j) u2 ∧ RelV (.int k) u3 := by
    cases r1 with
    | cons x1 y1 => cases y1 with
      | cons x2 y2 => cases y2 with
        | cons x3 y3 => cases y3; exact ⟨_, _, _, rfl, x1, x2, x3⟩
  refine call_range_3 c0 (args_nil ?_) (.inl (PyProof.noPylong_small c1))
  have I2 : Inv X pins σ H1 { s1 with heap := s1.heap.push { cls := .type "range", data := .fields #[.int i t1, .int j t2, .int k t3] } } := I1.kept (t' := s1.toks) fun b o e => Heap.get?_push_of_some _ e
  refine call_tuple_range (n := n) (I2.ok.hd hc) (IsRange.new ..) c2 c3 hn fun h' tk acc hk hi => ?_
  have I3 : Inv X pins σ H1 { s1 with heap := h', toks := tk } := I2.kept hk
  have hv : Vals ((List.range n).map fun (m : Nat) => V.int (i + (m : Int) * k)) acc.toList := by
    have e : acc.toList.length = n := by rw [Array.length_toList]; exact hi.1
    rw [← e]
    refine vals_of_get acc.toList _ fun m u hj => ?_
    obtain ⟨t, rfl⟩ := hi.2 m u (by rw [← hj, Array.getElem?_toList])
    exact ⟨t, rfl⟩
  refine ⟨.ref h'.objs.size, _, I3.laid (o := .tup ((List.range n).map fun (m : Nat) => V.int (i + (m : Int) * k))) (t' := tk) (fun c o e => Heap.get?_push_of_some _ e) (Nat.le_refl _) ⟨?_, acc.toList, hv, ?_⟩, rfl, q _ (I3.hok.fresh (Nat.le_refl _))⟩
  · rw [List.length_map, List.length_range, sizeLine_eq]; omega
  · rw [Array.toArray_toList]; exact IsTup.new _ _
end MB

set_option maxHeartbeats 4000000
namespace MB
open PySem PySem.Spec PyProof.Rows L2
theorem blT {c : Prop} [Decidable c] (h : c) : V.bl (decide c) = V.bl true := by rw [decide_eq_true h]
theorem blF {c : Prop} [Decidable c] (h : ¬ c) : V.bl (decide c) = V.bl false := by rw [decide_eq_false h]
theorem nblF {c : Prop} [Decidable c] (h : c) : V.bl (!decide c) = V.bl false := by rw [decide_eq_true h]; rfl
theorem nblT {c : Prop} [Decidable c] (h : ¬ c) : V.bl (!decide c) = V.bl true := by rw [decide_eq_false h]; rfl
theorem int_ne {i j : Int} (h : i ≠ j) : ¬ V.int i = V.int j := fun e => h (by injection e)
theorem dp_bls_inv {K : PySem.W.Frag} {H : Hp} : ∀ {ns : List Bool} {vs : List V}, DpAll K H vs (ns.map PyData.bool) → vs = ns.map V.bl
  | [], _, .nil => rfl
  | n :: ns, _, .cons a b => by
    cases a
    rw [dp_bls_inv b]
    rfl
/-- a comprehension whose items are truth values -/
theorem lc_bools {K : PySem.W.Frag} {J : It} {n : Nat} {G : Hp → Prop} {Y : Nat → Hp → V → Hp → Prop} (w : Walk J n G Y) {g : TG} {tt : TT} {te : TE} {vs : List Nat} {σ : L2.St} {H1 : Hp} {D : Addr} {Qd : Hp → Prop}
    (bs : List Bool) (hl : bs.length = n) (hn : n ≤ 1000) (hD : H1 D = none) (hG : ∀ H, Same H1 H → G H)
    (hs : ∀ i x H H', i < n → Same H1 H → Y i H x H' → ∀ b, bs[i]? = some b → ∀ R : V → Hp → Prop, (∀ H4, Same H H4 → R (.bl b) H4) →
      g x (wipe σ vs) H' fun σ2 H2 => wipe σ2 vs = wipe σ vs ∧ tt σ2 H2 fun b H3 => b = true ∧ te σ2 H3 R)
    (hd : ∀ H, Same H1 H → H D = some (.lst (bs.map V.bl)) → Qd H)
    (mg : ∀ x σ' H' (Q Q' : L2.St → Hp → Prop), (∀ a b, Q a b → Q' a b) → g x σ' H' Q → g x σ' H' Q') (mt : ∀ σ' H' (Q Q' : Bool → Hp → Prop), (∀ a b, Q a b → Q' a b) → tt σ' H' Q → tt σ' H' Q') :
    ∃ W : Nat → Nat → Hp → Prop, (∃ m, W 0 m (upd H1 D (.lst []))) ∧ ∀ i m H, W i m H →
      (J.stop i H ∧ Qd H) ∨ (J.go i H ∧ ∃ Nx : Hp → Prop, (∀ H', Nx H' → ∃ m', m' < m ∧ W (i + 1) m' H') ∧ ∀ x H', J.yld i H x H' → g x (wipe σ vs) H' fun σ2 H2 => wipe σ2 vs = wipe σ vs ∧ tt σ2 H2 fun b H3 =>
        if b = true then te σ2 H3 fun y H4 => ∃ acc, H4 D = some (.lst acc) ∧ acc.length < sizeLine ∧ Nx (upd H4 D (.lst (acc ++ [y]))) else Nx H3) := by
  refine lc_all (K := K) w (bs.map PyData.bool) (by rw [List.length_map, hl]) (fun d h => ?_) hn hD hG ?_ ?_ mg mt
  · obtain ⟨b, _, rfl⟩ := List.mem_map.mp h
    exact .bl b
  · intro i x H H' hi s y d hd' R hR
    rw [List.getElem?_map] at hd'
    cases e : bs[i]? with
    | none => rw [e] at hd'; cases hd'
    | some b =>
      rw [e] at hd'
      cases hd'
      exact hs i x H H' hi s y b e R fun H4 s4 => hR _ _ s4 (.bl b)
  · intro H acc s ha hA
    rw [dp_bls_inv hA] at ha
    exact hd H s ha
/-- a comprehension whose items are numbers -/
theorem lc_ints {K : PySem.W.Frag} {J : It} {n : Nat} {G : Hp → Prop} {Y : Nat → Hp → V → Hp → Prop} (w : Walk J n G Y) {g : TG} {tt : TT} {te : TE} {vs : List Nat} {σ : L2.St} {H1 : Hp} {D : Addr} {Qd : Hp → Prop}
    (bs : List Int) (hl : bs.length = n) (hn : n ≤ 1000) (hD : H1 D = none) (hG : ∀ H, Same H1 H → G H)
    (hs : ∀ i x H H', i < n → Same H1 H → Y i H x H' → ∀ b, bs[i]? = some b → ∀ R : V → Hp → Prop, (∀ H4, Same H H4 → R (.int b) H4) →
      g x (wipe σ vs) H' fun σ2 H2 => wipe σ2 vs = wipe σ vs ∧ tt σ2 H2 fun b H3 => b = true ∧ te σ2 H3 R)
    (hd : ∀ H, Same H1 H → H D = some (.lst (bs.map V.int)) → Qd H)
    (mg : ∀ x σ' H' (Q Q' : L2.St → Hp → Prop), (∀ a b, Q a b → Q' a b) → g x σ' H' Q → g x σ' H' Q') (mt : ∀ σ' H' (Q Q' : Bool → Hp → Prop), (∀ a b, Q a b → Q' a b) → tt σ' H' Q → tt σ' H' Q') :
    ∃ W : Nat → Nat → Hp → Prop, (∃ m, W 0 m (upd H1 D (.lst []))) ∧ ∀ i m H, W i m H →
      (J.stop i H ∧ Qd H) ∨ (J.go i H ∧ ∃ Nx : Hp → Prop, (∀ H', Nx H' → ∃ m', m' < m ∧ W (i + 1) m' H') ∧ ∀ x H', J.yld i H x H' → g x (wipe σ vs) H' fun σ2 H2 => wipe σ2 vs = wipe σ vs ∧ tt σ2 H2 fun b H3 =>
        if b = true then te σ2 H3 fun y H4 => ∃ acc, H4 D = some (.lst acc) ∧ acc.length < sizeLine ∧ Nx (upd H4 D (.lst (acc ++ [y]))) else Nx H3) := by
  refine lc_all (K := K) w (bs.map PyData.int) (by rw [List.length_map, hl]) (tf_ints _) hn hD hG ?_ ?_ mg mt
  · intro i x H H' hi s y d hd' R hR
    rw [List.getElem?_map] at hd'
    cases e : bs[i]? with
    | none => rw [e] at hd'; cases hd'
    | some b =>
      rw [e] at hd'
      cases hd'
      exact hs i x H H' hi s y b e R fun H4 s4 => hR _ _ s4 (.int b)
  · intro H acc s ha hA
    rw [dp_ints_inv hA] at ha
    exact hd H s ha
theorem k_pgTN {X : Cx} {K : PySem.W.Frag} {x y z : Str} {px py pz p1 : Pos} {k k1 : Nat} {pos : Pos} {t1 t2 : TG} (hK : X.K = K) (hc : X.calm = true) (h1 : PG X (.Tuple [.Name x px, .Name y py] k1 p1) t1) (h2 : PG X (.Name z pz) t2) : PG X (.Tuple [.Tuple [.Name x px, .Name y py] k1 p1, .Name z pz] k pos) (gTup K 2 (gCons t1 (gCons t2 gNil))) := by
  subst hK
  exact pg_tup hc (pgs_cons h1 (pgs_cons h2 pgs_nil))
theorem mono_pair2 {K : PySem.W.Frag} {n n' i j l : Nat} (x : V) (σ' : L2.St) (H' : Hp) (Q Q' : L2.St → Hp → Prop) (h : ∀ a b, Q a b → Q' a b) (e : gTup K n (gCons (gTup K n' (gCons (gName i) (gCons (gName j) gNil))) (gCons (gName l) gNil)) x σ' H' Q) : gTup K n (gCons (gTup K n' (gCons (gName i) (gCons (gName j) gNil))) (gCons (gName l) gNil)) x σ' H' Q' := by
  obtain ⟨a, xs, e1, e2, e3, v, r, e4, b, ys, f1, f2, f3, v1, r1, f4, v2, r2, f5, f6, v', r', e5, e6, q⟩ := e
  exact ⟨a, xs, e1, e2, e3, v, r, e4, b, ys, f1, f2, f3, v1, r1, f4, v2, r2, f5, f6, v', r', e5, e6, h _ _ q⟩
theorem ci_sum : ∀ p : List Nat, (ci p).sum = ((p.sum : Nat) : Int)
  | [] => rfl
  | x :: p => by
    have := ci_sum p
    simp only [ci, List.map_cons, List.sum_cons, Int.natCast_add] at this ⊢
    rw [this]
theorem cutV_to {p : List Nat} {m : Nat} (h : m ≤ p.length) : cutV (vi p) none (some (m : Int)) = vi (p.take m) := by
  rw [cut_to (by rw [vi_len]; exact h)]; simp [vi, List.map_take]
theorem cutV_from {p : List Nat} {m : Nat} (h : m ≤ p.length) : cutV (vi p) (some (m : Int)) none = vi (p.drop m) := by
  rw [cut_from (by rw [vi_len]; exact h)]; simp [vi, List.map_drop]
theorem cut_drop {p : List Nat} {m : Nat} (h : m ≤ p.length) : cutV (vi p) (some (m : Int)) none = (ci (p.drop m)).map V.int := by
  rw [cutV_from h, vi_ci]
theorem isi_int {K : PySem.W.Frag} {H : Hp} {i : Int} {Q : VK} (q : Q (.bl true) H) : rIsi K [.int i, .ty "int"] H Q :=
  ⟨.int i, .ty "int", .type "int", .type "int", true, rfl, .ty _, .base (.int i), kit_ty (by decide +kernel), q⟩
theorem isi_bool {K : PySem.W.Frag} {H : Hp} {i : Int} {Q : VK} (q : Q (.bl false) H) : rIsi K [.int i, .ty "bool"] H Q :=
  ⟨.int i, .ty "bool", .type "int", .type "bool", false, rfl, .ty _, .base (.int i), kit_ty (by decide +kernel), q⟩
theorem nth3 {n : Nat} (x : List V) (h : x.length = n) (i : Nat) (hi : i < (if (if (x.length : Int) < 3 then (x.length : Int) else 3) > 1 then (if (x.length : Int) < 3 then (x.length : Int) else 3) else 1 : Int).toNat) : i ≤ 62 := by
  have : (if (if (x.length : Int) < 3 then (x.length : Int) else 3) > 1 then (if (x.length : Int) < 3 then (x.length : Int) else 3) else 1) ≤ 3 := by split <;> split <;> omega
  omega
end MB

set_option maxHeartbeats 4000000
namespace MB
/-- the first of the least among f 0 .. f n -/
def amin (f : Nat → Int) : Nat → Nat
  | 0 => 0
  | n + 1 => if f (n + 1) < f (amin f n) then n + 1 else amin f n
theorem amin_le (f : Nat → Int) : ∀ n, amin f n ≤ n
  | 0 => Nat.le_refl _
  | n + 1 => by
    have := amin_le f n
    unfold amin
    split <;> omega
theorem amin_min (f : Nat → Int) : ∀ n k, k ≤ n → f (amin f n) ≤ f k
  | 0, k, h => by
    have : k = 0 := by omega
    rw [this]
    exact Int.le_refl _
  | n + 1, k, h => by
    have ih := amin_min f n
    unfold amin
    split
    · rename_i hlt
      by_cases e : k = n + 1
      · rw [e]
        exact Int.le_refl _
      · have := ih k (by omega)
        omega
    · rename_i hlt
      by_cases e : k = n + 1
      · rw [e]
        omega
      · exact ih k (by omega)
theorem amin_first (f : Nat → Int) : ∀ n k, k < amin f n → f (amin f n) < f k
  | 0, k, h => by simp [amin] at h
  | n + 1, k, h => by
    have ih := amin_first f n
    have hm := amin_min f n
    unfold amin at h ⊢
    split at h
    · rename_i hlt
      rw [if_pos hlt]
      have := hm k (by omega)
      omega
    · rename_i hlt
      rw [if_neg hlt]
      exact ih k h
theorem amin_uniq {f : Nat → Int} {n a : Nat} (ha : a ≤ n) (h1 : ∀ k, k ≤ n → f a ≤ f k) (h2 : ∀ k, k < a → f a < f k) : amin f n = a := by
  rcases Nat.lt_trichotomy (amin f n) a with h | h | h
  · have := h2 _ h
    have := amin_min f n a ha
    omega
  · exact h
  · have := amin_first f n a h
    have := h1 _ (amin_le f n)
    omega
theorem amin_like {f g : Nat → Int} {n : Nat} (h : ∀ j k, j ≤ n → k ≤ n → (f j < f k ↔ g j < g k)) : amin f n = amin g n := by
  refine amin_uniq (amin_le g n) (fun k hk => ?_) (fun k hk => ?_)
  · have h1 := amin_min g n k hk
    have h2 := h k (amin g n) hk (amin_le g n)
    by_cases e : f k < f (amin g n)
    · have := h2.mp e; omega
    · omega
  · have h0 := amin_le g n
    exact (h _ _ (amin_le g n) (by omega)).mpr (amin_first g n k hk)
theorem amin_congr {f g : Nat → Int} {n : Nat} (h : ∀ k, k ≤ n → f k = g k) : amin f n = amin g n :=
  amin_like fun j k hj hk => by rw [h j hj, h k hk]
/-- the cost of the root i + k of the m flushes from i on -/
def cst (S R : Nat → Int) (i m k : Nat) : Int := S (i + k + 1) - S i + R (i + m) - R (i + k)
def lwF (S R : Nat → Int) : Nat → Nat → Nat → Int
  | 0, _, _ => 0
  | _ + 1, _, 0 => 0
  | f + 1, i, m + 1 => (fun k => lwF S R f i k + lwF S R f (i + k + 1) (m - k) + cst S R i (m + 1) k) (amin (fun k => lwF S R f i k + lwF S R f (i + k + 1) (m - k) + cst S R i (m + 1) k) m)
theorem lwF_eq (S R : Nat → Int) : ∀ f m i, m ≤ f → lwF S R f i m = lwF S R m i m := by
  have key : ∀ f, ∀ m i, m ≤ f → lwF S R (f + 1) i m = lwF S R f i m := by
    intro f
    induction f with
    | zero => intro m i h; have : m = 0 := by omega
              subst this; rfl
    | succ f ih =>
      intro m i h
      cases m with
      | zero => rfl
      | succ m =>
        have e : ∀ k, k ≤ m → lwF S R (f + 1) i k + lwF S R (f + 1) (i + k + 1) (m - k) + cst S R i (m + 1) k = lwF S R f i k + lwF S R f (i + k + 1) (m - k) + cst S R i (m + 1) k := fun k hk => by
          rw [ih k i (by omega), ih (m - k) (i + k + 1) (by omega)]
        show (fun k => lwF S R (f + 1) i k + lwF S R (f + 1) (i + k + 1) (m - k) + cst S R i (m + 1) k) (amin (fun k => lwF S R (f + 1) i k + lwF S R (f + 1) (i + k + 1) (m - k) + cst S R i (m + 1) k) m) = (fun k => lwF S R f i k + lwF S R f (i + k + 1) (m - k) + cst S R i (m + 1) k) (amin (fun k => lwF S R f i k + lwF S R f (i + k + 1) (m - k) + cst S R i (m + 1) k) m)
        rw [amin_congr e]
        exact e _ (amin_le _ _)
  intro f m i h
  induction f with
  | zero => have : m = 0 := by omega
            subst this; rfl
  | succ f ih =>
    by_cases e : m ≤ f
    · rw [key f m i e, ih e]
    · have : m = f + 1 := by omega
      rw [this]
/-- the least work of the m flushes from i on -/
def lw (S R : Nat → Int) (i m : Nat) : Int := lwF S R m i m
/-- the least work of the m + 1 flushes from i on with the root i + k -/
def via (S R : Nat → Int) (i m k : Nat) : Int := lw S R i k + lw S R (i + k + 1) (m - k) + cst S R i (m + 1) k
def rt (S R : Nat → Int) (i m : Nat) : Nat := amin (via S R i m) m
theorem lw_zero (S R : Nat → Int) (i : Nat) : lw S R i 0 = 0 := rfl
theorem lw_succ (S R : Nat → Int) (i m : Nat) : lw S R i (m + 1) = via S R i m (rt S R i m) := by
  have e : ∀ k, k ≤ m → lwF S R m i k + lwF S R m (i + k + 1) (m - k) + cst S R i (m + 1) k = via S R i m k := fun k hk => by
    rw [lwF_eq S R m k i hk, lwF_eq S R m (m - k) (i + k + 1) (by omega)]; rfl
  show (fun k => lwF S R m i k + lwF S R m (i + k + 1) (m - k) + cst S R i (m + 1) k) (amin (fun k => lwF S R m i k + lwF S R m (i + k + 1) (m - k) + cst S R i (m + 1) k) m) = _
  rw [amin_congr e]
  exact e _ (amin_le _ _)
theorem rt_le (S R : Nat → Int) (i m : Nat) : rt S R i m ≤ m := amin_le _ _
theorem lw_le (S R : Nat → Int) (i : Nat) {m k : Nat} (h : k ≤ m) : lw S R i (m + 1) ≤ via S R i m k := by
  rw [lw_succ]
  exact amin_min _ _ _ h
def ltF (S R : Nat → Int) : Nat → Nat → Nat → T
  | 0, _, _ => .nil
  | _ + 1, _, 0 => .nil
  | f + 1, i, m + 1 => .node (ltF S R f i (rt S R i m)) (ltF S R f (i + rt S R i m + 1) (m - rt S R i m))
theorem ltF_eq (S R : Nat → Int) : ∀ f m i, m ≤ f → ltF S R f i m = ltF S R m i m := by
  have key : ∀ f, ∀ m i, m ≤ f → ltF S R (f + 1) i m = ltF S R f i m := by
    intro f
    induction f with
    | zero => intro m i h; have : m = 0 := by omega
              subst this; rfl
    | succ f ih =>
      intro m i h
      cases m with
      | zero => rfl
      | succ m =>
        have hr := rt_le S R i m
        show T.node (ltF S R (f + 1) i (rt S R i m)) (ltF S R (f + 1) (i + rt S R i m + 1) (m - rt S R i m)) = T.node (ltF S R f i (rt S R i m)) (ltF S R f (i + rt S R i m + 1) (m - rt S R i m))
        rw [ih _ _ (by omega), ih _ _ (by omega)]
  intro f m i h
  induction f with
  | zero => have : m = 0 := by omega
            subst this; rfl
  | succ f ih =>
    by_cases e : m ≤ f
    · rw [key f m i e, ih e]
    · have : m = f + 1 := by omega
      rw [this]
/-- the tree of least roots of the m flushes from i on -/
def lt (S R : Nat → Int) (i m : Nat) : T := ltF S R m i m
theorem lt_zero (S R : Nat → Int) (i : Nat) : lt S R i 0 = .nil := rfl
theorem lt_succ (S R : Nat → Int) (i m : Nat) : lt S R i (m + 1) = .node (lt S R i (rt S R i m)) (lt S R (i + rt S R i m + 1) (m - rt S R i m)) := by
  have hr := rt_le S R i m
  show T.node (ltF S R m i (rt S R i m)) (ltF S R m (i + rt S R i m + 1) (m - rt S R i m)) = _
  rw [ltF_eq S R m _ i hr, ltF_eq S R m _ (i + rt S R i m + 1) (by omega)]; rfl
theorem lt_size (S R : Nat → Int) : ∀ m i, (lt S R i m).size = m := by
  intro m
  induction m using Nat.strongRecOn with
  | ind m ih =>
    intro i
    cases m with
    | zero => rfl
    | succ m =>
      have hr := rt_le S R i m
      rw [lt_succ]
      show (lt S R i (rt S R i m)).size + 1 + (lt S R (i + rt S R i m + 1) (m - rt S R i m)).size = m + 1
      rw [ih _ (by omega), ih _ (by omega)]
      omega
/-- only the differences count -/
theorem lw_shift {S R S' R' : Nat → Int} {d : Nat} {c c' : Int} : ∀ m i, (∀ j, i ≤ j → j ≤ i + m → S j = S' (j + d) + c ∧ R j = R' (j + d) + c') → lw S R i m = lw S' R' (i + d) m ∧ lt S R i m = lt S' R' (i + d) m := by
  intro m
  induction m using Nat.strongRecOn with
  | ind m ih =>
    intro i h
    cases m with
    | zero => exact ⟨rfl, rfl⟩
    | succ m =>
      have ev : ∀ k, k ≤ m → via S R i m k = via S' R' (i + d) m k := fun k hk => by
        have e1 := (ih k (by omega) i fun j h1 h2 => h j h1 (by omega)).1
        have e2 := (ih (m - k) (by omega) (i + k + 1) fun j h1 h2 => h j (by omega) (by omega)).1
        have a1 := (h (i + k + 1) (by omega) (by omega)).1
        have a2 := (h i (by omega) (by omega)).1
        have a3 := (h (i + (m + 1)) (by omega) (by omega)).2
        have a4 := (h (i + k) (by omega) (by omega)).2
        rw [show i + k + 1 + d = i + d + k + 1 by omega] at a1
        rw [show i + (m + 1) + d = i + d + (m + 1) by omega] at a3
        rw [show i + k + d = i + d + k by omega] at a4
        rw [show i + k + 1 + d = i + d + k + 1 by omega] at e2
        unfold via cst
        rw [e1, e2, a1, a2, a3, a4]
        omega
      have er : rt S R i m = rt S' R' (i + d) m := amin_congr ev
      have hr := rt_le S' R' (i + d) m
      refine ⟨?_, ?_⟩
      · rw [lw_succ, lw_succ, er]
        exact ev _ hr
      · rw [lt_succ, lt_succ, er]
        rw [(ih (rt S' R' (i + d) m) (by omega) i fun j h1 h2 => h j h1 (by omega)).2]
        rw [(ih (m - rt S' R' (i + d) m) (by omega) (i + rt S' R' (i + d) m + 1) fun j h1 h2 => h j (by omega) (by omega)).2]
        rw [show i + rt S' R' (i + d) m + 1 + d = i + d + rt S' R' (i + d) m + 1 by omega]
theorem rt_shift {S R S' R' : Nat → Int} {d : Nat} {c c' : Int} {m i : Nat} (h : ∀ j, i ≤ j → j ≤ i + (m + 1) → S j = S' (j + d) + c ∧ R j = R' (j + d) + c') : rt S R i m = rt S' R' (i + d) m := by
  refine amin_congr fun k hk => ?_
  have e1 := (lw_shift (S := S) (R := R) (S' := S') (R' := R') k i fun j h1 h2 => h j h1 (by omega)).1
  have e2 := (lw_shift (S := S) (R := R) (S' := S') (R' := R') (m - k) (i + k + 1) fun j h1 h2 => h j (by omega) (by omega)).1
  have a1 := (h (i + k + 1) (by omega) (by omega)).1
  have a2 := (h i (by omega) (by omega)).1
  have a3 := (h (i + (m + 1)) (by omega) (by omega)).2
  have a4 := (h (i + k) (by omega) (by omega)).2
  rw [show i + k + 1 + d = i + d + k + 1 by omega] at a1
  rw [show i + (m + 1) + d = i + d + (m + 1) by omega] at a3
  rw [show i + k + d = i + d + k by omega] at a4
  rw [show i + k + 1 + d = i + d + k + 1 by omega] at e2
  unfold via cst
  rw [e1, e2, a1, a2, a3, a4]
  omega
theorem lw_scale {S R : Nat → Int} {c : Int} (hc : 0 < c) : ∀ m i, lw (fun j => c * S j) (fun j => c * R j) i m = c * lw S R i m := by
  intro m
  induction m using Nat.strongRecOn with
  | ind m ih =>
    intro i
    cases m with
    | zero => rw [lw_zero, lw_zero, Int.mul_zero]
    | succ m =>
      have ev : ∀ k, k ≤ m → via (fun j => c * S j) (fun j => c * R j) i m k = c * via S R i m k := fun k hk => by
        unfold via cst
        rw [ih k (by omega), ih (m - k) (by omega)]
        simp only [Int.mul_add, Int.mul_sub]
      have er : rt (fun j => c * S j) (fun j => c * R j) i m = rt S R i m := amin_like fun j k hj hk => by
        rw [ev j hj, ev k hk]
        exact Int.mul_lt_mul_left hc
      rw [lw_succ, lw_succ, er]
      exact ev _ (rt_le _ _ _ _)
theorem rt_scale {S R : Nat → Int} {c : Int} (hc : 0 < c) (i m : Nat) : rt (fun j => c * S j) (fun j => c * R j) i m = rt S R i m :=
  amin_like fun j k hj hk => by
    have ev : ∀ k, k ≤ m → via (fun j => c * S j) (fun j => c * R j) i m k = c * via S R i m k := fun k hk => by
      unfold via cst
      rw [lw_scale hc, lw_scale hc]
      simp only [Int.mul_add, Int.mul_sub]
    rw [ev j hj, ev k hk]
    exact Int.mul_lt_mul_left hc
theorem lw_add {S R S' R' : Nat → Int} : ∀ m i, lw S R i m + lw S' R' i m ≤ lw (fun j => S j + S' j) (fun j => R j + R' j) i m := by
  intro m
  induction m using Nat.strongRecOn with
  | ind m ih =>
    intro i
    cases m with
    | zero => rw [lw_zero, lw_zero, lw_zero]; decide
    | succ m =>
      rw [lw_succ (fun j => S j + S' j)]
      generalize hk : rt (fun j => S j + S' j) (fun j => R j + R' j) i m = k
      have hk2 : k ≤ m := by rw [← hk]; exact rt_le _ _ _ _
      have h1 := lw_le S R i hk2
      have h2 := lw_le S' R' i hk2
      have h3 := ih k (by omega) i
      have h4 := ih (m - k) (by omega) (i + k + 1)
      unfold via cst at *
      dsimp only at *
      omega
def Mono (S : Nat → Int) : Prop := ∀ a b, a ≤ b → S a ≤ S b
theorem lw_nonneg {S R : Nat → Int} (hS : Mono S) (hR : Mono R) : ∀ m i, 0 ≤ lw S R i m := by
  intro m
  induction m using Nat.strongRecOn with
  | ind m ih =>
    intro i
    cases m with
    | zero => exact Int.le_refl _
    | succ m =>
      rw [lw_succ]
      have hk2 := rt_le S R i m
      generalize rt S R i m = k at hk2 ⊢
      have h3 := ih k (by omega) i
      have h4 := ih (m - k) (by omega) (i + k + 1)
      have h5 := hS i (i + k + 1) (by omega)
      have h6 := hR (i + k) (i + (m + 1)) (by omega)
      unfold via cst
      omega
theorem lw_last {S R : Nat → Int} (hS : Mono S) (hR : Mono R) : ∀ m i, lw S R i m + (S (i + m + 1) - S (i + m)) + (R (i + m + 1) - R (i + m)) ≤ lw S R i (m + 1) := by
  intro m
  induction m using Nat.strongRecOn with
  | ind m ih =>
    intro i
    rw [lw_succ]
    have hk2 := rt_le S R i m
    generalize rt S R i m = k at hk2 ⊢
    by_cases e : k = m
    · subst e
      unfold via cst
      rw [Nat.sub_self, lw_zero]
      have := hS i (i + k) (by omega)
      rw [show i + (k + 1) = i + k + 1 by omega]
      omega
    · obtain ⟨m', rfl⟩ : ∃ m', m = m' + 1 := ⟨m - 1, by omega⟩
      have h3 := ih (m' - k) (by omega) (i + k + 1)
      rw [show i + k + 1 + (m' - k) + 1 = i + (m' + 1) + 1 by omega, show i + k + 1 + (m' - k) = i + (m' + 1) by omega, show m' - k + 1 = m' + 1 - k by omega] at h3
      have h4 := lw_le S R i (show k ≤ m' by omega)
      have h5 := hR (i + (m' + 1)) (i + (m' + 1) + 1) (by omega)
      unfold via cst at *
      rw [show i + (m' + 1 + 1) = i + (m' + 1) + 1 by omega]
      omega
theorem lw_front {S R : Nat → Int} (hS : Mono S) (hR : Mono R) : ∀ m i, lw S R (i + 1) m ≤ lw S R i (m + 1) := by
  intro m
  induction m using Nat.strongRecOn with
  | ind m ih =>
    intro i
    rw [lw_succ S R i]
    have hk2 := rt_le S R i m
    generalize rt S R i m = k at hk2 ⊢
    cases k with
    | zero =>
      unfold via cst
      rw [lw_zero]
      have h5 := hS i (i + 0 + 1) (by omega)
      have h6 := hR (i + 0) (i + (m + 1)) (by omega)
      rw [Nat.sub_zero]
      rw [show i + 0 + 1 = i + 1 by omega] at *
      omega
    | succ k =>
      obtain ⟨m', rfl⟩ : ∃ m', m = m' + 1 := ⟨m - 1, by omega⟩
      have h3 := ih k (by omega) i
      have h4 := lw_le S R (i + 1) (show k ≤ m' by omega)
      have h5 := hS i (i + 1) (by omega)
      unfold via cst at *
      rw [show i + 1 + k + 1 = i + (k + 1) + 1 by omega, show i + 1 + (m' + 1) = i + (m' + 1 + 1) by omega, show i + 1 + k = i + (k + 1) by omega] at h4
      rw [show m' + 1 - (k + 1) = m' - k by omega]
      omega
theorem lw_join {S R : Nat → Int} (hS : Mono S) (hR : Mono R) {i m k : Nat} (h : k ≤ m) : lw S R i m ≤ lw S R i k + lw S R (i + k) (m - k) + (S (i + k) - S i + R (i + m) - R (i + k)) := by
  cases k with
  | zero =>
    rw [lw_zero, Nat.sub_zero, Nat.add_zero]
    have := hR i (i + m) (by omega)
    omega
  | succ k =>
    obtain ⟨m', rfl⟩ : ∃ m', m = m' + 1 := ⟨m - 1, by omega⟩
    have h1 := lw_last hS hR k i
    have h2 := lw_le S R i (show k ≤ m' by omega)
    have h3 := hS (i + k) (i + k + 1) (by omega)
    unfold via cst at h2
    rw [show m' + 1 - (k + 1) = m' - k by omega, show i + (k + 1) = i + k + 1 by omega]
    omega
def insS (S : Nat → Int) (p : Nat) : Nat → Int := fun j => if j ≤ p then S j else S (j - 1)
theorem lw_before {S R : Nat → Int} {p i m : Nat} (h : i + m ≤ p) : lw (insS S p) (insS R p) i m = lw S R i m := by
  refine (lw_shift (S := insS S p) (R := insS R p) (S' := S) (R' := R) (d := 0) (c := 0) (c' := 0) m i fun j h1 h2 => ?_).1
  unfold insS
  rw [if_pos (by omega), if_pos (by omega)]
  simp
theorem lw_behind {S R : Nat → Int} {p i m : Nat} (h : p < i) : lw S R (i - 1) m = lw (insS S p) (insS R p) i m := by
  have := (lw_shift (S := S) (R := R) (S' := insS S p) (R' := insS R p) (d := 1) (c := 0) (c' := 0) m (i - 1) fun j h1 h2 => ?_).1
  · rw [this, show i - 1 + 1 = i by omega]
  · unfold insS
    rw [if_neg (by omega), if_neg (by omega)]
    simp
theorem lw_ins {S R : Nat → Int} (hS : Mono S) (hR : Mono R) {p : Nat} : ∀ m i, i ≤ p → p ≤ i + m → lw S R i m ≤ lw (insS S p) (insS R p) i (m + 1) := by
  intro m
  induction m using Nat.strongRecOn with
  | ind m ih =>
    intro i hi hp
    rw [lw_succ (insS S p)]
    have hk2 := rt_le (insS S p) (insS R p) i m
    generalize rt (insS S p) (insS R p) i m = k at hk2 ⊢
    have sL : ∀ {F : Nat → Int} {j : Nat}, j ≤ p → insS F p j = F j := fun h => if_pos h
    have sR : ∀ {F : Nat → Int} {j : Nat}, p < j → insS F p j = F (j - 1) := fun h => if_neg (by omega)
    rcases Nat.lt_trichotomy (i + k) p with h | h | h
    · obtain ⟨m', rfl⟩ : ∃ m', m = m' + 1 := ⟨m - 1, by omega⟩
      have h1 := ih (m' - k) (by omega) (i + k + 1) (by omega) (by omega)
      rw [show m' - k + 1 = m' + 1 - k by omega] at h1
      have h2 := lw_le S R i (show k ≤ m' by omega)
      unfold via cst at *
      rw [lw_before (by omega), sL (F := S) (j := i + k + 1) (by omega), sL (F := S) (j := i) (by omega), sR (F := R) (j := i + (m' + 1 + 1)) (by omega), sL (F := R) (j := i + k) (by omega), show i + (m' + 1 + 1) - 1 = i + (m' + 1) by omega]
      omega
    · have h1 := lw_join hS hR (i := i) (m := m) (k := k) hk2
      unfold via cst
      rw [lw_before (by omega), ← lw_behind (by omega), sR (F := S) (j := i + k + 1) (by omega), sL (F := S) (j := i) (by omega), sR (F := R) (j := i + (m + 1)) (by omega), sL (F := R) (j := i + k) (by omega), show i + (m + 1) - 1 = i + m by omega, show i + k + 1 - 1 = i + k by omega]
      omega
    · obtain ⟨k', rfl⟩ : ∃ k', k = k' + 1 := ⟨k - 1, by omega⟩
      obtain ⟨m', rfl⟩ : ∃ m', m = m' + 1 := ⟨m - 1, by omega⟩
      have h1 := ih k' (by omega) i (by omega) (by omega)
      have h2 := lw_le S R i (show k' ≤ m' by omega)
      unfold via cst at *
      rw [← lw_behind (p := p) (i := i + (k' + 1) + 1) (by omega), sR (F := S) (j := i + (k' + 1) + 1) (by omega), sL (F := S) (j := i) (by omega), sR (F := R) (j := i + (m' + 1 + 1)) (by omega), sR (F := R) (j := i + (k' + 1)) (by omega), show i + (m' + 1 + 1) - 1 = i + (m' + 1) by omega, show i + (k' + 1) + 1 - 1 = i + k' + 1 by omega, show i + (k' + 1) - 1 = i + k' by omega, show m' + 1 - (k' + 1) = m' - k' by omega]
      omega
/-- sums of the first ones -/
def sm (l : List Int) (k : Nat) : Int := (l.take k).sum
theorem sm_zero (l : List Int) : sm l 0 = 0 := by simp [sm]
theorem sm_succ {l : List Int} {k : Nat} {x : Int} (h : l[k]? = some x) : sm l (k + 1) = sm l k + x := by
  unfold sm
  rw [List.take_add_one, h, Option.toList_some, List.sum_append]
  simp
theorem sm_mono {l : List Int} (h : ∀ x, x ∈ l → 0 ≤ x) : Mono (sm l) := by
  intro a b hab
  induction b with
  | zero => have : a = 0 := by omega
            subst this; exact Int.le_refl _
  | succ b ih =>
    by_cases e : a = b + 1
    · rw [e]; exact Int.le_refl _
    · have h1 := ih (by omega)
      cases hx : l[b]? with
      | none =>
        have : sm l (b + 1) = sm l b := by
          unfold sm
          rw [List.take_add_one, hx]
          simp
        omega
      | some x =>
        have := h x (List.mem_of_getElem? hx)
        rw [sm_succ hx]
        omega
end MB

set_option maxHeartbeats 4000000
namespace MB
open PySem PySem.Spec PyProof.Rows L2
/-! ### min of a list of pairs of ints -/
def dP (p : Int × Int) : PyData := .tuple [.int p.1, .int p.2]
theorem dP_toD (p : Int × Int) : PySem.W.Datum.toD p = dP p := rfl
theorem dP_map (ps : List (Int × Int)) : ps.map PySem.W.Datum.toD = ps.map dP := rfl
theorem depth_dP : ∀ ps : List (Int × Int), PyData.depthAll (ps.map dP) ≤ 1
  | [] => by simp [PyData.depthAll]
  | p :: ps => by
    have := depth_dP ps
    simp only [List.map_cons, PyData.depthAll, dP, PyData.depth] at *
    omega
theorem vals_at : ∀ {xs : List V} {its : List Value}, Vals xs its → ∀ {i : Nat} {v : Value}, its[i]? = some v → ∃ x, xs[i]? = some x ∧ RelV x v
  | _, _, .nil, i, v, h => by simp at h
  | _, _, .cons r rr, 0, v, h => by
    simp at h
    subst h
    exact ⟨_, rfl, r⟩
  | _, _, .cons r rr, i + 1, v, h => by
    obtain ⟨x, h1, h2⟩ := vals_at rr (i := i) (v := v) (by simpa using h)
    exact ⟨x, by simpa using h1, h2⟩
def rMinP (K : PySem.W.Frag) : List V → Hp → VK → Prop := fun xs H Q => ∃ (a : Addr) (us : List V) (p : Int × Int) (ps : List (Int × Int)), xs = [V.ref a] ∧ SqL K H a us ∧ DpAll K H us ((p :: ps).map dP) ∧ ∀ b, SqT K H b [V.int (PySem.W.minOf p ps).1, V.int (PySem.W.minOf p ps).2] → Q (.ref b) H
theorem minOf_mem (p : Int × Int) : ∀ ps : List (Int × Int), PySem.W.minOf p ps ∈ p :: ps := by
  intro ps
  unfold PySem.W.minOf
  induction ps generalizing p with
  | nil => simp
  | cons q ps ih =>
    rw [List.foldl_cons]
    have := ih (if PySem.W.DatumOrd.lt q p = true then q else p)
    rcases List.mem_cons.mp this with h | h
    · rw [h]
      split <;> simp
    · exact List.mem_cons_of_mem _ (List.mem_cons_of_mem _ h)
theorem cr_minP {X : Cx} {K : PySem.W.Frag} (hK : X.K = K) (hc : X.calm = true) (hu : X.A.units + 64 < cLine) : CallR X (.builtin "min") (rMinP K) := by
  subst hK
  intro pins s σ H vs us Q I r h
  obtain ⟨a, xs, p, ps, rfl, hs, hA, q⟩ := h
  obtain ⟨its, rv, hl, _⟩ := I.list hs
  rw [Vals.ref1 r]
  obtain ⟨as, rd⟩ := Dp.readsAll I _ _ its hA rv
  refine PySem.W.min_list_data (x := dP p) (xs := ps.map dP) (I.ok.hd hc) hl.isList (by simpa using rd) (PySem.W.alikeAll_datum (p :: ps)) ?_ fun i v h' tk bs hv hr hk => ?_
  · have := depth_dP (p :: ps)
    rw [List.map_cons] at this
    omega
  · have e := PySem.W.minD_map p ps
    rw [dP_map, dP_toD] at e
    rw [e, dP_toD] at hr
    generalize hm : PySem.W.minOf p ps = m at hr q
    obtain ⟨x, hx, rx⟩ := vals_at rv (i := i) (v := v) (by simpa using hv)
    have hi : i < ((p :: ps).map dP).length := by
      rw [← DpAll.len hA]
      exact (List.getElem?_eq_some_iff.mp hx).1
    obtain ⟨y, hy, hD⟩ := DpAll.get hA (List.getElem?_eq_getElem hi)
    rw [hx] at hy
    cases hy
    rw [List.getElem_map] at hD
    generalize (p :: ps)[i]'_ = pr at hD
    obtain ⟨m1, m2⟩ := m
    obtain ⟨n1, n2⟩ := pr
    obtain ⟨b, ys, rfl, hS, hB⟩ := Dp.tupInv hD
    have ey := dp_ints_inv (ns := [n1, n2]) hB
    subst ey
    cases rx
    obtain ⟨jts, rj, ho, _⟩ := I.tuple hS
    obtain ⟨o, ho1, ho2, n, ho3⟩ := ho
    have ho4 := hk _ _ ho1
    cases hr with
    | tuple g1 g2 g3 g4 =>
      rw [ho4] at g1
      cases g1
      rw [ho3] at g3
      cases g3
      cases rj with
      | cons r1 r2 =>
        cases r2 with
        | cons r3 r4 =>
          cases r4
          obtain ⟨t1, rfl⟩ := r1
          obtain ⟨t2, rfl⟩ := r3
          have e2 : (m1, m2) = (n1, n2) := by
            cases g4 with
            | cons k1 k2 =>
              cases k2 with
              | cons k3 k4 =>
                cases k1
                cases k3
                rfl
          refine ⟨.ref b, H, I.kept hk, rfl, q b ?_⟩
          rw [e2]
          exact hS
/-- the least pair, if the second ones ascend by one -/
theorem minOf_amin (f : Nat → Int) (b : Nat) : ∀ n, PySem.W.minOf (f 0, (b : Int)) ((List.range n).map fun j => (f (j + 1), ((b + (j + 1) : Nat) : Int))) = (f (amin f n), ((b + amin f n : Nat) : Int))
  | 0 => rfl
  | n + 1 => by
    have ih := minOf_amin f b n
    unfold PySem.W.minOf at ih ⊢
    rw [List.range_succ, List.map_append, List.foldl_append, ih]
    show (if (if f (n + 1) = f (amin f n) then decide (((b + (n + 1) : Nat) : Int) < ((b + amin f n : Nat) : Int)) else decide (f (n + 1) < f (amin f n))) = true then (f (n + 1), ((b + (n + 1) : Nat) : Int)) else (f (amin f n), ((b + amin f n : Nat) : Int))) = _
    have hl := amin_le f n
    have ea : amin f (n + 1) = if f (n + 1) < f (amin f n) then n + 1 else amin f n := rfl
    rw [ea]
    generalize amin f n = c at hl ⊢
    by_cases h1 : f (n + 1) = f c
    · rw [if_pos h1, if_neg (by simp; omega), if_neg (by omega)]
    · rw [if_neg h1]
      by_cases h2 : f (n + 1) < f c
      · rw [if_pos (by simpa using h2), if_pos h2]
      · rw [if_neg (by simpa using h2), if_neg h2]
/-! ### an index of a list or a tuple -/
def SqQ (K : PySem.W.Frag) (H : Hp) (a : Addr) (xs : List V) : Prop := SqL K H a xs ∨ SqT K H a xs
def rIxQ (K : PySem.W.Frag) : R2 := fun x y H Q => ∃ p xs i v, x = .ref p ∧ y = .int i ∧ SqQ K H p xs ∧ atI xs i = some v ∧ Q v H
theorem k_ixQ {X : Cx} {K : PySem.W.Frag} (hK : X.K = K) : IxR X (rIxQ K) := by
  subst hK
  intro value slice pins s σ H x y v u Q I rx ry h hs
  obtain ⟨p, xs, i, w, rfl, rfl, hq, ha, q⟩ := h
  rcases hq with hq | hq
  · exact ix_list value slice pins s σ H _ _ v u Q I rx ry ⟨p, xs, i, w, rfl, rfl, hq, ha, q⟩ hs
  · exact ix_tup value slice pins s σ H _ _ v u Q I rx ry ⟨p, xs, i, w, rfl, rfl, hq, ha, q⟩ hs
/-! ### zip of two tuples -/
theorem walk_zipT {K : PySem.W.Frag} {a b : Addr} {xs ys : List V} {n : Nat} (hn : n = min xs.length ys.length) : Walk (RZ.ItzT K a b) n (fun H => SqT K H a xs ∧ SqT K H b ys) (YPair (fun i => xs[i]?) (fun i => ys[i]?)) := by
  refine ⟨fun i H hi ⟨qx, qy⟩ => ⟨xs, ys, xs[i]'(by omega), ys[i]'(by omega), qx, qy, List.getElem?_eq_getElem (by omega), List.getElem?_eq_getElem (by omega)⟩, fun H ⟨qx, qy⟩ => ⟨xs, ys, qx, qy, by omega⟩, fun i H v H' hi ⟨qx, qy⟩ y => ?_⟩
  obtain ⟨T, u, z, e1, e2, e3, e4, e5⟩ := y
  exact ⟨T, u, z, e1, e2, e3, e4 xs qx, e5 ys qy⟩
end MB

set_option maxHeartbeats 4000000
namespace MB
open PySem PySem.Spec PyProof.Rows L2
/-! ### dicts whose keys are tuples of ints, by the data of the keys -/
abbrev KX := List (List Int × Addr × V)
def RX : KX → List (List Int × Addr × Value) → Prop := Paired fun p q => p.1 = q.1 ∧ p.2.1 = q.2.1 ∧ RelV p.2.2 q.2.2
def kvX (L : KX) : List (List Int × V) := L.map fun x => (x.1, x.2.2)
def putX (L : KX) (k : List Int) (b : Addr) (v : V) : KX :=
  if ((kvX L).any fun kv => decide (kv.1 = k)) = true then L.map (fun x => if x.1 = k then (x.1, x.2.1, v) else x) else L ++ [(k, b, v)]
theorem kvX_put (L : KX) (k : List Int) (b : Addr) (v : V) : kvX (putX L k b v) = putK (kvX L) k v := by
  unfold putX putK
  split
  · unfold kvX
    rw [List.map_map, List.map_map]
    refine List.map_congr_left fun x _ => ?_
    by_cases h : x.1 = k <;> simp [h]
  · simp [kvX]
theorem putX_key {L : KX} {k : List Int} {b : Addr} {v : V} {x : List Int × Addr × V} (h : x ∈ putX L k b v) : (∃ y ∈ L, x.1 = y.1 ∧ x.2.1 = y.2.1) ∨ (x.1 = k ∧ x.2.1 = b) := by
  unfold putX at h
  split at h
  · obtain ⟨y, hy, rfl⟩ := List.mem_map.mp h
    refine .inl ⟨y, hy, ?_⟩
    split <;> exact ⟨rfl, rfl⟩
  · rcases List.mem_append.mp h with h | h
    · exact .inl ⟨x, h, rfl, rfl⟩
    · simp only [List.mem_singleton] at h
      subst h
      exact .inr ⟨rfl, rfl⟩
theorem RX.val {L : KX} {xs : List (List Int × Addr × Value)} (r : RX L xs) (k : List Int) : RelO (valV (kvX L) k) ((atKey xs k).map (·.2)) := by
  unfold RX at r
  induction r with
  | nil => exact True.intro
  | @cons p q ps qs h t ih =>
    obtain ⟨h1, _, h2⟩ := h
    show RelO (valV ((p.1, p.2.2) :: kvX ps) k) _
    by_cases e : p.1 = k
    · have e' : q.1 = k := h1.symm.trans e
      have b : atKey (q :: qs) k = some q.2 := by simp [atKey, List.find?_cons, e']
      rw [valV_pos (p := (p.1, p.2.2)) e, b]; exact h2
    · have e' : ¬ q.1 = k := fun z => e (h1.trans z)
      have b : atKey (q :: qs) k = atKey qs k := by simp [atKey, List.find?_cons, e']
      rw [valV_neg (p := (p.1, p.2.2)) e, b]; exact ih
theorem RX.repl {L : KX} {xs : List (List Int × Addr × Value)} (r : RX L xs) (k : List Int) {y : V} {u : Value} (ry : RelV y u) :
    RX (L.map fun x => if x.1 = k then (x.1, x.2.1, y) else x) (xs.map (putAt k u)) := by
  unfold RX at r ⊢
  induction r with
  | nil => exact .nil
  | @cons p q ps qs h t ih =>
    rw [List.map_cons, List.map_cons]
    refine .cons ?_ ih
    obtain ⟨h1, h2, h3⟩ := h
    unfold putAt
    by_cases e : p.1 = k
    · rw [if_pos e, if_pos (h1.symm.trans e)]; exact ⟨h1, h2, ry⟩
    · rw [if_neg e, if_neg (fun z => e (h1.trans z))]; exact ⟨h1, h2, h3⟩
theorem RX.put {L : KX} {xs : List (List Int × Addr × Value)} (r : RX L xs) (k : List Int) {b : Addr} {y : V} {u : Value} (ry : RelV y u) : RX (putX L k b y) (storedH xs k b u) := by
  have e : ((kvX L).any fun kv => decide (kv.1 = k)) = (atKey xs k).isSome := by
    rw [valV_any, (r.val k).isSome_eq, Option.isSome_map]
  unfold putX storedH
  rw [e]
  by_cases q : (atKey xs k).isSome = true
  · rw [if_pos q, if_pos q]; exact r.repl k ry
  · rw [if_neg q, if_neg q]; exact Paired.snoc r ⟨rfl, rfl, ry⟩
theorem RX.len {L : KX} {xs : List (List Int × Addr × Value)} (r : RX L xs) : L.length = xs.length := Paired.length r
theorem kvX_len (L : KX) : (kvX L).length = L.length := by simp [kvX]
def DX0 (P : Program) (w : World) (h : Heap) (d : Addr) (L : KX) : Prop := L.length ≤ sizeLine ∧ (d == sysModules) = false ∧ ∃ xs, RX L xs ∧
  ∃ o es ep, h.get? d = some o ∧ o.ExactDict ∧ o.data = .dict es ep ∧ es.toList = xs.map (entryOfKey (tupleKind (intKind P w))) ∧ (xs.map (·.1)).Nodup
def DXO (P : Program) (w : World) (d : Addr) (L : KX) : HO := .ext fun h => DX0 P w h d L
theorem dx_new {P : Program} {w : World} {H : Hp} {h : Heap} {d : Addr} {L : KX} (R : DX0 P w h d L) : ObjOk P w H h d (DXO P w d L) := by
  have ⟨z, y, xs, r, o, es, ep, ho, q⟩ := R
  refine ⟨R, ⟨o, ho⟩, fun h1 h2 p k => ?_⟩
  have ⟨z', y', xs', r', o', es', ep', ho', q'⟩ := p
  exact ⟨z', y', xs', r', o', es', ep', k o' ho', q'⟩
/-- at d stands a dict with the keys and values kvs -/
def DN (K : PySem.W.Frag) (P : Program) (w : World) (H : Hp) (d : Addr) (kvs : List (List Int × V)) : Prop :=
  ∃ L : KX, H d = some (DXO P w d L) ∧ (∀ x ∈ L, SqT K H x.2.1 (x.1.map V.int)) ∧ kvX L = kvs
theorem DN.same {K : PySem.W.Frag} {P : Program} {w : World} {H H' : Hp} {d : Addr} {kvs : List (List Int × V)} (g : DN K P w H d kvs) (s : Same H H') : DN K P w H' d kvs := by
  obtain ⟨L, h1, h2, h3⟩ := g
  exact ⟨L, s _ _ h1, fun x hx => Same.tup s (h2 x hx), h3⟩
theorem DN.keep {K : PySem.W.Frag} {P : Program} {w : World} {H H' : Hp} {d : Addr} {kvs : List (List Int × V)} (g : DN K P w H d kvs) (s : Keep K H H') (e : ∀ o, H d = some o → H' d = some o) : DN K P w H' d kvs := by
  obtain ⟨L, h1, h2, h3⟩ := g
  exact ⟨L, e _ h1, fun x hx => s _ _ (h2 x hx), h3⟩
/-- what is not at d stays, tuples stay -/
theorem keep_updX {K : PySem.W.Frag} {P : Program} {w : World} {H : Hp} {d : Addr} {L L' : KX} (h : H d = some (DXO P w d L)) : Keep K H (upd H d (DXO P w d L')) := fun a xs hs => by
  rcases hs with (hs | ⟨o, hs⟩) | hs
  · exact .inl (.inl (by rw [upd_ne (fun e => by rw [e, h] at hs; cases hs)]; exact hs))
  · exact .inl (.inr ⟨o, by rw [upd_ne (fun e => by rw [e, h] at hs; cases hs)]; exact hs⟩)
  · exact .inr hs
section
variable {X : Cx} {pins : List (Addr × Obj)} {σ : L2.St} {H : Hp} {s : Shared} {d a b : Addr} {kvs : List (List Int × V)} {k : List Int} {A : Around} {E : Value → Shared → Prop}
theorem DN.at (I : Inv X pins σ H s) (g : DN X.K X.prog X.w H d kvs) : (d == sysModules) = false ∧ ∃ (L : KX) (xs : List (List Int × Addr × Value)), H d = some (DXO X.prog X.w d L) ∧ (∀ x ∈ L, SqT X.K H x.2.1 (x.1.map V.int)) ∧ kvX L = kvs ∧ RX L xs ∧ L.length ≤ sizeLine ∧ s.heap.DictOfH (tupleKind (intKind X.prog X.w)) d xs := by
  obtain ⟨L, h1, h2, h3⟩ := g
  obtain ⟨⟨z, y, xs, r, o, es, ep, ho, hc, hd, he, hn⟩, _⟩ := (show ObjOk X.prog X.w H s.heap d (DXO X.prog X.w d L) from I.hok d _ h1)
  refine ⟨y, L, xs, h1, h2, h3, r, z, o, es, ep, ho, hc, hd, he, ?_, hn⟩
  have all : ∀ {l : KX} {m : List (List Int × Addr × Value)}, RX l m → (∀ x ∈ l, SqT X.K H x.2.1 (x.1.map V.int)) → ∀ x ∈ m, (tupleKind (intKind X.prog X.w)).is s.heap x.1 x.2.1 := by
    intro l m q
    unfold RX at q
    induction q with
    | nil => intro _ x hx; exact nomatch hx
    | @cons p q ps qs hq t ih =>
      intro hl x hx
      rcases List.mem_cons.mp hx with e | hx
      · subst e
        have := I.isT (hl p (List.mem_cons_self ..))
        rw [hq.1, hq.2.1] at this
        exact this
      · exact ih (fun x hx => hl x (List.mem_cons_of_mem _ hx)) x hx
  exact all r h2
theorem DN.typeIs (I : Inv X pins σ H s) (g : DN X.K X.prog X.w H d kvs) : s.TypeIs (.ref d) "dict" := by
  obtain ⟨_, _, _, _, _, _, _, _, dd⟩ := g.at I
  exact dd.typeIs
theorem DN.noDict (I : Inv X pins σ H s) (g : DN X.K X.prog X.w H d kvs) : ∀ b, Value.ref d = .ref b → ∃ ob, s.heap.get? b = some ob ∧ ob.dict = none := fun b q => by
  cases q
  obtain ⟨_, _, _, _, _, _, _, _, ob, _, _, h1, h2, _⟩ := g.at I
  exact ⟨ob, h1, h2.2.1⟩
theorem n_getItem {v : V} {Q : Value → Shared → Prop} (hu : A.units + 1 < cLine) (I : Inv X pins σ H s) (g : DN X.K X.prog X.w H d kvs) (hk : SqT X.K H b (k.map V.int)) (hv : valV kvs k = some v) (h : ∀ w' s', Inv X pins σ H s' → RelV v w' → Q w' s') :
    wpAny (model X.prog X.w) A (getItem (.ref d) (.ref b)) Q E s := by
  obtain ⟨hd, L, xs, _, _, e, r, _, dd⟩ := g.at I
  obtain ⟨w', hw, rw'⟩ := RelO.some_of (v := v) (o := (atKey xs k).map (·.2)) (by rw [← hv, ← e]; exact r.val k)
  obtain ⟨p, hp, hp2⟩ := Option.map_eq_some_iff.mp hw
  refine wpAny_getItem_heap (tupleKind_room_in1 hu) (I.isT hk) dd hp ?_
  rw [hp2]
  exact h w' _ (I.tok _) rw'
theorem n_in {Q : Value → Shared → Prop} (hu : A.units + 1 < cLine) (I : Inv X pins σ H s) (g : DN X.K X.prog X.w H d kvs) (hk : SqT X.K H b (k.map V.int)) (h : ∀ s', Inv X pins σ H s' → Q (.bool (valV kvs k).isSome) s') :
    wpAny (model X.prog X.w) A (compareOp .In (.ref b) (.ref d)) Q E s := by
  obtain ⟨hd, L, xs, _, _, e, r, _, dd⟩ := g.at I
  refine wpAny_in_heap (tupleKind_room_in1 hu) (I.isT hk) hd dd ?_
  have q := (r.val k).isSome_eq
  rw [Option.isSome_map, e] at q
  rw [← q]
  exact h _ (I.tok _)
theorem n_notIn {Q : Value → Shared → Prop} (hu : A.units + 1 < cLine) (I : Inv X pins σ H s) (g : DN X.K X.prog X.w H d kvs) (hk : SqT X.K H b (k.map V.int)) (h : ∀ s', Inv X pins σ H s' → Q (.bool (!(valV kvs k).isSome)) s') :
    wpAny (model X.prog X.w) A (compareOp .NotIn (.ref b) (.ref d)) Q E s := by
  obtain ⟨hd, L, xs, _, _, e, r, _, dd⟩ := g.at I
  refine wpAny_notIn_heap (tupleKind_room_in1 hu) (I.isT hk) hd dd ?_
  have q := (r.val k).isSome_eq
  rw [Option.isSome_map, e] at q
  rw [← q]
  exact h _ (I.tok _)
theorem n_get1 {Q : Value → Shared → Prop} (hu : A.units + 1 < cLine) (I : Inv X pins σ H s) (g : DN X.K X.prog X.w H d kvs) (hk : SqT X.K H b (k.map V.int)) (h : ∀ w' s', Inv X pins σ H s' → RelV ((valV kvs k).getD .non) w' → Q w' s') :
    wpAny (model X.prog X.w) A (call (.builtin "dict.get") [.ref d, .ref b]) Q E s := by
  obtain ⟨hd, L, xs, _, _, e, r, _, dd⟩ := g.at I
  refine call_meetsIn PySem.F.slot_dict_get dd.typeIs PySem.F.entry_dict_get (PySem.F.args_dict_get_2 _ _) (meetsH_dict_get (tupleKind (intKind X.prog X.w)) d b hd) ⟨tupleKind_room_in1 hu, k, xs, I.isT hk, dd, h _ _ (I.tok _) ?_⟩
  rw [← e]
  exact (r.val k).getD rfl
theorem n_get2 {z : V} {u : Value} {Q : Value → Shared → Prop} (hu : A.units + 1 < cLine) (I : Inv X pins σ H s) (g : DN X.K X.prog X.w H d kvs) (hk : SqT X.K H b (k.map V.int)) (rz : RelV z u) (h : ∀ w' s', Inv X pins σ H s' → RelV ((valV kvs k).getD z) w' → Q w' s') :
    wpAny (model X.prog X.w) A (call (.builtin "dict.get") [.ref d, .ref b, u]) Q E s := by
  obtain ⟨hd, L, xs, _, _, e, r, _, dd⟩ := g.at I
  refine call_meetsIn PySem.F.slot_dict_get dd.typeIs PySem.F.entry_dict_get (PySem.F.args_dict_get_3 _ _ _) (meetsH_dict_get_default (tupleKind (intKind X.prog X.w)) d b hd u) ⟨tupleKind_room_in1 hu, k, xs, I.isT hk, dd, h _ _ (I.tok _) ?_⟩
  rw [← e]
  exact (r.val k).getD rz
/-- the heaps behind d[k] = v -/
def DNput (K : PySem.W.Frag) (P : Program) (w : World) (H : Hp) (d : Addr) (kvs : List (List Int × V)) (k : List Int) (v : V) (R : Hp → Prop) : Prop :=
  ∀ H', (∀ c, c ≠ d → H' c = H c) → Keep K H H' → DN K P w H' d (putK kvs k v) → R H'
theorem n_setItem {v : V} {u : Value} {Q : Unit → Shared → Prop} (hu : A.units + 1 < cLine) (I : Inv X pins σ H s) (g : DN X.K X.prog X.w H d kvs) (hk : SqT X.K H b (k.map V.int)) (hl : kvs.length < sizeLine) (rv : RelV v u) (h : DNput X.K X.prog X.w H d kvs k v fun H' => ∀ s', Inv X pins σ H' s' → Q () s') :
    wpAny (model X.prog X.w) A (setItem (.ref d) (.ref b) u) Q E s := by
  obtain ⟨hd, L, xs, hL, hS, e, r, z, dd⟩ := g.at I
  have hz : xs.length ≤ sizeLine := by rw [← r.len]; exact z
  have hl2 : (putX L k b v).length ≤ sizeLine := by
    have := length_putK kvs k v
    rw [← kvX_len, kvX_put, e]
    omega
  have kp := keep_updX (K := X.K) (L' := putX L k b v) hL
  refine wpAny_setItem_heap (hsz := hz) (tupleKind_room_in1 hu) (I.isT hk) dd fun h' dd' hs => ?_
  obtain ⟨q, es, ep, hq, h2, h3, h4, _, h5⟩ := dd'
  refine h _ (fun c hc => upd_ne hc) kp ⟨putX L k b v, upd_same, fun x hx => ?_, by rw [kvX_put, e]⟩ _ (d_write I (by rw [hL]; exact True.intro) hs ⟨q, hq⟩ (dx_new ⟨hl2, hd, _, r.put k rv, q, es, ep, hq, h2, h3, h4, h5⟩))
  rcases putX_key hx with ⟨y, hy, e1, e2⟩ | ⟨e1, e2⟩
  · rw [e1, e2]; exact kp _ _ (hS y hy)
  · rw [e1, e2]; exact kp _ _ hk
end
/-! ### readings -/
def tNGet (K : PySem.W.Frag) (P : Program) (w : World) (td ty : TE) : TE := fun σ H Q => td σ H fun x H1 => ty σ H1 fun y H2 => ∃ a b kvs k v, x = .ref a ∧ y = .ref b ∧ DN K P w H2 a kvs ∧ SqT K H2 b (k.map V.int) ∧ valV kvs k = some v ∧ Q v H2
def tNIn (K : PySem.W.Frag) (P : Program) (w : World) (ty td : TE) : TE := fun σ H Q => ty σ H fun y H1 => td σ H1 fun x H2 => ∃ a b kvs k, x = .ref a ∧ y = .ref b ∧ DN K P w H2 a kvs ∧ SqT K H2 b (k.map V.int) ∧ Q (.bl (valV kvs k).isSome) H2
def tNNotIn (K : PySem.W.Frag) (P : Program) (w : World) (ty td : TE) : TE := fun σ H Q => ty σ H fun y H1 => td σ H1 fun x H2 => ∃ a b kvs k, x = .ref a ∧ y = .ref b ∧ DN K P w H2 a kvs ∧ SqT K H2 b (k.map V.int) ∧ Q (.bl (!(valV kvs k).isSome)) H2
def sNPut (K : PySem.W.Frag) (P : Program) (w : World) (td ty tv : TE) : TS := fun D σ H => tv σ H fun v H1 => td σ H1 fun x H2 => ty σ H2 fun y H3 => ∃ a b kvs k, x = .ref a ∧ y = .ref b ∧ DN K P w H3 a kvs ∧ SqT K H3 b (k.map V.int) ∧ kvs.length < sizeLine ∧ DNput K P w H3 a kvs k v fun H' => D.nx σ H'
def tNGet1 (K : PySem.W.Frag) (P : Program) (w : World) (td ty : TE) : TE := fun σ H Q => td σ H fun x H1 => ∃ a kvs, x = .ref a ∧ DN K P w H1 a kvs ∧ ty σ H1 fun y H2 => ∃ b k, y = .ref b ∧ DN K P w H2 a kvs ∧ SqT K H2 b (k.map V.int) ∧ Q ((valV kvs k).getD .non) H2
def tNGet2 (K : PySem.W.Frag) (P : Program) (w : World) (td ty tx : TE) : TE := fun σ H Q => td σ H fun x H1 => ∃ a kvs, x = .ref a ∧ DN K P w H1 a kvs ∧ ty σ H1 fun y H2 => tx σ H2 fun z H3 => ∃ b k, y = .ref b ∧ DN K P w H3 a kvs ∧ SqT K H3 b (k.map V.int) ∧ Q ((valV kvs k).getD z) H3
section
variable {X : Cx} {K : PySem.W.Frag} {P : Program} {w : World} {o i e f value : Expr} {pos pos' tpos apos cpos : Pos} {td ty tv tx : TE}
theorem pe_nget (hK : X.K = K) (hP : X.prog = P) (hw : X.w = w) (hu : X.A.units + 1 < cLine) (ho : PE X o td) (hi : PE X i ty) (hs : NoSl i) : PE X (.Subscript o i pos) (tNGet K P w td ty) := by
  subst hK hP hw
  refine ⟨fun pins s σ H Q I h => ?_⟩
  refine subD_of PySem.F.slot_dict_getitem.lookup hs (thn (ho.run pins s σ H _ I h) fun u s1 ⟨x, H1, I1, rx, q1⟩ => thn (hi.run pins s1 σ H1 _ I1 q1) fun iv s2 ⟨y, H2, I2, ry, a, b, kvs, k, v, ex, ey, g, hk, hv, q2⟩ => ?_)
  subst ex ey
  obtain rfl : u = Value.ref a := rx
  obtain rfl : iv = Value.ref b := ry
  exact ⟨g.typeIs I2, n_getItem hu I2 g hk hv fun w' s3 I3 rw' => ⟨v, H2, I3, rw', q2⟩⟩
theorem pc_nin (hK : X.K = K) (hP : X.prog = P) (hw : X.w = w) (hu : X.A.units + 1 < cLine) (hi : PE X i ty) (ho : PE X o td) : PC X .In i o (tNIn K P w ty td) := by
  subst hK hP hw
  refine ⟨fun pins s σ H Q I h => ?_⟩
  refine thn (hi.run pins s σ H _ I h) fun iv s1 ⟨y, H1, I1, ry, q1⟩ => thn (ho.run pins s1 σ H1 _ I1 q1) fun u s2 ⟨x, H2, I2, rx, a, b, kvs, k, ex, ey, g, hk, q2⟩ => ?_
  subst ex ey
  obtain rfl : u = Value.ref a := rx
  obtain rfl : iv = Value.ref b := ry
  exact n_in hu I2 g hk fun s3 I3 => ⟨.bl _, H2, I3, rfl, q2⟩
theorem pc_nnotin (hK : X.K = K) (hP : X.prog = P) (hw : X.w = w) (hu : X.A.units + 1 < cLine) (hi : PE X i ty) (ho : PE X o td) : PC X .NotIn i o (tNNotIn K P w ty td) := by
  subst hK hP hw
  refine ⟨fun pins s σ H Q I h => ?_⟩
  refine thn (hi.run pins s σ H _ I h) fun iv s1 ⟨y, H1, I1, ry, q1⟩ => thn (ho.run pins s1 σ H1 _ I1 q1) fun u s2 ⟨x, H2, I2, rx, a, b, kvs, k, ex, ey, g, hk, q2⟩ => ?_
  subst ex ey
  obtain rfl : u = Value.ref a := rx
  obtain rfl : iv = Value.ref b := ry
  exact n_notIn hu I2 g hk fun s3 I3 => ⟨.bl _, H2, I3, rfl, q2⟩
theorem ps_nput (hK : X.K = K) (hP : X.prog = P) (hw : X.w = w) (hu : X.A.units + 1 < cLine) (ho : PE X o td) (hi : PE X i ty) (hv : PE X value tv) (hs : swapsWith value (some (.Subscript o i pos')) pos.line X.env = pure false) :
    PS X (.Assign [.Subscript o i pos'] value pos) (sNPut K P w td ty tv) := by
  subst hK hP hw
  refine ⟨fun pins s σ H D I h => ?_⟩
  refine wpAny_Assign_Subscript (thn (hv.run pins s σ H _ I h) fun r s1 ⟨v, H1, I1, rv, q1⟩ => thn (ho.run pins s1 σ H1 _ I1 q1) fun u s2 ⟨x, H2, I2, rx, q2⟩ => thn (hi.run pins s2 σ H2 _ I2 q2) fun iv s3 ⟨y, H3, I3, ry, a, b, kvs, k, ex, ey, g, hk, hl, q3⟩ => ?_) hs
  subst ex ey
  obtain rfl : u = Value.ref a := rx
  obtain rfl : iv = Value.ref b := ry
  exact n_setItem hu I3 g hk hl rv fun H' h1 h2 h3 s4 I4 => ⟨σ, H', I4, q3 H' h1 h2 h3⟩
theorem pe_nget1 (hK : X.K = K) (hP : X.prog = P) (hw : X.w = w) (hu : X.A.units + 1 < cLine) (ho : PE X o td) (he : PE X e ty) (m : M1 X o "get" apos e cpos) : PE X (.Call (.Attribute o "get" apos) [e] [] cpos) (tNGet1 K P w td ty) := by
  subst hK hP hw
  refine ⟨fun pins s σ H Q I h => ?_⟩
  refine wpAny_Call_method m.base m.few m.line PySem.F.plainAttrs_dict PySem.F.slot_dict_get PySem.F.type_dict_get (thn (ho.run pins s σ H _ I h) fun u s1 ⟨x, H1, I1, rx, a, kvs, ex, d, q1⟩ => ?_)
  subst ex
  obtain rfl : u = Value.ref a := rx
  refine ⟨d.typeIs I1, d.noDict I1, ?_⟩
  rw [m.trees]
  refine Calls.callWith_builtin rfl (Calls.evalArgs_plain (Calls.spliced_cons (thn (he.run pins s1 σ H1 _ I1 q1) fun iv s2 ⟨y, H2, I2, ry, b, k, ey, g, hk, q2⟩ => Calls.spliced_nil ?_)))
  subst ey
  obtain rfl : iv = Value.ref b := ry
  exact n_get1 hu I2 g hk fun w' s3 I3 rw' => ⟨_, H2, I3, rw', q2⟩
theorem pe_nget2 (hK : X.K = K) (hP : X.prog = P) (hw : X.w = w) (hu : X.A.units + 1 < cLine) (ho : PE X o td) (he : PE X e ty) (hf : PE X f tx) (m : M2 X o "get" apos e f cpos) : PE X (.Call (.Attribute o "get" apos) [e, f] [] cpos) (tNGet2 K P w td ty tx) := by
  subst hK hP hw
  refine ⟨fun pins s σ H Q I h => ?_⟩
  refine wpAny_Call_method m.base m.few m.line PySem.F.plainAttrs_dict PySem.F.slot_dict_get PySem.F.type_dict_get (thn (ho.run pins s σ H _ I h) fun u s1 ⟨x, H1, I1, rx, a, kvs, ex, d, q1⟩ => ?_)
  subst ex
  obtain rfl : u = Value.ref a := rx
  refine ⟨d.typeIs I1, d.noDict I1, ?_⟩
  rw [m.trees]
  refine Calls.callWith_builtin rfl (Calls.evalArgs_plain (Calls.spliced_cons (thn (he.run pins s1 σ H1 _ I1 q1) fun iv s2 ⟨y, H2, I2, ry, q2⟩ =>
    Calls.spliced_cons (thn (hf.run pins s2 σ H2 _ I2 q2) fun fv s3 ⟨z, H3, I3, rz, b, k, ey, g, hk, q3⟩ => Calls.spliced_nil ?_))))
  subst ey
  obtain rfl : iv = Value.ref b := ry
  exact n_get2 hu I3 g hk rz fun w' s4 I4 rw' => ⟨_, H3, I4, rw', q3⟩
end
theorem u2_of {A : Around} {k : Nat} (hr : Room k A) : A.units + 2 < cLine := Nat.lt_of_le_of_lt (Nat.add_le_add_left (by decide : 2 ≤ 64) _) hr.units
/-! ### {} and dict(list of pairs) -/
theorem dx_empty {P : Program} {w : World} (h : Heap) (hb : sysModules < h.objs.size) : DX0 P w (h.push { cls := .type "dict", data := .dict #[] }) h.objs.size [] :=
  ⟨Nat.zero_le _, beq_eq_false_iff_ne.mpr (Ne.symm (Nat.ne_of_lt hb)), [], .nil, _, #[], 0, Heap.get?_push_size _ rfl, ⟨rfl, rfl, rfl⟩, rfl, rfl, List.nodup_nil⟩
def tNNew (K : PySem.W.Frag) (P : Program) (w : World) : TE := fun _ H Q => ∀ p H', H p = none → Same H H' → DN K P w H' p [] → Q (.ref p) H'
theorem pe_nnew {X : Cx} {K : PySem.W.Frag} {P : Program} {w : World} {pos : Pos} (hK : X.K = K) (hP : X.prog = P) (hw : X.w = w) : PE X (.Dict [] [] pos) (tNNew K P w) := by
  subst hK hP hw
  refine ⟨fun pins s σ H Q I h => ?_⟩
  have hn : H s.heap.objs.size = none := I.hok.fresh (Nat.le_refl _)
  exact wpAny_Dict_empty ⟨.ref s.heap.objs.size, _, I.laid (a := s.heap.objs.size) (o := DXO X.prog X.w s.heap.objs.size []) (t' := s.toks) (fun _ _ q => Heap.get?_push_of_some _ q) (Nat.le_refl _) (dx_new (dx_empty s.heap I.big)), rfl, h _ _ hn (same_upd hn) ⟨[], upd_same, (fun x hx => nomatch hx), rfl⟩⟩
def mergeT (kvs more : List (List Int × V)) : List (List Int × V) := more.foldl (fun acc kv => putK acc kv.1 kv.2) kvs
def allX (L M : KX) : KX := M.foldl (fun acc p => putX acc p.1 p.2.1 p.2.2) L
theorem RX.all {M : KX} {ms : List (List Int × Addr × Value)} (r : RX M ms) : ∀ {L : KX} {xs : List (List Int × Addr × Value)}, RX L xs → RX (allX L M) (storedAllH xs ms) := by
  unfold RX at r
  induction r with
  | nil => intro L xs q; exact q
  | @cons p q ps qs h t ih =>
    intro L xs hq
    show RX (allX (putX L p.1 p.2.1 p.2.2) ps) (storedAllH (storedH xs q.1 q.2.1 q.2.2) qs)
    rw [← h.1, ← h.2.1]
    exact ih (hq.put _ h.2.2)
theorem kvX_all : ∀ (M L : KX), kvX (allX L M) = mergeT (kvX L) (kvX M)
  | [], _ => rfl
  | p :: M, L => by
    show kvX (allX (putX L p.1 p.2.1 p.2.2) M) = mergeT (putK (kvX L) p.1 p.2.2) (kvX M)
    rw [kvX_all M, kvX_put]
theorem allX_key {Pr : List Int → Addr → Prop} : ∀ {M L : KX}, (∀ x ∈ L, Pr x.1 x.2.1) → (∀ x ∈ M, Pr x.1 x.2.1) → ∀ x ∈ allX L M, Pr x.1 x.2.1
  | [], _, h, _ => h
  | p :: M, L, h, hp => allX_key (M := M) (L := putX L p.1 p.2.1 p.2.2) (fun x hx => by
      rcases putX_key hx with ⟨y, hy, e1, e2⟩ | ⟨e1, e2⟩
      · rw [e1, e2]; exact h y hy
      · rw [e1, e2]; exact hp p List.mem_cons_self) fun x hx => hp x (List.mem_cons_of_mem _ hx)
theorem putX_len (L : KX) (k : List Int) (b : Addr) (v : V) : (putX L k b v).length ≤ L.length + 1 := by
  unfold putX
  split <;> simp
theorem allX_len : ∀ (M L : KX), (allX L M).length ≤ L.length + M.length
  | [], _ => Nat.le_refl _
  | p :: M, L => by
    have h1 := allX_len M (putX L p.1 p.2.1 p.2.2)
    have h2 := putX_len L p.1 p.2.1 p.2.2
    show (allX (putX L p.1 p.2.1 p.2.2) M).length ≤ _
    simp only [List.length_cons]
    omega
/-- a list of pairs (tuple of ints, value) -/
def rDictT (K : PySem.W.Frag) (P : Program) (w : World) : List V → Hp → VK → Prop := fun xs H Q => ∃ (a : Addr) (ts : List Addr) (M : KX), xs = [V.ref a] ∧ SqL K H a (ts.map V.ref) ∧ Paired (fun t m => SqT K H t [V.ref m.2.1, m.2.2] ∧ SqT K H m.2.1 (m.1.map V.int)) ts M ∧
  ∀ p H', H p = none → Same H H' → DN K P w H' p (mergeT [] (kvX M)) → Q (.ref p) H'
theorem pairsT_of {X : Cx} {pins : List (Addr × Obj)} {σ : L2.St} {H : Hp} {s : Shared} (I : Inv X pins σ H s) : ∀ {ts : List Addr} {M : KX}, Paired (fun t m => SqT X.K H t [V.ref m.2.1, m.2.2] ∧ SqT X.K H m.2.1 (m.1.map V.int)) ts M →
    ∃ ms : List (List Int × Addr × Value), RX M ms ∧ ms.length = ts.length ∧ ∀ (j : Nat) (q : List Int × Addr × Value), ms[j]? = some q → ∃ t, ts[j]? = some t ∧ IsTup s.heap t #[Value.ref q.2.1, q.2.2] ∧ IsT X.prog X.w s.heap q.1 q.2.1
  | _, _, .nil => ⟨[], .nil, rfl, fun j q e => by simp at e⟩
  | _, _, .cons (a := p) (b := m) h t => by
    obtain ⟨ms, r, hl, hp⟩ := pairsT_of I t
    obtain ⟨its, rv, ht, _⟩ := I.tuple h.1
    obtain ⟨u, y, ei, ru, ry⟩ := vals2 rv
    subst ei
    cases ru
    refine ⟨(m.1, m.2.1, y) :: ms, .cons ⟨rfl, rfl, ry⟩ r, by rw [List.length_cons, List.length_cons, hl], fun j q e => ?_⟩
    cases j with
    | zero =>
      have e' : (m.1, m.2.1, y) = q := Option.some.inj e
      subst e'
      exact ⟨p, rfl, ht, I.isT h.2⟩
    | succ j =>
      obtain ⟨b, e1, e2, e3⟩ := hp j q (by simpa using e)
      exact ⟨b, by simpa using e1, e2, e3⟩
theorem call_dictT {X : Cx} {K : PySem.W.Frag} {P : Program} {w : World} (hK : X.K = K) (hP : X.prog = P) (hw : X.w = w) (hcalm : X.calm = true) (hu : X.A.units + 2 < cLine) : CallR X (.type "dict") (rDictT K P w) := by
  subst hK hP hw
  intro pins s σ H xs us Q I r q
  obtain ⟨a, ts, M, ex, hq, hp, q⟩ := q
  subst ex
  obtain ⟨u, eu, rx⟩ := vals1 r
  subst eu
  cases rx
  obtain ⟨its, rv, pl, hz⟩ := I.list hq
  have ei := refs_at rv
  subst ei
  rw [List.length_map] at hz
  obtain ⟨ms, rel, hl, hpr⟩ := pairsT_of I hp
  obtain ⟨o, n, ho, hc, hd, hdat⟩ := pl
  have hmsM := rel.len
  have isAll : ∀ x ∈ ms, (tupleKind (intKind X.prog X.w)).is s.heap x.1 x.2.1 := fun x hx => by
    obtain ⟨j, hj⟩ := List.mem_iff_getElem?.mp hx
    obtain ⟨t, _, _, h3⟩ := hpr j x hj
    exact h3
  have hn : H s.heap.objs.size = none := I.hok.fresh (Nat.le_refl _)
  refine call_dict_pairsH (knd := tupleKind (intKind X.prog X.w)) (ps := ms) (PairArg.list a (ts.map Value.ref).toArray (fun j => ts.getD j 0) (ms.map fun m => (Value.ref m.2.1, m.2.2))) (I.ok.hd hcalm) ?_ ⟨⟨o, n, ho, hc, hd, hdat⟩, ?_, ?_⟩ ⟨?_, ?_⟩ (fun h' hk x hx => ?_) ?_ fun h' tk hd' hk => ?_
  · show X.A.in1.units + 1 < cLine
    exact hu
  · simp [hl]
  · intro j k v hj
    rw [List.getElem?_map, Option.map_eq_some_iff] at hj
    obtain ⟨m, hm, em⟩ := hj
    cases em
    obtain ⟨t, e1, e2, e3⟩ := hpr j m hm
    have et : ts.getD j 0 = t := by rw [List.getD_eq_getElem?_getD, e1]; rfl
    dsimp only
    rw [et]
    refine ⟨by simp [e1], ?_⟩
    exact .inl e2
  · simp
  · intro i key v hr
    rw [PairRel, List.getElem?_map, Option.map_eq_some_iff] at hr
    obtain ⟨m, hm, em⟩ := hr
    cases em
    exact ⟨m.1, m.2.1, hm, rfl⟩
  · have := isAll x hx
    obtain ⟨o', items, n', ho', hc', hd', hi'⟩ := (show IsTupleKey (intKind X.prog X.w) s.heap x.1 x.2.1 from this)
    exact ⟨o', items, n', hk _ _ (Nat.ne_of_lt (Heap.lt_size ho')) (fun z => nomatch z) ho', hc', hd', hi'⟩
  · rw [List.length_map, hl]; exact hz
  · have hm : (s.heap.objs.size == sysModules) = false := beq_eq_false_iff_ne.mpr (Nat.ne_of_gt I.big)
    have hlen : (allX [] M).length ≤ sizeLine := by
      refine Nat.le_trans (allX_len M []) ?_
      rw [List.length_nil, Nat.zero_add, hmsM, hl]
      exact hz
    obtain ⟨o', es, ep, h1, h2, h3, h4, _, h5⟩ := hd'
    have I2 := I.laid (t' := tk) (fun b u e => hk b u (fun z => nomatch z) e) (Nat.le_refl _) (dx_new (H := upd H s.heap.objs.size (DXO X.prog X.w s.heap.objs.size (allX [] M))) (P := X.prog) (w := X.w) (h := h') (d := s.heap.objs.size) (L := allX [] M) ⟨hlen, hm, _, RX.all rel .nil, o', es, ep, h1, h2, h3, h4, h5⟩)
    refine ⟨.ref s.heap.objs.size, _, I2, rfl, q _ _ hn (same_upd hn) ⟨allX [] M, upd_same, ?_, kvX_all M []⟩⟩
    refine allX_key (Pr := fun k b => SqT X.K (upd H s.heap.objs.size (DXO X.prog X.w s.heap.objs.size (allX [] M))) b (k.map V.int)) (fun x hx => nomatch hx) fun x hx => ?_
    have fnd : ∀ {ts : List Addr} {M : KX}, Paired (fun t m => SqT X.K H t [V.ref m.2.1, m.2.2] ∧ SqT X.K H m.2.1 (m.1.map V.int)) ts M → ∀ x ∈ M, SqT X.K H x.2.1 (x.1.map V.int) := by
      intro ts M hp
      induction hp with
      | nil => intro x hx; exact nomatch hx
      | @cons p q ps qs h t ih =>
        intro x hx
        rcases List.mem_cons.mp hx with e | hx
        · subst e; exact h.2
        · exact ih x hx
    exact Same.tup (same_upd hn) (fnd hp x hx)
end MB

set_option maxHeartbeats 4000000
namespace MB
open PySem PySem.Spec PyProof.Rows L2
/-! ### a dict as a function from keys to data -/
def OD (K : PySem.W.Frag) (H : Hp) : Option V → Option PyData → Prop
  | none, none => True
  | some v, some d => Dp K H v d
  | _, _ => False
theorem OD.same {K : PySem.W.Frag} {H H' : Hp} (s : Same H H') : ∀ {o : Option V} {d : Option PyData}, OD K H o d → OD K H' o d
  | none, none, _ => True.intro
  | some _, some _, h => Dp.same s h
  | none, some _, h => False.elim h
  | some _, none, h => False.elim h
theorem OD.keep {K : PySem.W.Frag} {H H' : Hp} (s : Keep K H H') : ∀ {o : Option V} {d : Option PyData}, (∀ x, d = some x → Tf x) → OD K H o d → OD K H' o d
  | none, none, _, _ => True.intro
  | some _, some _, t, h => Dp.keep s (t _ rfl) h
  | none, some _, _, h => False.elim h
  | some _, none, _, h => False.elim h
theorem OD.get {K : PySem.W.Frag} {H : Hp} : ∀ {o : Option V} {d : PyData}, OD K H o (some d) → ∃ v, o = some v ∧ Dp K H v d
  | some v, _, h => ⟨v, rfl, h⟩
  | none, _, h => False.elim h
theorem OD.non {K : PySem.W.Frag} {H : Hp} : ∀ {o : Option V}, OD K H o none → o = none
  | some v, h => False.elim h
  | none, h => rfl
def updT (T : List Int → Option PyData) (k : List Int) (d : PyData) : List Int → Option PyData := fun j => if j = k then some d else T j
def Tab (K : PySem.W.Frag) (P : Program) (w : World) (H : Hp) (a : Addr) (n : Nat) (T : List Int → Option PyData) : Prop :=
  ∃ kvs, DN K P w H a kvs ∧ kvs.length ≤ n ∧ (∀ k, OD K H (valV kvs k) (T k)) ∧ ∀ k d, T k = some d → Tf d
section
variable {K : PySem.W.Frag} {P : Program} {w : World} {H H' : Hp} {a b : Addr} {n : Nat} {T : List Int → Option PyData} {k : List Int} {d : PyData}
theorem Tab.same (t : Tab K P w H a n T) (s : Same H H') : Tab K P w H' a n T := by
  obtain ⟨kvs, h1, h2, h3, h4⟩ := t
  exact ⟨kvs, h1.same s, h2, fun k => (h3 k).same s, h4⟩
theorem Tab.keep (t : Tab K P w H a n T) (s : Keep K H H') (e : ∀ o, H a = some o → H' a = some o) : Tab K P w H' a n T := by
  obtain ⟨kvs, h1, h2, h3, h4⟩ := t
  exact ⟨kvs, h1.keep s e, h2, fun k => (h3 k).keep s (h4 k), h4⟩
theorem Tab.mono {m : Nat} (t : Tab K P w H a n T) (h : n ≤ m) : Tab K P w H a m T := by
  obtain ⟨kvs, h1, h2, h3, h4⟩ := t
  exact ⟨kvs, h1, Nat.le_trans h2 h, h3, h4⟩
theorem Tab.some (t : Tab K P w H a n T) : ∃ o, H a = some o ∧ (∀ xs, o ≠ .lst xs) := by
  obtain ⟨kvs, ⟨L, h1, _⟩, _⟩ := t
  exact ⟨_, h1, fun xs e => nomatch e⟩
theorem Tab.ext {T' : List Int → Option PyData} (t : Tab K P w H a n T) (e : ∀ k, T k = T' k) : Tab K P w H a n T' := by
  have : T = T' := funext e
  rw [← this]; exact t
theorem Tab.at (t : Tab K P w H a n T) (e : T k = Option.some d) : ∃ kvs v, DN K P w H a kvs ∧ valV kvs k = Option.some v ∧ Dp K H v d := by
  obtain ⟨kvs, h1, h2, h3, h4⟩ := t
  have := h3 k
  rw [e] at this
  obtain ⟨v, hv, hd⟩ := this.get
  exact ⟨kvs, v, h1, hv, hd⟩
theorem Tab.at0 (t : Tab K P w H a n T) (e : T k = none) : ∃ kvs, DN K P w H a kvs ∧ valV kvs k = none := by
  obtain ⟨kvs, h1, h2, h3, h4⟩ := t
  have := h3 k
  rw [e] at this
  exact ⟨kvs, h1, this.non⟩
theorem Tab.is (t : Tab K P w H a n T) (k : List Int) : ∃ kvs, DN K P w H a kvs ∧ (valV kvs k).isSome = (T k).isSome := by
  cases e : T k with
  | none => obtain ⟨kvs, h1, h2⟩ := t.at0 e; exact ⟨kvs, h1, by rw [h2]; rfl⟩
  | some d => obtain ⟨kvs, v, h1, h2, _⟩ := t.at e; exact ⟨kvs, h1, by rw [h2]; rfl⟩
theorem Tab.put {v : V} (t : Tab K P w H a n T) (hv : Dp K H v d) (hd : Tf d) (hn : n ≤ 100000) (k : List Int) : ∃ kvs, DN K P w H a kvs ∧ kvs.length < sizeLine ∧
    ∀ H', Keep K H H' → DN K P w H' a (putK kvs k v) → Tab K P w H' a (n + 1) (updT T k d) := by
  obtain ⟨kvs, h1, h2, h3, h4⟩ := t
  refine ⟨kvs, h1, sz61 (by omega), fun H' kp g => ⟨_, g, ?_, fun j => ?_, fun j x hx => ?_⟩⟩
  · have := length_putK kvs k v
    omega
  · rw [valV_put]
    unfold updT
    by_cases e : j = k
    · rw [if_pos e, if_pos e]; exact Dp.keep kp hd hv
    · rw [if_neg e, if_neg e]; exact (h3 j).keep kp (h4 j)
  · unfold updT at hx
    by_cases e : j = k
    · rw [if_pos e] at hx; cases hx; exact hd
    · rw [if_neg e] at hx; exact h4 j x hx
theorem Tab.new (g : DN K P w H a []) : Tab K P w H a 0 (fun _ => none) := ⟨[], g, Nat.le_refl _, fun _ => True.intro, fun _ _ h => nomatch h⟩
end
theorem nodup_inj {α β : Type} {f : α → β} {l : List α} (hf : ∀ a b, f a = f b → a = b) (h : l.Nodup) : (l.map f).Nodup := by
  unfold List.Nodup
  rw [List.pairwise_map]
  exact List.Pairwise.imp (fun hne e => hne (hf _ _ e)) h
/-! ### dict([(key, value) ..]) -/
def dKV (p : List Int × PyData) : PyData := .tuple [.tuple (p.1.map PyData.int), p.2]
def lookT (ps : List (List Int × PyData)) (k : List Int) : Option PyData := (ps.find? fun p => decide (p.1 = k)).map (·.2)
theorem pairs_dp {K : PySem.W.Frag} {H : Hp} : ∀ {ps : List (List Int × PyData)} {us : List V}, DpAll K H us (ps.map dKV) →
    ∃ (ts : List Addr) (M : KX), us = ts.map V.ref ∧ Paired (fun t m => SqT K H t [V.ref m.2.1, m.2.2] ∧ SqT K H m.2.1 (m.1.map V.int)) ts M ∧ Paired (fun m p => m.1 = p.1 ∧ Dp K H m.2.2 p.2) M ps
  | [], _, .nil => ⟨[], [], rfl, .nil, .nil⟩
  | p :: ps, _, .cons h t => by
    obtain ⟨ts, M, e, h1, h2⟩ := pairs_dp t
    obtain ⟨a, xs, rfl, hS, hA⟩ := Dp.tupInv h
    cases hA with
    | cons g1 g2 =>
      cases g2 with
      | cons g3 g4 =>
        cases g4
        obtain ⟨b, rfl, hB⟩ := Dp.intsInv g1
        exact ⟨a :: ts, (p.1, b, _) :: M, by rw [e]; rfl, .cons ⟨hS, hB⟩ h1, .cons ⟨rfl, g3⟩ h2⟩
theorem mergeT_snoc : ∀ (more kvs : List (List Int × V)), ((kvs ++ more).map (·.1)).Nodup → mergeT kvs more = kvs ++ more
  | [], kvs, _ => by simp [mergeT]
  | p :: more, kvs, h => by
    have hn : valV kvs p.1 = none := by
      have := valV_any p.1 kvs
      cases e : valV kvs p.1 with
      | none => rfl
      | some v =>
        rw [e] at this
        obtain ⟨q, hq, hq2⟩ := List.any_eq_true.mp (show (kvs.any fun kv => decide (kv.1 = p.1)) = true from this)
        rw [List.map_append, List.map_cons] at h
        have := (List.nodup_append.mp h).2.2 q.1 (List.mem_map.mpr ⟨q, hq, rfl⟩) p.1 (List.mem_cons_self ..)
        exact absurd (of_decide_eq_true hq2) this
    show mergeT (putK kvs p.1 p.2) more = _
    rw [putK_new _ hn, mergeT_snoc more _ (by rw [List.append_assoc]; exact h), List.append_assoc]; rfl
theorem paired_keys {K : PySem.W.Frag} {H : Hp} {M : KX} {ps : List (List Int × PyData)} (h : Paired (fun m p => m.1 = p.1 ∧ Dp K H m.2.2 p.2) M ps) : (kvX M).map (·.1) = ps.map (·.1) := by
  induction h with
  | nil => rfl
  | @cons m p ms ps h t ih =>
    show m.1 :: (kvX ms).map (·.1) = _
    rw [ih, h.1]; rfl
theorem paired_look {K : PySem.W.Frag} {H : Hp} {M : KX} {ps : List (List Int × PyData)} (h : Paired (fun m p => m.1 = p.1 ∧ Dp K H m.2.2 p.2) M ps) (k : List Int) : OD K H (valV (kvX M) k) (lookT ps k) := by
  induction h with
  | nil => exact True.intro
  | @cons m p ms ps h t ih =>
    show OD K H (valV ((m.1, m.2.2) :: kvX ms) k) _
    by_cases e : m.1 = k
    · have e' : p.1 = k := h.1.symm.trans e
      have b : lookT (p :: ps) k = some p.2 := by simp [lookT, List.find?_cons, e']
      rw [valV_pos (p := (m.1, m.2.2)) e, b]; exact h.2
    · have e' : ¬ p.1 = k := fun z => e (h.1.trans z)
      have b : lookT (p :: ps) k = lookT ps k := by simp [lookT, List.find?_cons, e']
      rw [valV_neg (p := (m.1, m.2.2)) e, b]; exact ih
theorem lookT_mem {ps : List (List Int × PyData)} {k : List Int} {d : PyData} (h : lookT ps k = some d) : ∃ p ∈ ps, p.2 = d := by
  unfold lookT at h
  obtain ⟨p, hp, rfl⟩ := Option.map_eq_some_iff.mp h
  exact ⟨p, List.mem_of_find?_eq_some hp, rfl⟩
theorem lookT_at : ∀ {ps : List (List Int × PyData)} {k : List Int} {d : PyData} {j : Nat}, (ps.map (·.1)).Nodup → ps[j]? = some (k, d) → lookT ps k = some d
  | [], _, _, _, _, h => by simp at h
  | p :: ps, k, d, 0, _, h => by
    simp at h
    subst h
    simp [lookT]
  | p :: ps, k, d, j + 1, nd, h => by
    rw [List.map_cons, List.nodup_cons] at nd
    have h' : ps[j]? = some (k, d) := by simpa using h
    have hne : ¬ p.1 = k := fun e => nd.1 (by rw [e]; exact List.mem_map.mpr ⟨(k, d), List.mem_of_getElem? h', rfl⟩)
    have := lookT_at nd.2 h'
    unfold lookT at this ⊢
    rw [List.find?_cons, decide_eq_false hne]
    exact this
theorem Tab.make {K : PySem.W.Frag} {P : Program} {w : World} {H : Hp} {a : Addr} {us : List V} {ps : List (List Int × PyData)} {Q : VK} (hS : SqL K H a us) (hA : DpAll K H us (ps.map dKV)) (nd : (ps.map (·.1)).Nodup) (ht : ∀ p ∈ ps, Tf p.2)
    (q : ∀ p H', H p = none → Same H H' → Tab K P w H' p ps.length (lookT ps) → Q (.ref p) H') : rDictT K P w [.ref a] H Q := by
  obtain ⟨ts, M, rfl, h1, h2⟩ := pairs_dp hA
  refine ⟨a, ts, M, rfl, hS, h1, fun p H' np s g => q p H' np s ?_⟩
  have hk := paired_keys h2
  rw [mergeT_snoc (kvX M) [] (by rw [List.nil_append, hk]; exact nd), List.nil_append] at g
  refine ⟨_, g, ?_, fun k => (paired_look h2 k).same s, fun k d e => ?_⟩
  · rw [kvX_len, Paired.length h2]; exact Nat.le_refl _
  · obtain ⟨p, hp, rfl⟩ := lookT_mem e
    exact ht p hp
end MB

set_option maxHeartbeats 4000000
namespace MB
open PySem PySem.Spec PyProof.Rows L2
/-! ### comprehensions with two clauses: the items by their data -/
/-- the list under way -/
def Acc (K : PySem.W.Frag) (H1 H : Hp) (D : Addr) (ds : List PyData) : Prop := Same H1 H ∧ ∃ acc, H D = some (.lst acc) ∧ DpAll K H acc ds
theorem lc2_in {K : PySem.W.Frag} {J : It} {n : Nat} {G : Hp → Prop} {Y : Nat → Hp → V → Hp → Prop} (w : Walk J n G Y) {g : TG} {tt : TT} {te : TE} {vs : List Nat} {σ : L2.St} {H1 H4 : Hp} {D : Addr} {Nx : Hp → Prop}
    (pre ds : List PyData) (hl : ds.length = n) (hp : ∀ d, d ∈ pre → Tf d) (ht : ∀ d, d ∈ ds → Tf d) (hn : pre.length + n ≤ 100000) (hD : H1 D = none) (h4 : Acc K H1 H4 D pre) (hG : ∀ H, Same H1 H → G H)
    (hs : ∀ i x H H', i < n → Same H1 H → Y i H x H' → ∀ d, ds[i]? = some d → ∀ R : V → Hp → Prop, (∀ y H5, Same H H5 → Dp K H5 y d → R y H5) →
      g x (wipe σ vs) H' fun σ2 H2 => wipe σ2 vs = wipe σ vs ∧ tt σ2 H2 fun b H3 => b = true ∧ te σ2 H3 R)
    (hN : ∀ H, Acc K H1 H D (pre ++ ds) → Nx H)
    (mg : ∀ x σ' H' (Q Q' : L2.St → Hp → Prop), (∀ a b, Q a b → Q' a b) → g x σ' H' Q → g x σ' H' Q') (mt : ∀ σ' H' (Q Q' : Bool → Hp → Prop), (∀ a b, Q a b → Q' a b) → tt σ' H' Q → tt σ' H' Q') :
    ∃ W : Nat → Nat → Hp → Prop, (∃ m, W 0 m H4) ∧ ∀ j k H, W j k H →
      (J.stop j H ∧ Nx H) ∨ (J.go j H ∧ ∃ Nx1 : Hp → Prop, (∀ H', Nx1 H' → ∃ k', k' < k ∧ W (j + 1) k' H') ∧ ∀ x H', J.yld j H x H' → g x (wipe σ vs) H' fun σ3 H5 => wipe σ3 vs = wipe σ vs ∧ tt σ3 H5 fun b H6 =>
        if b = true then te σ3 H6 fun y H7 => ∃ acc, H7 D = some (.lst acc) ∧ acc.length < sizeLine ∧ Nx1 (upd H7 D (.lst (acc ++ [y]))) else Nx1 H6) := by
  refine ⟨fun i m H => m = n - i ∧ i ≤ n ∧ Acc K H1 H D (pre ++ ds.take i), ⟨n, by simp, Nat.zero_le _, by simpa using h4⟩, ?_⟩
  rintro i m H ⟨rfl, hi, s1, acc, ha, hA⟩
  have q := hG H s1
  by_cases hlt : i < n
  · refine .inr ⟨w.goes i H hlt q, fun H' => Acc K H1 H' D (pre ++ ds.take (i + 1)), fun H' p' => ⟨n - (i + 1), by omega, rfl, hlt, p'⟩, fun x H' y => ?_⟩
    have hd' : ds[i]? = some ds[i] := List.getElem?_eq_getElem (by omega)
    have hlen := DpAll.len hA
    rw [List.length_append, List.length_take] at hlen
    refine mg _ _ _ _ _ ?_ (hs i x H H' hlt s1 (w.yields i H x H' hlt q y) ds[i] hd' (fun y H7 => ∃ acc, H7 D = some (.lst acc) ∧ acc.length < sizeLine ∧ Acc K H1 (upd H7 D (.lst (acc ++ [y]))) D (pre ++ ds.take (i + 1))) ?_)
    · rintro σ2 H2 ⟨e1, e2⟩
      refine ⟨e1, mt _ _ _ _ ?_ e2⟩
      rintro b H3 ⟨rfl, e3⟩
      exact iteT e3
    · intro y H5 s5 hy5
      refine ⟨acc, s5 _ _ ha, sz61 (by omega), Same.mut (s1.trans s5) hD, acc ++ [y], upd_same, ?_⟩
      have kp : Keep K H5 (upd H5 D (.lst (acc ++ [y]))) := But.keep But.upd (s5 _ _ ha)
      rw [List.take_add_one, hd', ← List.append_assoc]
      refine DpAll.keep kp (fun d h => ?_) (DpAll.append (DpAll.same s5 hA) (.cons hy5 .nil))
      rcases List.mem_append.mp h with h | h
      · rcases List.mem_append.mp h with h | h
        · exact hp d h
        · exact ht d (List.mem_of_mem_take h)
      · have e : d = ds[i] := by simpa using h
        rw [e]; exact ht _ (List.getElem_mem ..)
  · have e : i = n := by omega
    subst e
    rw [List.take_of_length_le (by omega)] at hA
    exact .inl ⟨w.stops H q, hN H ⟨s1, acc, ha, hA⟩⟩
theorem yesT {σ : L2.St} {H : Hp} {T N : Hp → Prop} (h : T H) : tYes σ H (fun b H3 => if b = true then T H3 else N H3) := by
  unfold tYes
  exact iteT h
/-- what the blocks before i give -/
def blks (f : Nat → List PyData) (i : Nat) : List PyData := (List.range i).flatMap f
theorem blks_succ (f : Nat → List PyData) (i : Nat) : blks f (i + 1) = blks f i ++ f i := by
  unfold blks
  rw [List.range_succ, List.flatMap_append]
  simp
theorem mem_blks {f : Nat → List PyData} {i : Nat} {d : PyData} (h : d ∈ blks f i) : ∃ j, j < i ∧ d ∈ f j := by
  unfold blks at h
  obtain ⟨j, hj, hd⟩ := List.mem_flatMap.mp h
  exact ⟨j, List.mem_range.mp hj, hd⟩
theorem lc2_out {K : PySem.W.Frag} {J : It} {n : Nat} {G : Hp → Prop} {Y : Nat → Hp → V → Hp → Prop} (w : Walk J n G Y) {g : TG} {tt : TT} {T : L2.St → Hp → (Hp → Prop) → Prop} {vs : List Nat} {σ : L2.St} {H1 : Hp} {D : Addr} {Qd : Hp → Prop}
    (f : Nat → List PyData) (hD : H1 D = none) (hG : ∀ H, Same H1 H → G H)
    (hs : ∀ i x H H', i < n → Acc K H1 H D (blks f i) → Y i H x H' → ∀ Nx : Hp → Prop, (∀ H, Acc K H1 H D (blks f i ++ f i) → Nx H) →
      g x (wipe σ vs) H' fun σ2 H2 => wipe σ2 vs = wipe σ vs ∧ tt σ2 H2 fun b H3 => if b = true then T σ2 H3 Nx else Nx H3)
    (hd : ∀ H acc, Same H1 H → H D = some (.lst acc) → DpAll K H acc (blks f n) → Qd H) :
    ∃ W : Nat → Nat → Hp → Prop, (∃ m, W 0 m (upd H1 D (.lst []))) ∧ ∀ i m H, W i m H →
      (J.stop i H ∧ Qd H) ∨ (J.go i H ∧ ∃ Nx : Hp → Prop, (∀ H', Nx H' → ∃ m', m' < m ∧ W (i + 1) m' H') ∧ ∀ x H', J.yld i H x H' → g x (wipe σ vs) H' fun σ2 H2 => wipe σ2 vs = wipe σ vs ∧ tt σ2 H2 fun b H3 =>
        if b = true then T σ2 H3 Nx else Nx H3) := by
  refine ⟨fun i m H => m = n - i ∧ i ≤ n ∧ Acc K H1 H D (blks f i), ⟨n, by simp, Nat.zero_le _, same_upd hD, [], upd_same, .nil⟩, ?_⟩
  rintro i m H ⟨rfl, hi, p⟩
  have q := hG H p.1
  by_cases hlt : i < n
  · exact .inr ⟨w.goes i H hlt q, fun H' => Acc K H1 H' D (blks f (i + 1)), fun H' p' => ⟨n - (i + 1), by omega, rfl, hlt, p'⟩, fun x H' y => hs i x H H' hlt p (w.yields i H x H' hlt q y) _ fun H2 a => by rw [blks_succ]; exact a⟩
  · have e : i = n := by omega
    subst e
    obtain ⟨s1, acc, ha, hA⟩ := p
    exact .inl ⟨w.stops H q, hd H acc s1 ha hA⟩
theorem lc_allW {K : PySem.W.Frag} {J : It} {n : Nat} {G : Hp → Prop} {Y : Nat → Hp → V → Hp → Prop} (w : Walk J n G Y) {g : TG} {tt : TT} {te : TE} {vs : List Nat} {σ : L2.St} {H1 : Hp} {D : Addr} {Qd : Hp → Prop}
    (ds : List PyData) (hl : ds.length = n) (ht : ∀ d, d ∈ ds → Tf d) (hn : n ≤ 90000) (hD : H1 D = none) (hG : ∀ H, Same H1 H → G H)
    (hs : ∀ i x H H', i < n → Same H1 H → Y i H x H' → ∀ d, ds[i]? = some d → ∀ R : V → Hp → Prop, (∀ y H4, Same H H4 → Dp K H4 y d → R y H4) →
      g x (wipe σ vs) H' fun σ2 H2 => wipe σ2 vs = wipe σ vs ∧ tt σ2 H2 fun b H3 => b = true ∧ te σ2 H3 R)
    (hd : ∀ H acc, Same H1 H → H D = some (.lst acc) → DpAll K H acc ds → Qd H)
    (mg : ∀ x σ' H' (Q Q' : L2.St → Hp → Prop), (∀ a b, Q a b → Q' a b) → g x σ' H' Q → g x σ' H' Q') (mt : ∀ σ' H' (Q Q' : Bool → Hp → Prop), (∀ a b, Q a b → Q' a b) → tt σ' H' Q → tt σ' H' Q') :
    ∃ W : Nat → Nat → Hp → Prop, (∃ m, W 0 m (upd H1 D (.lst []))) ∧ ∀ i m H, W i m H →
      (J.stop i H ∧ Qd H) ∨ (J.go i H ∧ ∃ Nx : Hp → Prop, (∀ H', Nx H' → ∃ m', m' < m ∧ W (i + 1) m' H') ∧ ∀ x H', J.yld i H x H' → g x (wipe σ vs) H' fun σ2 H2 => wipe σ2 vs = wipe σ vs ∧ tt σ2 H2 fun b H3 =>
        if b = true then te σ2 H3 fun y H4 => ∃ acc, H4 D = some (.lst acc) ∧ acc.length < sizeLine ∧ Nx (upd H4 D (.lst (acc ++ [y]))) else Nx H3) := by
  refine lc_it w (fun i H => Same H1 H ∧ ∃ acc, H D = some (.lst acc) ∧ DpAll K H acc (ds.take i)) ⟨same_upd hD, [], upd_same, .nil⟩ (fun i H _ h => hG H h.1) ?_ ?_
  · rintro i x H H' hi ⟨s1, acc, ha, hA⟩ hy
    have hd' : ds[i]? = some ds[i] := List.getElem?_eq_getElem (by omega)
    have hlen := DpAll.len hA
    rw [List.length_take] at hlen
    refine mg _ _ _ _ _ ?_ (hs i x H H' hi s1 hy ds[i] hd' (fun y H4 => ∃ acc, H4 D = some (.lst acc) ∧ acc.length < sizeLine ∧ (Same H1 (upd H4 D (.lst (acc ++ [y]))) ∧ ∃ acc', (upd H4 D (.lst (acc ++ [y]))) D = some (.lst acc') ∧ DpAll K (upd H4 D (.lst (acc ++ [y]))) acc' (ds.take (i + 1)))) ?_)
    · rintro σ2 H2 ⟨h1, h2⟩
      refine ⟨h1, mt _ _ _ _ ?_ h2⟩
      rintro b H3 ⟨rfl, h3⟩
      exact iteT h3
    · intro y H4 s4 hy4
      refine ⟨acc, s4 _ _ ha, sz61 (by omega), Same.mut (s1.trans s4) hD, acc ++ [y], upd_same, ?_⟩
      have kp : Keep K H4 (upd H4 D (.lst (acc ++ [y]))) := But.keep But.upd (s4 _ _ ha)
      rw [List.take_add_one, hd']
      refine DpAll.keep kp (fun d h => ?_) (DpAll.append (DpAll.same s4 hA) (.cons hy4 .nil))
      rcases List.mem_append.mp h with h | h
      · exact ht d (List.mem_of_mem_take h)
      · have e : d = ds[i] := by simpa using h
        rw [e]; exact ht _ (List.getElem_mem ..)
  · rintro H ⟨s1, acc, ha, hA⟩
    rw [List.take_of_length_le (by omega)] at hA
    exact hd H acc s1 ha hA

/-- enumerate in a second clause -/
theorem k_enumT {X : Cx} {K : PySem.W.Frag} (hK : X.K = K) {e : Expr} {ta : TA} {p pos tpos : PySem.Pos} {elts : List Expr} {kk : Nat} (hg : Gl X "enumerate") (hm : X.mg "enumerate" = none) (ha : PA X [e] ta) (hs : starEach [e] X.env = [(false, eval e X.env)] := by rfl) :
    PI X (.Tuple elts kk tpos) (.Call (.Name "enumerate" p) [e] [] pos) (iEnumT K ta) := by
  subst hK
  exact pi_enumT hg hm ha hs
end MB

set_option maxHeartbeats 4000000
namespace MB
open PySem PySem.Spec PyProof.Rows L2
/-! ### data of any kind, dicts among them -/
def kD : Key → PyData
  | .inl i => .int i
  | .inr x => .str x
mutual
inductive Dq (K : PySem.W.Frag) (H : Hp) : V → PyData → Prop
  | nonq : Dq K H .non .none
  | blq (b : Bool) : Dq K H (.bl b) (.bool b)
  | intq (i : Int) : Dq K H (.int i) (.int i)
  | strq (x : Str) : Dq K H (.str x) (.str x)
  | lstq {a : Addr} {xs : List V} {ds : List PyData} : SqL K H a xs → a ≠ sysModules → DqAll K H xs ds → Dq K H (.ref a) (.list ds)
  | tupq {a : Addr} {xs : List V} {ds : List PyData} : SqT K H a xs → DqAll K H xs ds → Dq K H (.ref a) (.tuple ds)
  | dctq {a : Addr} {kvs : List (Key × V)} {des : List (PyData × PyData)} : H a = some (.dK kvs) → des.map (·.1) = kvs.map (fun p => kD p.1) → DqAll K H (kvs.map (·.2)) (des.map (·.2)) → Dq K H (.ref a) (.dict des)
inductive DqAll (K : PySem.W.Frag) (H : Hp) : List V → List PyData → Prop
  | nil : DqAll K H [] []
  | cons {v : V} {vs : List V} {d : PyData} {ds : List PyData} : Dq K H v d → DqAll K H vs ds → DqAll K H (v :: vs) (d :: ds)
end
section
variable {X : Cx} {pins : List (Addr × Obj)} {σ : L2.St} {H : Hp} {s : Shared}
theorem keys_read {h : Heap} {P : Program} {w : World} {es : List DictEntry} {vs : List (Key × Value)} (hp : Pairs (mixKind P w) es vs) : ∀ {kvs : List (Key × V)}, KV kvs vs →
    ReadsAll h (es.map (·.key)) (kvs.map fun p => kD p.1) [] ∧ Vals (kvs.map (·.2)) (es.map (·.val)) := by
  induction hp with
  | nil => intro kvs r; cases r; exact ⟨.nil, .nil⟩
  | @cons e kv es vs a b c ih =>
    intro kvs r
    cases r with
    | @cons p _ ps _ r t =>
      obtain ⟨h1, h2⟩ := ih t
      obtain ⟨r1, r2⟩ := r
      have r3 : RelV p.2 e.val := by rw [b]; exact r2
      refine ⟨?_, .cons r3 h2⟩
      have e1 : keyIs kv.1 e.key = true := a
      rw [List.map_cons, List.map_cons, r1]
      rcases keyIs_shape e1 with ⟨i, t, h3, h4⟩ | ⟨x, t, h3, h4⟩
      · rw [h3, h4]; exact ReadsAll.cons (as := []) (bs := []) (.int i t) h1
      · rw [h3, h4]; exact ReadsAll.cons (as := []) (bs := []) (.str x t) h1
theorem Dq.reads (I : Inv X pins σ H s) {d : PyData} {v : V} (hq : Dq X.K H v d) : ∀ u : Value, RelV v u → ∃ as, Reads s.heap u d as ∧ sysModules ∉ as := by
  refine Dq.rec (motive_1 := fun v d _ => ∀ u : Value, RelV v u → ∃ as, Reads s.heap u d as ∧ sysModules ∉ as) (motive_2 := fun vs ds _ => ∀ us : List Value, Vals vs us → ∃ as, ReadsAll s.heap us ds as ∧ sysModules ∉ as) ?_ ?_ ?_ ?_ ?_ ?_ ?_ ?_ ?_ hq
  · intro u r; cases r; exact ⟨_, .none, by simp⟩
  · intro b u r; cases r; exact ⟨_, .bool b, by simp⟩
  · intro i u r; obtain ⟨t, rfl⟩ := r; exact ⟨_, .int i t, by simp⟩
  · intro x u r; obtain ⟨t, rfl⟩ := r; exact ⟨_, .str x t, by simp⟩
  · intro a xs ds hs hne _ ih u r
    cases r
    obtain ⟨its, rv, ⟨o, n, h1, h2, h3, h4⟩, _⟩ := I.list hs
    obtain ⟨as, ra, na⟩ := ih _ rv
    refine ⟨_, .list h1 h2 h4 (by simpa using ra), ?_⟩
    intro hm
    rcases List.mem_cons.mp hm with e | e
    · exact hne e.symm
    · exact na e
  · intro a xs ds hs _ ih u r
    cases r
    obtain ⟨its, rv, ⟨o, h1, h2, n, h3⟩, _⟩ := I.tuple hs
    obtain ⟨as, ra, na⟩ := ih _ rv
    exact ⟨_, .tuple h1 h2 h3 (by simpa using ra), na⟩
  · intro a kvs des he hk _ ih u r
    cases r
    obtain ⟨_, hsys, vs, kv, o, es, ep, h1, h2, h3, _, h5, _⟩ := dk_of I.hok he
    obtain ⟨g1, g2⟩ := keys_read (h := s.heap) h5 kv
    obtain ⟨bs, rb, nb⟩ := ih _ g2
    refine ⟨_, .dict h1 h2.1 h3 (by rw [hk]; exact g1) rb, ?_⟩
    intro hm
    rcases List.mem_cons.mp hm with e | e
    · rw [← e] at hsys; simp at hsys
    · exact nb (by simpa using e)
  · intro us t; cases t; exact ⟨_, .nil, by simp⟩
  · intro v vs d ds _ _ h1 h2 us t
    cases t with
    | cons r t =>
      obtain ⟨as, g1, n1⟩ := h1 _ r
      obtain ⟨bs, g2, n2⟩ := h2 _ t
      exact ⟨_, .cons g1 g2, by simp [n1, n2]⟩
end
theorem Dq.same {K : PySem.W.Frag} {H H' : Hp} (e : Same H H') {v : V} {d : PyData} (h : Dq K H v d) : Dq K H' v d := by
  refine Dq.rec (motive_1 := fun v d _ => Dq K H' v d) (motive_2 := fun vs ds _ => DqAll K H' vs ds) ?_ ?_ ?_ ?_ ?_ ?_ ?_ ?_ ?_ h
  · exact .nonq
  · intro b; exact .blq b
  · intro i; exact .intq i
  · intro x; exact .strq x
  · intro a xs ds hs hne _ ih; exact .lstq (e.seq hs) hne ih
  · intro a xs ds hs _ ih; exact .tupq (Same.tup e hs) ih
  · intro a kvs des he hk _ ih; exact .dctq (e _ _ he) hk ih
  · exact .nil
  · intro v vs d ds _ _ h1 h2; exact .cons h1 h2
theorem DqAll.same {K : PySem.W.Frag} {H H' : Hp} (e : Same H H') : ∀ {vs : List V} {ds : List PyData}, DqAll K H vs ds → DqAll K H' vs ds
  | _, _, .nil => .nil
  | _, _, .cons a b => .cons (Dq.same e a) (DqAll.same e b)
/-! ### repr -/
def rReprQ (K : PySem.W.Frag) : List V → Hp → VK → Prop := fun xs H Q => ∃ (x : V) (d : PyData), xs = [x] ∧ Dq K H x d ∧ d.showable = true ∧ d.depth ≤ 60 ∧ d.shown.length ≤ sizeLine ∧ Q (.str d.shown) H
theorem call_reprQ {X : Cx} (hgd : X.A.guards = some []) (hu : X.A.units + 64 < cLine) : CallR X (.builtin "repr") (rReprQ X.K) := by
  intro pins s σ H xs us Q I r h
  obtain ⟨x, d, rfl, hd, hs, hdep, hz, q⟩ := h
  obtain ⟨u, rfl, rx⟩ := vals1 r
  obtain ⟨as, rd, nsys⟩ := Dq.reads I hd u rx
  have fin : ∀ (h' : Heap) (v tk : Tok), (∀ b o, s.heap.get? b = some o → h'.get? b = some o) → EP X pins σ Q (.str d.shown v) { s with heap := h', toks := tk } := fun h' v tk hk => ⟨.str d.shown, H, I.kept hk, ⟨_, rfl⟩, q⟩
  cases rd with
  | none => exact PySem.P.repr_of_none (fin _ _ _ fun _ _ e => e)
  | bool b =>
    refine PySem.P.repr_of_bool ?_
    cases b <;> exact fin s.heap s.toks (s.toks + 1) fun _ _ e => e
  | int i t => exact PySem.P.repr_of_int (by simpa [PyData.showable] using hs) (fin s.heap s.toks (s.toks + 1) fun _ _ e => e)
  | str y t => exact PySem.P.repr_of_str (fin s.heap s.toks (s.toks + 1) fun _ _ e => e) hz
  | list h1 h2 h3 h4 => exact repr_of_reads' (.list h1 h2 h3 h4) hs (fun _ => nsys) hgd (by omega) (fun _ _ e => e) fin hz
  | tuple h1 h2 h3 h4 => exact repr_of_reads' (.tuple h1 h2 h3 h4) hs (fun _ => nsys) hgd (by omega) (fun _ _ e => e) fin hz
  | dict h1 h2 h3 h4 h5 => exact repr_of_reads' (.dict h1 h2 h3 h4 h5) hs (fun _ => nsys) hgd (by omega) (fun _ _ e => e) fin hz
theorem k_reprQ {X : Cx} {K : PySem.W.Frag} (e : X.K = K) (hgd : X.A.guards = some []) (hu : X.A.units + 64 < cLine) : CallR X (.builtin "repr") (rReprQ K) := by
  rw [← e]; exact call_reprQ hgd hu
end MB

set_option maxHeartbeats 4000000
namespace MB
open PySem PySem.Spec PyProof.Rows L2
/-! ### a body whose first statement never ends in order -/
theorem pss_stop {X : Cx} {st : Stmt} {rest : List Stmt} {t : TS} (h1 : PS X st t) : PSs X (st :: rest) (fun D σ H => t { D with nx := fun _ _ => False } σ H) := by
  refine ⟨fun pins s σ H D I h => ?_⟩
  refine wpAny_execs_cons (thn (h1.run pins s σ H { D with nx := fun _ _ => False } I h) fun f s1 q => ?_)
  cases f with
  | next =>
    obtain ⟨_, _, _, q⟩ := q
    exact q.elim
  | ret v => exact q
  | brk => exact q
  | cont => exact q
/-! ### texts of data are texts -/
theorem strOk_of (s : String) : PyData.strOk (Str.ofString s) = true := by
  rw [Str.ofString_eq_toList]
  unfold PyData.strOk
  rw [← Array.all_toList, List.all_eq_true]
  intro c hc
  obtain ⟨z, _, rfl⟩ := List.mem_map.mp hc
  refine decide_eq_true ?_
  have h := z.valid
  have e : z.toNat = z.val.toNat := rfl
  rcases h with h | h
  · exact Nat.lt_trans (show z.toNat < 0xd800 from h) (by decide)
  · exact h.2
theorem strOk_app {a b : Str} (h1 : PyData.strOk a = true) (h2 : PyData.strOk b = true) : PyData.strOk (a ++ b) = true := by
  show (a.cps ++ b.cps).all _ = true
  rw [Array.all_append]
  rw [Bool.and_eq_true]
  exact ⟨h1, h2⟩
theorem strOk_join {sep : Str} (hs : PyData.strOk sep = true) : ∀ {ts : List Str}, (∀ t, t ∈ ts → PyData.strOk t = true) → PyData.strOk (Str.join sep ts) = true
  | [], _ => by show PyData.strOk Str.empty = true; decide +kernel
  | [x], h => h x (List.mem_cons_self ..)
  | x :: y :: r, h => by
    show PyData.strOk (x ++ sep ++ Str.join sep (y :: r)) = true
    exact strOk_app (strOk_app (h x (List.mem_cons_self ..)) hs) (strOk_join hs fun t ht => h t (List.mem_cons_of_mem _ ht))
theorem strOk_from : ∀ {ts : List Str} {k : Nat} {acc : Str}, PyData.strOk acc = true → (∀ t, t ∈ ts → PyData.strOk t = true) → PyData.strOk (textFrom k acc ts) = true
  | [], _, _, h, _ => h
  | t :: r, k, acc, h, ht => by
    refine strOk_from (ts := r) (k := k + 1) (acc := acc ++ (if k > 0 then ", " else "" : String) ++ t) (strOk_app (strOk_app h (strOk_of _)) (ht t (List.mem_cons_self ..))) fun x hx => ht x (List.mem_cons_of_mem _ hx)
theorem k_reprD {X : Cx} {K : PySem.W.Frag} (e : X.K = K) (hgd : X.A.guards = some []) (hu : X.A.units + 64 < cLine) : CallR X (.builtin "repr") (rReprD K) := by
  rw [← e]; exact call_reprD hgd hu
def SOk (d : PyData) : Prop := PyData.strOk d.shown = true
theorem shownAll_map : ∀ ds : List PyData, PyData.shownAll ds = ds.map PyData.shown
  | [] => rfl
  | d :: ds => by simp only [PyData.shownAll, List.map_cons, shownAll_map ds]
theorem SOk.int {i : Int} : SOk (.int i) := by unfold SOk; simp only [PyData.shown]; exact strOk_of _
theorem SOk.none : SOk .none := by unfold SOk; simp only [PyData.shown]; exact strOk_of _
theorem SOk.bool {b : Bool} : SOk (.bool b) := by unfold SOk; simp only [PyData.shown]; cases b <;> exact strOk_of _
theorem SOk.tup {ds : List PyData} (h : ∀ d, d ∈ ds → SOk d) : SOk (.tuple ds) := by
  unfold SOk
  simp only [PyData.shown]
  rw [shownAll_map]
  unfold tupleText
  refine strOk_app (strOk_app (strOk_of _) (strOk_join (strOk_of _) fun t ht => ?_)) (strOk_of _)
  obtain ⟨d, hd, rfl⟩ := List.mem_map.mp ht
  exact h d hd
theorem SOk.lst {ds : List PyData} (h : ∀ d, d ∈ ds → SOk d) : SOk (.list ds) := by
  unfold SOk
  simp only [PyData.shown]
  rw [shownAll_map]
  unfold listText
  refine strOk_app (strOk_from (strOk_of _) fun t ht => ?_) (strOk_of _)
  obtain ⟨d, hd, rfl⟩ := List.mem_map.mp ht
  exact h d hd
theorem SOk.ints {ns : List Int} : ∀ d, d ∈ ns.map PyData.int → SOk d := fun d hd => by
  obtain ⟨i, _, rfl⟩ := List.mem_map.mp hd
  exact .int
theorem SOk.dic1 {x : Str} {d : PyData} (hx : SOk (.str x)) (h : SOk d) : SOk (.dict [(.str x, d)]) := by
  unfold SOk at *
  simp only [PyData.shown, PyData.shownKv] at *
  unfold dictText
  exact strOk_app (strOk_app (strOk_of _) (strOk_join (strOk_of _) fun t ht => by
    rw [List.mem_singleton.mp ht]
    exact strOk_app (strOk_app hx (strOk_of _)) h)) (strOk_of _)
theorem Sh.str {x : Str} {k : Nat} (h : PyData.strOk x = true) : Sh k (.str x) := ⟨by simp only [PyData.canLay0]; exact h, by simp [PyData.depth]⟩
end MB

set_option maxHeartbeats 4000000
namespace MB
open PySem PySem.Spec PyProof.Rows L2
/-- the thing at sysModules, tracked as it stands: a new thing then stands elsewhere -/
def sysO (oY : Obj) : HO := .frz oY (.ext fun h => h.get? sysModules = some oY)
theorem law_callS {P : Program} {w : World} {K : PySem.W.Frag} {mg mb : Str → Option Value} {k : Nat} {fa a : Addr} {fd : FuncData} {x : Str} {sp : Sp} {s₁ : Shared} {vs : List Value} {ns : List Int} {oY : Obj}
    (hKs : K.lookup sysModules = none) (hsy : s₁.heap.get? sysModules = some oY) (hna : a ≠ sysModules) (KX : K.In s₁.heap) (hns : s₁.heap.Ns mainGlobals mg) (hb : s₁.heap.Ns builtinsNs mb)
    (hbb : ∀ x : Str, x ≠ "__name__" → mb x = bootBuiltins x) (hlim : s₁.heap.NoLimit) (hg : s₁.gens = #[])
    (ha : s₁.heap.get? a = some { cls := .type "list", data := .seq vs.toArray }) (hi : IntsAre vs ns) (hl : ns.length ≤ sizeLine) (hr : Room k callerA)
    (F : ∀ base : Heap, K.In base → base.Ns mainGlobals mg → FnG P w K mg base CX0 k fa fd [x] sp) (hbind : ∀ (s : Shared) (u : Value), BindsTo s fd ⟨[u], []⟩ [(x, u)])
    (hsp : ∀ (H : Hp) (o : HO), SqL K H a (ns.map V.int) → H sysModules = some o → sp [.ref a] H (fun v _ => v = .bl true) fun _ _ _ => False) :
    codeAny (model P w) callerA (.call (.ref fa) ⟨[.ref a], []⟩) (fun r s' => r = .ok (.ret (.bool true)) ∧ OldK s₁.heap s'.heap ∧ s'.os = s₁.os ∧ AllBare s'.gens) s₁ := by
  let oS : Obj := { cls := .type "list", data := .seq vs.toArray }
  let H : Hp := fun b => if b = a ∧ K.lookup a = none then some (.frz oS (.lst (ns.map V.int))) else if b = sysModules then some (sysO oY) else none
  have Ha : K.lookup a = none → H a = some (.frz oS (.lst (ns.map V.int))) := fun hk => if_pos ⟨rfl, hk⟩
  have Hy : H sysModules = some (sysO oY) := (if_neg fun z => hna z.1.symm).trans (if_pos rfl)
  have rv := vals_ints hi
  have Hsome : ∀ {b : Addr} {o : HO}, H b = some o → (b = a ∧ o = .frz oS (.lst (ns.map V.int))) ∨ (b = sysModules ∧ o = sysO oY) := fun {b o} e => by
    by_cases c : b = a ∧ K.lookup a = none
    · have e' := (if_pos c).symm.trans e
      exact .inl ⟨c.1, (Option.some.inj e').symm⟩
    · by_cases c2 : b = sysModules
      · rw [c2, Hy] at e; exact .inr ⟨c2, (Option.some.inj e).symm⟩
      · have e' : H b = none := (if_neg c).trans (if_neg c2)
        rw [e'] at e; cases e
  have hfree : ∀ {b : Addr}, (b = a → K.lookup a ≠ none) → b ≠ sysModules → H b = none := fun {b} c c2 => (if_neg fun z => c z.1 z.2).trans (if_neg c2)
  have hS : SqL K H a (ns.map V.int) := by
    cases hk : K.lookup a with
    | none => exact .inl (.inr ⟨oS, Ha hk⟩)
    | some o =>
      have e := (KX a o hk).symm.trans ha
      cases e
      exact .inr ⟨_, vs.toArray, _, hk, rfl, rfl, rfl, by rw [List.size_toArray, hi.length]; exact hl, by simpa using rv⟩
  have hok : HOk P w H s₁.heap := fun b o e => by
    rcases Hsome e with ⟨rfl, rfl⟩ | ⟨rfl, rfl⟩
    · exact ⟨ha, by rw [List.length_map]; exact hl, vs, _, rv, ha⟩
    · exact ⟨hsy, hsy, ⟨_, hsy⟩, fun h1 h2 z kk => kk _ z⟩
  have notA : ∀ {b : Addr} {m : Str → Option Value}, s₁.heap.Ns b m → b ≠ a := fun {b m} ⟨o, es, ep, e, d, r⟩ z => by
    rw [z, ha] at e; cases e; cases d
  have ns_hid : ∀ {b : Addr} {m : Str → Option Value}, b ≠ sysModules → s₁.heap.Ns b m → (hidT s₁.heap H).Ns b m := fun {b m} hb x => by
    have h1 := notA x
    obtain ⟨o, es, ep, e, d, r⟩ := x
    exact ⟨o, es, ep, hidT_get e (hfree (fun z => absurd z h1) hb), d, r⟩
  have hKb : K.In (hidT s₁.heap H) := fun b o e => hidT_get (KX b o e) (hfree (fun z => by rw [z] at e; rw [e]; exact fun y => nomatch y) (fun z => by rw [z, hKs] at e; cases e))
  have hM : Mod K mg (hidT s₁.heap H) := ⟨hKb, ns_hid (by decide) hns, ⟨mb, ns_hid (by decide) hb, hbb⟩, let ⟨mc, h1, h2⟩ := hlim; ⟨mc, ns_hid (by decide) h1, h2⟩⟩
  have e0 : Env0 P w K mg (hidT s₁.heap H) callerA [] s₁ H := ⟨rfl, hM, fun b o e => of_hidT e, Nat.le_of_eq (hidT_size _ _), trivial, (fun b hb => absurd (show b ∈ ([] : List Addr) from hb) (by simp)), hok, .of_eq hg⟩
  refine codeAny_mono ((F _ hKb (ns_hid (by decide) hns)).run callerA rfl hr [] s₁ H ⟨[.ref a], []⟩ [.ref a] [.ref a] _ _ e0 (hbind s₁ (.ref a)) (.cons rfl .nil) (hsp H _ hS Hy)) fun r s' h => ?_
  rcases r with e | fl
  · exact False.elim h
  rcases fl with _ | _ | _ | u
  · exact False.elim h
  · exact False.elim h
  · exact False.elim h
  obtain ⟨v, H', os, bare, un, hok', r', q⟩ := h
  have q' : v = .bl true := q
  subst q'
  obtain rfl : u = Value.bool true := r'
  refine ⟨rfl, OldK.of_keep fun b o e => ?_, os, bare⟩
  cases hb' : H b with
  | none => exact un.keep b o e hb' (fun z => absurd (show b ∈ ([] : List Addr) from z) (by simp)) (by simp)
  | some u =>
    rcases Hsome hb' with ⟨rfl, rfl⟩ | ⟨rfl, rfl⟩
    · have e2 := (hok' _ _ (un.frzs _ oS _ hb')).1
      rw [ha] at e
      cases e
      exact e2
    · have e2 := (hok' _ _ (un.frzs _ oY _ hb')).1
      rw [hsy] at e
      cases e
      exact e2
theorem walk_ofS {l : PySem.W.OpenLaw} {n k : Nat} {q : Program} {loose : List Str} {XP : (Str → Option Value) → Heap → Prop} {YP : World → Heap → Prop} {d : DefRec} {K : Params → PySem.W.Frag} {sp : PySem.W.Frag → Sp} {x : Str}
    (hn : l.most = some n) (hn2 : n ≤ sizeLine) (hdf : d.params.defaults = []) (hr : Room k callerA) (him : importsNone q = true) (hKs : ∀ p, (K p).lookup sysModules = none)
    (hY : ∀ (w : World) (h : Heap), YP w h → (K w.params).In h)
    (F : ∀ (w : World) (mg : Str → Option Value) (fa : Addr) (h : Heap), (K w.params).In h → h.Ns mainGlobals mg → mg d.name = some (.ref fa) →
      ∃ fd : FuncData, (∀ (s : Shared) (u : Value), BindsTo s fd ⟨[u], []⟩ [(x, u)]) ∧
        ∀ base : Heap, (K w.params).In base → base.Ns mainGlobals mg → FnG l.prog w (K w.params) mg base CX0 k fa fd [x] (sp (K w.params)))
    (hsp : ∀ (K : PySem.W.Frag) (H : Hp) (a : Addr) (ns : List Int) (o : HO), ns.length ≤ n → SqL K H a (ns.map V.int) → H sysModules = some o → sp K [.ref a] H (fun v _ => v = .bl true) fun _ _ _ => False) :
    PySem.W.WalkO q loose XP YP l.row.toRowW d [] (fun f vs => PySem.call f vs) :=
  Att.attach_call hn hdf fun w s₀ s₁ mg mb fa o pm cd doc a vs ns G Y ho hd hcd hmg hobj hints hlen hg =>
    have KX := hY w _ Y
    let ⟨fd, hb, hF⟩ := F w mg fa _ KX G.T.g hmg
    let ⟨mm, hmm, _⟩ := (G.T.seer him).mods
    let ⟨oY, es, ep, eY, dY, _⟩ := hmm
    law_callS (hKs w.params) eY (fun z => by rw [z, eY] at hobj; cases hobj; cases dY) KX G.T.g G.T.b G.T.builtins G.T.nolimit hg hobj hints (Nat.le_trans hlen hn2) hr hF hb fun H o hS hy => hsp _ H a ns o hlen hS hy
end MB

set_option maxHeartbeats 4000000
namespace MB
open PySem PySem.Spec PyProof.Rows L2
def topS (i : Nat) : Stmt := PySem.Challenge.pw_mergebudget_k37_bound_tables_of_any_kind.main.body.getD i (.Pass ⟨0, 0, 0, 0⟩)
abbrev s_is_int : Stmt := topS 6
abbrev N_is_int : List Str := ["value"]
theorem sc_is_int : FnScope N_is_int ["value"] (defScope s_is_int) := ⟨rfl, rfl, rfl, by decide +kernel, rfl, by decide +kernel, by decide +kernel⟩
abbrev s_is_count : Stmt := topS 7
abbrev N_is_count : List Str := ["value"]
theorem sc_is_count : FnScope N_is_count ["value"] (defScope s_is_count) := ⟨rfl, rfl, rfl, by decide +kernel, rfl, by decide +kernel, by decide +kernel⟩
abbrev s_is_count_up_to : Stmt := topS 8
abbrev N_is_count_up_to : List Str := ["value", "most"]
theorem sc_is_count_up_to : FnScope N_is_count_up_to ["value", "most"] (defScope s_is_count_up_to) := ⟨rfl, rfl, rfl, by decide +kernel, rfl, by decide +kernel, by decide +kernel⟩
abbrev s_are_loads : Stmt := topS 9
abbrev N_are_loads : List Str := ["value", "fewest", "most", "load"]
theorem sc_are_loads : FnScope N_are_loads ["value", "fewest", "most"] (defScope s_are_loads) := ⟨rfl, rfl, rfl, by decide +kernel, rfl, by decide +kernel, by decide +kernel⟩
abbrev s_check_sizes : Stmt := topS 10
abbrev N_check_sizes : List Str := ["sizes", "fewest", "most"]
theorem sc_check_sizes : FnScope N_check_sizes ["sizes", "fewest", "most"] (defScope s_check_sizes) := ⟨rfl, rfl, rfl, by decide +kernel, rfl, by decide +kernel, by decide +kernel⟩
abbrev s_check_reads : Stmt := topS 11
abbrev N_check_reads : List Str := ["reads", "flushes"]
theorem sc_check_reads : FnScope N_check_reads ["reads", "flushes"] (defScope s_check_reads) := ⟨rfl, rfl, rfl, by decide +kernel, rfl, by decide +kernel, by decide +kernel⟩
abbrev s_check_loads : Stmt := topS 12
abbrev N_check_loads : List Str := ["sizes", "reads", "most"]
theorem sc_check_loads : FnScope N_check_loads ["sizes", "reads", "most"] (defScope s_check_loads) := ⟨rfl, rfl, rfl, by decide +kernel, rfl, by decide +kernel, by decide +kernel⟩
abbrev s_least_rows : Stmt := topS 15
abbrev N_least_rows : List Str := ["sizes", "reads", "n", "sums", "rows", "start", "stop", "row"]
theorem sc_least_rows : FnScope N_least_rows ["sizes", "reads"] (defScope s_least_rows) := ⟨rfl, rfl, rfl, by decide +kernel, rfl, by decide +kernel, by decide +kernel⟩
abbrev s_load_sums : Stmt := topS 16
abbrev N_load_sums : List Str := ["sizes", "reads"]
theorem sc_load_sums : FnScope N_load_sums ["sizes", "reads"] (defScope s_load_sums) := ⟨rfl, rfl, rfl, by decide +kernel, rfl, by decide +kernel, by decide +kernel⟩
abbrev s_running_sums : Stmt := topS 17
abbrev N_running_sums : List Str := ["loads", "sums", "load"]
theorem sc_running_sums : FnScope N_running_sums ["loads"] (defScope s_running_sums) := ⟨rfl, rfl, rfl, by decide +kernel, rfl, by decide +kernel, by decide +kernel⟩
abbrev s_works_by_root : Stmt := topS 18
abbrev N_works_by_root : List Str := ["lefts", "rights", "sums", "start", "stop", "found", "root", "left", "right"]
theorem sc_works_by_root : FnScope N_works_by_root ["lefts", "rights", "sums", "start", "stop"] (defScope s_works_by_root) := ⟨rfl, rfl, rfl, by decide +kernel, rfl, by decide +kernel, by decide +kernel⟩
abbrev s_root_cost : Stmt := topS 19
abbrev N_root_cost : List Str := ["sums", "start", "stop", "root", "sizes", "reads"]
theorem sc_root_cost : FnScope N_root_cost ["sums", "start", "stop", "root"] (defScope s_root_cost) := ⟨rfl, rfl, rfl, by decide +kernel, rfl, by decide +kernel, by decide +kernel⟩
abbrev s_table : Stmt := topS 21
abbrev N_table : List Str := ["sizes", "reads"]
theorem sc_table : FnScope N_table ["sizes", "reads"] (defScope s_table) := ⟨rfl, rfl, rfl, by decide +kernel, rfl, by decide +kernel, by decide +kernel⟩
abbrev s_shows_bound : Stmt := topS 22
abbrev N_shows_bound : List Str := ["sizes", "reads", "bound", "value"]
theorem sc_shows_bound : FnScope N_shows_bound ["sizes", "reads", "bound", "value"] (defScope s_shows_bound) := ⟨rfl, rfl, rfl, by decide +kernel, rfl, by decide +kernel, by decide +kernel⟩
abbrev s_is_bound_table : Stmt := topS 23
abbrev N_is_bound_table : List Str := ["value", "sizes", "reads", "n", "sums", "start", "stop", "row", "bound"]
theorem sc_is_bound_table : FnScope N_is_bound_table ["value", "sizes", "reads"] (defScope s_is_bound_table) := ⟨rfl, rfl, rfl, by decide +kernel, rfl, by decide +kernel, by decide +kernel⟩
abbrev s_has_shape : Stmt := topS 24
abbrev N_has_shape : List Str := ["value", "n", "start", "row"]
theorem sc_has_shape : FnScope N_has_shape ["value", "n"] (defScope s_has_shape) := ⟨rfl, rfl, rfl, by decide +kernel, rfl, by decide +kernel, by decide +kernel⟩
abbrev s_intervals : Stmt := topS 25
abbrev N_intervals : List Str := ["n", "start", "stop"]
theorem sc_intervals : FnScope N_intervals ["n"] (defScope s_intervals) := ⟨rfl, rfl, rfl, by decide +kernel, rfl, by decide +kernel, by decide +kernel⟩
abbrev s_is_low : Stmt := topS 26
abbrev N_is_low : List Str := ["rows", "lefts", "rights", "sums", "start", "stop", "bound", "most", "root"]
theorem sc_is_low : FnScope N_is_low ["rows", "lefts", "rights", "sums", "start", "stop"] (defScope s_is_low) := ⟨rfl, rfl, rfl, by decide +kernel, rfl, by decide +kernel, by decide +kernel⟩
abbrev s_L_pot : Stmt := topS 28
abbrev N_L_pot : List Str := ["_law_script", "_law_k", "_law_cell", "_law_far"]
theorem sc_L_pot : FnScope N_L_pot ["_law_script", "_law_k"] (defScope s_L_pot) := ⟨rfl, rfl, rfl, by decide +kernel, rfl, by decide +kernel, by decide +kernel⟩
abbrev s_L_take : Stmt := topS 29
abbrev N_L_take : List Str := ["_law_pot_here", "_law_wide", "_law_digit", "_law_primes", "_law_prime", "_law_drawn"]
theorem sc_L_take : FnScope N_L_take ["_law_pot_here", "_law_wide"] (defScope s_L_take) := ⟨rfl, rfl, rfl, by decide +kernel, rfl, by decide +kernel, by decide +kernel⟩
abbrev s_L_of : Stmt := topS 30
abbrev N_L_of : List Str := ["_law_pot_here", "_law_some"]
theorem sc_L_of : FnScope N_L_of ["_law_pot_here", "_law_some"] (defScope s_L_of) := ⟨rfl, rfl, rfl, by decide +kernel, rfl, by decide +kernel, by decide +kernel⟩
abbrev s_L_load : Stmt := topS 31
abbrev N_L_load : List Str := ["_law_pot_here", "_law_count", "_law_wide", "_law_style", "_law_level", "_law_found", "_law_turn", "_law_some"]
theorem sc_L_load : FnScope N_L_load ["_law_pot_here", "_law_count", "_law_wide"] (defScope s_L_load) := ⟨rfl, rfl, rfl, by decide +kernel, rfl, by decide +kernel, by decide +kernel⟩
abbrev s_L_sums : Stmt := topS 32
abbrev N_L_sums : List Str := ["_law_some", "_law_found", "_law_one"]
theorem sc_L_sums : FnScope N_L_sums ["_law_some"] (defScope s_L_sums) := ⟨rfl, rfl, rfl, by decide +kernel, rfl, by decide +kernel, by decide +kernel⟩
abbrev s_L_odd : Stmt := topS 33
abbrev N_L_odd : List Str := ["_law_pot_here", "_law_some", "_law_thing", "_law_turn"]
theorem sc_L_odd : FnScope N_L_odd ["_law_pot_here"] (defScope s_L_odd) := ⟨rfl, rfl, rfl, by decide +kernel, rfl, by decide +kernel, by decide +kernel⟩
abbrev s_L_bent : Stmt := topS 34
abbrev N_L_bent : List Str := ["_law_pot_here", "_law_thing", "_law_spot", "_law_way"]
theorem sc_L_bent : FnScope N_L_bent ["_law_pot_here", "_law_thing"] (defScope s_L_bent) := ⟨rfl, rfl, rfl, by decide +kernel, rfl, by decide +kernel, by decide +kernel⟩
abbrev s_L_is_int : Stmt := topS 35
abbrev N_L_is_int : List Str := ["_law_thing"]
theorem sc_L_is_int : FnScope N_L_is_int ["_law_thing"] (defScope s_L_is_int) := ⟨rfl, rfl, rfl, by decide +kernel, rfl, by decide +kernel, by decide +kernel⟩
abbrev s_L_has_shape : Stmt := topS 36
abbrev N_L_has_shape : List Str := ["_law_count", "_law_thing", "_law_i", "_law_row"]
theorem sc_L_has_shape : FnScope N_L_has_shape ["_law_count", "_law_thing"] (defScope s_L_has_shape) := ⟨rfl, rfl, rfl, by decide +kernel, rfl, by decide +kernel, by decide +kernel⟩
abbrev s_L_is_bound : Stmt := topS 37
abbrev N_L_is_bound : List Str := ["_law_bulk", "_law_looks", "_law_thing", "_law_count", "_law_heavy", "_law_seen", "_law_row", "_law_i", "_law_j", "_law_t", "_law_own", "_law_below", "_law_one"]
theorem sc_L_is_bound : FnScope N_L_is_bound ["_law_bulk", "_law_looks", "_law_thing"] (defScope s_L_is_bound) := ⟨rfl, rfl, rfl, by decide +kernel, rfl, by decide +kernel, by decide +kernel⟩
abbrev s_L_lowered : Stmt := topS 38
abbrev N_L_lowered : List Str := ["_law_pot_here", "_law_bulk", "_law_looks", "_law_count", "_law_heavy", "_law_seen", "_law_rows", "_law_long", "_law_i", "_law_j", "_law_least", "_law_t", "_law_own", "_law_below", "_law_row"]
theorem sc_L_lowered : FnScope N_L_lowered ["_law_pot_here", "_law_bulk", "_law_looks"] (defScope s_L_lowered) := ⟨rfl, rfl, rfl, by decide +kernel, rfl, by decide +kernel, by decide +kernel⟩
abbrev s_L_raised : Stmt := topS 39
abbrev N_L_raised : List Str := ["_law_pot_here", "_law_rows", "_law_i", "_law_spot", "_law_row"]
theorem sc_L_raised : FnScope N_L_raised ["_law_pot_here", "_law_rows"] (defScope s_L_raised) := ⟨rfl, rfl, rfl, by decide +kernel, rfl, by decide +kernel, by decide +kernel⟩
abbrev s_L_right : Stmt := topS 40
abbrev N_L_right : List Str := ["_law_pot_here", "_law_count", "_law_wide", "_law_bulk", "_law_looks", "_law_things", "_law_thing", "_law_is_bound_here", "_law_best", "_law_bound", "_law_noted", "_law_due", "_law_told", "_law_rows", "_law_turn"]
theorem sc_L_right : FnScope N_L_right ["_law_pot_here"] (defScope s_L_right) := ⟨rfl, rfl, rfl, by decide +kernel, rfl, by decide +kernel, by decide +kernel⟩
abbrev s_law : Stmt := topS 41
abbrev N_law : List Str := ["_law_script", "_law_k"]
theorem sc_law : FnScope N_law ["_law_script"] (defScope s_law) := ⟨rfl, rfl, rfl, by decide +kernel, rfl, by decide +kernel, by decide +kernel⟩
structure Tx (K : PySem.W.Frag) (mg : Str → Option Value) where
  a_is_int : Addr
  fd_is_int : FuncData
  f_is_int : Fun K "is_int" "is_int" s_is_int a_is_int fd_is_int
  g_is_int : mg "is_int" = some (.ref a_is_int)
  bd_is_int : Binds K fd_is_int ["value"] []
  a_is_count : Addr
  fd_is_count : FuncData
  f_is_count : Fun K "is_count" "is_count" s_is_count a_is_count fd_is_count
  g_is_count : mg "is_count" = some (.ref a_is_count)
  bd_is_count : Binds K fd_is_count ["value"] []
  a_is_count_up_to : Addr
  fd_is_count_up_to : FuncData
  f_is_count_up_to : Fun K "is_count_up_to" "is_count_up_to" s_is_count_up_to a_is_count_up_to fd_is_count_up_to
  g_is_count_up_to : mg "is_count_up_to" = some (.ref a_is_count_up_to)
  bd_is_count_up_to : Binds K fd_is_count_up_to ["value", "most"] []
  a_are_loads : Addr
  fd_are_loads : FuncData
  f_are_loads : Fun K "are_loads" "are_loads" s_are_loads a_are_loads fd_are_loads
  g_are_loads : mg "are_loads" = some (.ref a_are_loads)
  bd_are_loads : Binds K fd_are_loads ["value", "fewest", "most"] []
  a_check_sizes : Addr
  fd_check_sizes : FuncData
  f_check_sizes : Fun K "check_sizes" "check_sizes" s_check_sizes a_check_sizes fd_check_sizes
  g_check_sizes : mg "check_sizes" = some (.ref a_check_sizes)
  bd_check_sizes : Binds K fd_check_sizes ["sizes", "fewest", "most"] []
  a_check_reads : Addr
  fd_check_reads : FuncData
  f_check_reads : Fun K "check_reads" "check_reads" s_check_reads a_check_reads fd_check_reads
  g_check_reads : mg "check_reads" = some (.ref a_check_reads)
  bd_check_reads : Binds K fd_check_reads ["reads", "flushes"] []
  a_check_loads : Addr
  fd_check_loads : FuncData
  f_check_loads : Fun K "check_loads" "check_loads" s_check_loads a_check_loads fd_check_loads
  g_check_loads : mg "check_loads" = some (.ref a_check_loads)
  bd_check_loads : Binds K fd_check_loads ["sizes", "reads", "most"] []
  a_least_rows : Addr
  fd_least_rows : FuncData
  f_least_rows : Fun K "least_rows" "least_rows" s_least_rows a_least_rows fd_least_rows
  g_least_rows : mg "least_rows" = some (.ref a_least_rows)
  bd_least_rows : Binds K fd_least_rows ["sizes", "reads"] []
  a_load_sums : Addr
  fd_load_sums : FuncData
  f_load_sums : Fun K "load_sums" "load_sums" s_load_sums a_load_sums fd_load_sums
  g_load_sums : mg "load_sums" = some (.ref a_load_sums)
  bd_load_sums : Binds K fd_load_sums ["sizes", "reads"] []
  a_running_sums : Addr
  fd_running_sums : FuncData
  f_running_sums : Fun K "running_sums" "running_sums" s_running_sums a_running_sums fd_running_sums
  g_running_sums : mg "running_sums" = some (.ref a_running_sums)
  bd_running_sums : Binds K fd_running_sums ["loads"] []
  a_works_by_root : Addr
  fd_works_by_root : FuncData
  f_works_by_root : Fun K "works_by_root" "works_by_root" s_works_by_root a_works_by_root fd_works_by_root
  g_works_by_root : mg "works_by_root" = some (.ref a_works_by_root)
  bd_works_by_root : Binds K fd_works_by_root ["lefts", "rights", "sums", "start", "stop"] []
  a_root_cost : Addr
  fd_root_cost : FuncData
  f_root_cost : Fun K "root_cost" "root_cost" s_root_cost a_root_cost fd_root_cost
  g_root_cost : mg "root_cost" = some (.ref a_root_cost)
  bd_root_cost : Binds K fd_root_cost ["sums", "start", "stop", "root"] []
  a_table : Addr
  fd_table : FuncData
  f_table : Fun K "table" "table" s_table a_table fd_table
  g_table : mg "table" = some (.ref a_table)
  bd_table : Binds K fd_table ["sizes", "reads"] []
  a_shows_bound : Addr
  fd_shows_bound : FuncData
  f_shows_bound : Fun K "shows_bound" "shows_bound" s_shows_bound a_shows_bound fd_shows_bound
  g_shows_bound : mg "shows_bound" = some (.ref a_shows_bound)
  bd_shows_bound : Binds K fd_shows_bound ["sizes", "reads", "bound", "value"] []
  a_is_bound_table : Addr
  fd_is_bound_table : FuncData
  f_is_bound_table : Fun K "is_bound_table" "is_bound_table" s_is_bound_table a_is_bound_table fd_is_bound_table
  g_is_bound_table : mg "is_bound_table" = some (.ref a_is_bound_table)
  bd_is_bound_table : Binds K fd_is_bound_table ["value", "sizes", "reads"] []
  a_has_shape : Addr
  fd_has_shape : FuncData
  f_has_shape : Fun K "has_shape" "has_shape" s_has_shape a_has_shape fd_has_shape
  g_has_shape : mg "has_shape" = some (.ref a_has_shape)
  bd_has_shape : Binds K fd_has_shape ["value", "n"] []
  a_intervals : Addr
  fd_intervals : FuncData
  f_intervals : Fun K "intervals" "intervals" s_intervals a_intervals fd_intervals
  g_intervals : mg "intervals" = some (.ref a_intervals)
  bd_intervals : Binds K fd_intervals ["n"] []
  a_is_low : Addr
  fd_is_low : FuncData
  f_is_low : Fun K "is_low" "is_low" s_is_low a_is_low fd_is_low
  g_is_low : mg "is_low" = some (.ref a_is_low)
  bd_is_low : Binds K fd_is_low ["rows", "lefts", "rights", "sums", "start", "stop"] []
  a_L_pot : Addr
  fd_L_pot : FuncData
  f_L_pot : Fun K "_law_pot" "_law_pot" s_L_pot a_L_pot fd_L_pot
  g_L_pot : mg "_law_pot" = some (.ref a_L_pot)
  bd_L_pot : Binds K fd_L_pot ["_law_script", "_law_k"] []
  a_L_take : Addr
  fd_L_take : FuncData
  f_L_take : Fun K "_law_take" "_law_take" s_L_take a_L_take fd_L_take
  g_L_take : mg "_law_take" = some (.ref a_L_take)
  bd_L_take : Binds K fd_L_take ["_law_pot_here", "_law_wide"] []
  a_L_of : Addr
  fd_L_of : FuncData
  f_L_of : Fun K "_law_of" "_law_of" s_L_of a_L_of fd_L_of
  g_L_of : mg "_law_of" = some (.ref a_L_of)
  bd_L_of : Binds K fd_L_of ["_law_pot_here", "_law_some"] []
  a_L_load : Addr
  fd_L_load : FuncData
  f_L_load : Fun K "_law_load" "_law_load" s_L_load a_L_load fd_L_load
  g_L_load : mg "_law_load" = some (.ref a_L_load)
  bd_L_load : Binds K fd_L_load ["_law_pot_here", "_law_count", "_law_wide"] []
  a_L_sums : Addr
  fd_L_sums : FuncData
  f_L_sums : Fun K "_law_sums" "_law_sums" s_L_sums a_L_sums fd_L_sums
  g_L_sums : mg "_law_sums" = some (.ref a_L_sums)
  bd_L_sums : Binds K fd_L_sums ["_law_some"] []
  a_L_odd : Addr
  fd_L_odd : FuncData
  f_L_odd : Fun K "_law_odd" "_law_odd" s_L_odd a_L_odd fd_L_odd
  g_L_odd : mg "_law_odd" = some (.ref a_L_odd)
  bd_L_odd : Binds K fd_L_odd ["_law_pot_here"] []
  a_L_bent : Addr
  fd_L_bent : FuncData
  f_L_bent : Fun K "_law_bent" "_law_bent" s_L_bent a_L_bent fd_L_bent
  g_L_bent : mg "_law_bent" = some (.ref a_L_bent)
  bd_L_bent : Binds K fd_L_bent ["_law_pot_here", "_law_thing"] []
  a_L_is_int : Addr
  fd_L_is_int : FuncData
  f_L_is_int : Fun K "_law_is_int" "_law_is_int" s_L_is_int a_L_is_int fd_L_is_int
  g_L_is_int : mg "_law_is_int" = some (.ref a_L_is_int)
  bd_L_is_int : Binds K fd_L_is_int ["_law_thing"] []
  a_L_has_shape : Addr
  fd_L_has_shape : FuncData
  f_L_has_shape : Fun K "_law_has_shape" "_law_has_shape" s_L_has_shape a_L_has_shape fd_L_has_shape
  g_L_has_shape : mg "_law_has_shape" = some (.ref a_L_has_shape)
  bd_L_has_shape : Binds K fd_L_has_shape ["_law_count", "_law_thing"] []
  a_L_is_bound : Addr
  fd_L_is_bound : FuncData
  f_L_is_bound : Fun K "_law_is_bound" "_law_is_bound" s_L_is_bound a_L_is_bound fd_L_is_bound
  g_L_is_bound : mg "_law_is_bound" = some (.ref a_L_is_bound)
  bd_L_is_bound : Binds K fd_L_is_bound ["_law_bulk", "_law_looks", "_law_thing"] []
  a_L_lowered : Addr
  fd_L_lowered : FuncData
  f_L_lowered : Fun K "_law_lowered" "_law_lowered" s_L_lowered a_L_lowered fd_L_lowered
  g_L_lowered : mg "_law_lowered" = some (.ref a_L_lowered)
  bd_L_lowered : Binds K fd_L_lowered ["_law_pot_here", "_law_bulk", "_law_looks"] []
  a_L_raised : Addr
  fd_L_raised : FuncData
  f_L_raised : Fun K "_law_raised" "_law_raised" s_L_raised a_L_raised fd_L_raised
  g_L_raised : mg "_law_raised" = some (.ref a_L_raised)
  bd_L_raised : Binds K fd_L_raised ["_law_pot_here", "_law_rows"] []
  a_L_right : Addr
  fd_L_right : FuncData
  f_L_right : Fun K "_law_right" "_law_right" s_L_right a_L_right fd_L_right
  g_L_right : mg "_law_right" = some (.ref a_L_right)
  bd_L_right : Binds K fd_L_right ["_law_pot_here"] []
  a_law : Addr
  fd_law : FuncData
  f_law : Fun K "law" "law" s_law a_law fd_law
  g_law : mg "law" = some (.ref a_law)
  bd_law : Binds K fd_law ["_law_script"] []
  b_isinstance : mg "isinstance" = none
  b_int : mg "int" = none
  b_bool : mg "bool" = none
  b_all : mg "all" = none
  b_tuple : mg "tuple" = none
  b_len : mg "len" = none
  b_reversed : mg "reversed" = none
  b_range : mg "range" = none
  b_min : mg "min" = none
  b_enumerate : mg "enumerate" = none
  b_abs : mg "abs" = none
  b_list : mg "list" = none
  b_str : mg "str" = none
  b_repr : mg "repr" = none
  t_MOST_LOAD : Tok
  c_MOST_LOAD : mg "MOST_LOAD" = some (.int (1000000000) t_MOST_LOAD)
  t_MOST_FLUSHES : Tok
  c_MOST_FLUSHES : mg "MOST_FLUSHES" = some (.int (60) t_MOST_FLUSHES)
section
variable {P : Program} {w : World} {K : PySem.W.Frag} {mg : Str → Option Value} {base : Heap}
def sp_is_int (K : PySem.W.Frag) : Sp := fun vs H Q _ => ∃ i : Int, vs = [.int i] ∧ Q (.bl true) H
theorem ok_is_int (TX : Tx K mg) : FnOk P w K mg base CX0 1 TX.a_is_int TX.fd_is_int ["value"] (sp_is_int K) := by
  refine TX.f_is_int.ok sc_is_int (fun vs H Q E h => ?_) (fun cdv A outer s H vs Q E hr h => ?_)
  · obtain ⟨i, rfl, _⟩ := h; rfl
  · obtain ⟨i, rfl, q⟩ := h
    refine ⟨_, (pss_one (ps_ret (pe_and (pe_callB (id := "isinstance") (k_isi (K := K) rfl) (by rfl) TX.b_isinstance (by decide +kernel) (pa_cons (pv 0) (pa_cons (pe_bltn (v := .ty "int") (by rfl) TX.b_int (by decide +kernel) rfl) pa_nil))) (pe_one (pe_not (pe_callB (id := "isinstance") (k_isi (K := K) rfl) (by rfl) TX.b_isinstance (by decide +kernel) (pa_cons (pv 0) (pa_cons (pe_bltn (v := .ty "bool") (by rfl) TX.b_bool (by decide +kernel) rfl) pa_nil)))))))), ?_⟩
    refine ⟨.int i, rfl, .int i, .ty "int", .type "int", .type "int", true, rfl, .ty _, .base (.int i), kit_ty (by decide +kernel), true, rfl, ?_⟩
    exact iteT ⟨.int i, rfl, .int i, .ty "bool", .type "int", .type "bool", false, rfl, .ty _, .base (.int i), kit_ty (by decide +kernel), false, rfl, q⟩
def sp_is_count (K : PySem.W.Frag) : Sp := fun vs H Q _ => ∃ i : Int, vs = [.int i] ∧ Q (.bl (decide (0 ≤ i))) H
theorem ok_is_count (TX : Tx K mg) : FnOk P w K mg base CX0 2 TX.a_is_count TX.fd_is_count ["value"] (sp_is_count K) := by
  refine TX.f_is_count.ok sc_is_count (fun vs H Q E h => ?_) (fun cdv A outer s H vs Q E hr h => ?_)
  · obtain ⟨i, rfl, _⟩ := h; rfl
  · obtain ⟨i, rfl, q⟩ := h
    refine ⟨_, (pss_one (ps_ret (pe_and (pe_call (ok_is_int TX) (hr.mono (by decide)) (by rfl) TX.g_is_int TX.f_is_int.kp TX.bd_is_int .nil pass0 (pa_cons (pv 0) pa_nil)) (pe_one (pe_cmpR op_ge (pv 0) pe_int (nomark _)))))), ?_⟩
    exact ⟨.int i, rfl, i, rfl, true, rfl, iteT ⟨.int i, rfl, i, 0, rfl, rfl, q⟩⟩
def sp_is_count_up_to (K : PySem.W.Frag) : Sp := fun vs H Q _ => ∃ i m : Int, vs = [.int i, .int m] ∧ Q (.bl (decide (0 ≤ i) && decide (i ≤ m))) H
theorem ok_is_count_up_to (TX : Tx K mg) : FnOk P w K mg base CX0 3 TX.a_is_count_up_to TX.fd_is_count_up_to ["value", "most"] (sp_is_count_up_to K) := by
  refine TX.f_is_count_up_to.ok sc_is_count_up_to (fun vs H Q E h => ?_) (fun cdv A outer s H vs Q E hr h => ?_)
  · obtain ⟨i, m, rfl, _⟩ := h; rfl
  · obtain ⟨i, m, rfl, q⟩ := h
    refine ⟨_, (pss_one (ps_ret (pe_and (pe_call (ok_is_count TX) (hr.mono (by decide)) (by rfl) TX.g_is_count TX.f_is_count.kp TX.bd_is_count .nil pass0 (pa_cons (pv 0) pa_nil)) (pe_one (pe_cmpR op_le (pv 0) (pv 1) (nomark _)))))), ?_⟩
    refine ⟨.int i, rfl, i, rfl, _, rfl, ?_⟩
    by_cases h0 : 0 ≤ i
    · rw [decide_eq_true h0] at q ⊢
      exact iteT ⟨.int i, rfl, .int m, rfl, i, m, rfl, rfl, q⟩
    · rw [decide_eq_false h0] at q ⊢
      exact iteF q
end
theorem dpBoolsI {K : PySem.W.Frag} {H : Hp} : ∀ {vs : List V} {bs : List Bool}, DpAll K H vs (bs.map PyData.bool) → vs = bs.map V.bl
  | _, [], .nil => rfl
  | _, _ :: _, .cons a b => by
    cases a
    rw [dpBoolsI b]; rfl
section
variable {P : Program} {w : World} {K : PySem.W.Frag} {mg : Str → Option Value} {base : Heap}
/-- sizes or reads -/
def Lds (ns : List Int) : Prop := ∀ x, x ∈ ns → 0 ≤ x ∧ x ≤ 1000000000
def sp_are_loads (K : PySem.W.Frag) : Sp := fun vs H Q _ => ∃ (a : Addr) (ns : List Int) (lo hi : Int), vs = [.ref a, .int lo, .int hi] ∧ SqT K H a (ns.map V.int) ∧ Lds ns ∧ lo ≤ (ns.length : Int) ∧ (ns.length : Int) ≤ hi ∧ ns.length ≤ 1000 ∧ ∀ H', Same H H' → Q (.bl true) H'
theorem ok_are_loads (TX : Tx K mg) : FnOk P w K mg base CX0 4 TX.a_are_loads TX.fd_are_loads ["value", "fewest", "most"] (sp_are_loads K) := by
  refine TX.f_are_loads.ok sc_are_loads (fun vs H Q E h => ?_) (fun cdv A outer s H vs Q E hr h => ?_)
  · obtain ⟨a, ns, lo, hi, rfl, _⟩ := h; rfl
  · obtain ⟨a, ns, lo, hi, rfl, hS, hL, h1, h2, h3, q⟩ := h
    have hlen : ((ns.map V.int).length : Int) = (ns.length : Int) := by rw [List.length_map]
    refine ⟨_, (pss_cons (ps_if (PW.pt (pw_or (pt_not (pt_val (pe_callB (id := "isinstance") (k_isi (K := K) rfl) (by rfl) TX.b_isinstance (by decide +kernel) (pa_cons (pv 0) (pa_cons (pe_bltn (v := .ty "tuple") (by rfl) TX.b_tuple (by decide +kernel) rfl) pa_nil))))) (pw_or1 (pt_not (pt_chain op_le op_le (pv 1) (pe_callB (id := "len") (k_len (K := K) rfl) (by rfl) TX.b_len (by decide +kernel) (pa_cons (pv 0) pa_nil)) (pv 2))))))
        (pss_one (ps_ret pe_bl))
        pss_nil)
      (pss_one (ps_ret (pe_callB (id := "all") (cr_all rfl) (by rfl) TX.b_all (by decide +kernel) (pa_cons (pe_lc (own := [("load", 3)]) (by rfl) sc_are_loads.nd (k_piT (K := K) rfl (pv 0)) (blkOk_by (own := [("load", 3)]) (N := N_are_loads) (sc := defScope s_are_loads) (by decide +kernel)) (fun _ _ _ _ _ => (pg_name (i := 3) sc_are_loads.nd rfl (Or.inl rfl))) (fun _ _ _ _ _ => pts_nil) (fun _ _ _ _ _ => (pe_call (ok_is_count_up_to TX) (hr.mono (by decide)) (by rfl) TX.g_is_count_up_to TX.f_is_count_up_to.kp TX.bd_is_count_up_to .nil pass0 (pa_cons (pv 3) (pa_cons (pe_glob (v := .int (1000000000)) (by rfl) TX.c_MOST_LOAD ⟨_, rfl⟩) pa_nil))))) pa_nil))))), ?_⟩
    refine ⟨.ref a, rfl, .ref a, .ty "tuple", .type "tuple", .type "tuple", true, rfl, .ty _, ty_tup hS, kit_ty (by decide +kernel), true, rfl, iteF ⟨_, rfl, .ref a, rfl, a, _, rfl, .inr hS, _, _, rfl, rfl, _, rfl, ?_⟩⟩
    refine decT (by rw [hlen]; exact h1) ⟨_, rfl, _, _, rfl, rfl, _, rfl, iteB0 (by rw [hlen, decide_eq_true h2]; rfl) ?_⟩
    refine ⟨.ref a, rfl, a, rfl, ⟨_, hS⟩, fun D nD => ?_⟩
    refine lc_all (K := K) (walk_tup (xs := ns.map V.int)) ((List.replicate ns.length true).map PyData.bool) (by rw [List.length_map, List.length_replicate, List.length_map]) (fun d h => by obtain ⟨b, _, rfl⟩ := List.mem_map.mp h; exact .bl b) (by rw [List.length_map]; exact h3) nD (fun H' s' => Same.tup s' hS) ?_ ?_ (fun x σ' H' Q Q' h => h _ _) (fun σ' H' Q Q' h => h _ _)
    · rintro i x Hx Hx' hi sx ⟨rfl, hx⟩ d hd R hR
      rw [List.getElem?_map, Option.map_eq_some_iff] at hx
      obtain ⟨z, hz, rfl⟩ := hx
      have hz2 := hL z (List.mem_of_getElem? hz)
      refine ⟨rfl, rfl, _, rfl, z, 1000000000, rfl, hR _ _ (Same.refl _) ?_⟩
      rw [decide_eq_true hz2.1, decide_eq_true hz2.2]
      rw [List.getElem?_map, List.getElem?_replicate, if_pos (by rw [List.length_map] at hi; exact hi)] at hd
      cases hd
      exact .bl true
    · intro H2 acc s2 ha hA
      rw [dpBoolsI hA] at ha
      refine ⟨D, List.replicate ns.length true, rfl, .inl (.inl ha), ?_⟩
      have e : (List.replicate ns.length true).all id = true := by simp
      rw [e]
      exact q _ s2
def sp_check_sizes (K : PySem.W.Frag) : Sp := fun vs H Q _ => ∃ (a : Addr) (ns : List Int) (lo hi : Int), vs = [.ref a, .int lo, .int hi] ∧ SqT K H a (ns.map V.int) ∧ Lds ns ∧ lo ≤ (ns.length : Int) ∧ (ns.length : Int) ≤ hi ∧ ns.length ≤ 1000 ∧ ∀ H', Same H H' → Q .non H'
theorem ok_check_sizes (TX : Tx K mg) : FnOk P w K mg base CX0 5 TX.a_check_sizes TX.fd_check_sizes ["sizes", "fewest", "most"] (sp_check_sizes K) := by
  refine TX.f_check_sizes.ok sc_check_sizes (fun vs H Q E h => ?_) (fun cdv A outer s H vs Q E hr h => ?_)
  · obtain ⟨a, ns, lo, hi, rfl, _⟩ := h; rfl
  · obtain ⟨a, ns, lo, hi, rfl, hS, hL, h1, h2, h3, q⟩ := h
    refine ⟨_, (pss_one (ps_if (pt_not (pt_val (pe_call (ok_are_loads TX) (hr.mono (by decide)) (by rfl) TX.g_are_loads TX.f_are_loads.kp TX.bd_are_loads .nil pass0 (pa_cons (pv 0) (pa_cons (pv 1) (pa_cons (pv 2) pa_nil))))))
        (pss_one ps_never)
        pss_nil)), ?_⟩
    exact ⟨.ref a, rfl, .int lo, rfl, .int hi, rfl, a, ns, lo, hi, rfl, hS, hL, h1, h2, h3, fun H' s' => ⟨true, rfl, iteF (q H' s')⟩⟩
def sp_check_reads (K : PySem.W.Frag) : Sp := fun vs H Q _ => ∃ (a : Addr) (ns : List Int), vs = [.ref a, .int (ns.length : Int)] ∧ SqT K H a (ns.map V.int) ∧ Lds ns ∧ ns.length ≤ 1000 ∧ ∀ H', Same H H' → Q .non H'
theorem ok_check_reads (TX : Tx K mg) : FnOk P w K mg base CX0 5 TX.a_check_reads TX.fd_check_reads ["reads", "flushes"] (sp_check_reads K) := by
  refine TX.f_check_reads.ok sc_check_reads (fun vs H Q E h => ?_) (fun cdv A outer s H vs Q E hr h => ?_)
  · obtain ⟨a, ns, rfl, _⟩ := h; rfl
  · obtain ⟨a, ns, rfl, hS, hL, h3, q⟩ := h
    refine ⟨_, (pss_one (ps_if (pt_not (pt_val (pe_call (ok_are_loads TX) (hr.mono (by decide)) (by rfl) TX.g_are_loads TX.f_are_loads.kp TX.bd_are_loads .nil pass0 (pa_cons (pv 0) (pa_cons (pv 1) (pa_cons (pv 1) pa_nil))))))
        (pss_one ps_never)
        pss_nil)), ?_⟩
    exact ⟨.ref a, rfl, .int _, rfl, .int _, rfl, a, ns, _, _, rfl, hS, hL, Int.le_refl _, Int.le_refl _, h3, fun H' s' => ⟨true, rfl, iteF (q H' s')⟩⟩
def sp_check_loads (K : PySem.W.Frag) : Sp := fun vs H Q _ => ∃ (a b : Addr) (ss rs : List Int) (m : Int), vs = [.ref a, .ref b, .int m] ∧ SqT K H a (ss.map V.int) ∧ SqT K H b (rs.map V.int) ∧ Lds ss ∧ Lds rs ∧ ss.length = rs.length ∧ (ss.length : Int) ≤ m ∧ ss.length ≤ 1000 ∧ ∀ H', Same H H' → Q .non H'
theorem ok_check_loads (TX : Tx K mg) : FnOk P w K mg base CX0 6 TX.a_check_loads TX.fd_check_loads ["sizes", "reads", "most"] (sp_check_loads K) := by
  refine TX.f_check_loads.ok sc_check_loads (fun vs H Q E h => ?_) (fun cdv A outer s H vs Q E hr h => ?_)
  · obtain ⟨a, b, ss, rs, m, rfl, _⟩ := h; rfl
  · obtain ⟨a, b, ss, rs, m, rfl, hA, hB, hs, hr', he, h1, h3, q⟩ := h
    refine ⟨_, (pss_cons (ps_expr (pe_call (ok_check_sizes TX) (hr.mono (by decide)) (by rfl) TX.g_check_sizes TX.f_check_sizes.kp TX.bd_check_sizes .nil pass0 (pa_cons (pv 0) (pa_cons pe_int (pa_cons (pv 2) pa_nil)))))
      (pss_one (ps_expr (pe_call (ok_check_reads TX) (hr.mono (by decide)) (by rfl) TX.g_check_reads TX.f_check_reads.kp TX.bd_check_reads .nil pass0 (pa_cons (pv 1) (pa_cons (pe_callB (id := "len") (k_len (K := K) rfl) (by rfl) TX.b_len (by decide +kernel) (pa_cons (pv 0) pa_nil)) pa_nil)))))), ?_⟩
    refine ⟨.ref a, rfl, .int m, rfl, a, ss, 0, m, rfl, hA, hs, by omega, h1, h3, fun H1 s1 => ?_⟩
    refine ⟨.ref b, rfl, .ref a, rfl, a, _, rfl, .inr (Same.tup s1 hA), b, rs, ?_, Same.tup s1 hB, hr', by omega, fun H2 s2 => q _ (s1.trans s2)⟩
    rw [List.length_map, he]; rfl
end
/-- the sums of the first ones, as values -/
def sms (ns : List Int) : List V := (List.range (ns.length + 1)).map fun k => V.int (sm ns k)
theorem sms_len (ns : List Int) : (sms ns).length = ns.length + 1 := by simp [sms]
theorem sms_at {ns : List Int} {k : Nat} (h : k ≤ ns.length) : (sms ns)[k]? = some (.int (sm ns k)) := by
  unfold sms
  rw [List.getElem?_map, List.getElem?_range (by omega)]; rfl
def Sms (K : PySem.W.Frag) (H : Hp) (v : V) (ss rs : List Int) : Prop := ∃ a b c, v = .ref a ∧ SqT K H a [.ref b, .ref c] ∧ SqL K H b (sms ss) ∧ SqL K H c (sms rs)
theorem Sms.same {K : PySem.W.Frag} {H H' : Hp} {v : V} {ss rs : List Int} (h : Sms K H v ss rs) (e : Same H H') : Sms K H' v ss rs := by
  obtain ⟨a, b, c, h1, h2, h3, h4⟩ := h
  exact ⟨a, b, c, h1, Same.tup e h2, e.seq h3, e.seq h4⟩
theorem SqQ.same {K : PySem.W.Frag} {H H' : Hp} {a : Addr} {xs : List V} (h : SqQ K H a xs) (e : Same H H') : SqQ K H' a xs := by
  rcases h with h | h
  · exact .inl (e.seq h)
  · exact .inr (Same.tup e h)
/-- v[i][k] is x -/
def Rd (K : PySem.W.Frag) (H : Hp) (v : V) (i k : Nat) (x : Int) : Prop := ∃ a xs b ys, v = .ref a ∧ SqQ K H a xs ∧ xs[i]? = some (.ref b) ∧ SqQ K H b ys ∧ ys[k]? = some (.int x)
theorem Rd.same {K : PySem.W.Frag} {H H' : Hp} {v : V} {i k : Nat} {x : Int} (h : Rd K H v i k x) (e : Same H H') : Rd K H' v i k x := by
  obtain ⟨a, xs, b, ys, h1, h2, h3, h4, h5⟩ := h
  exact ⟨a, xs, b, ys, h1, h2.same e, h3, h4.same e, h5⟩
def wbr (S R : Nat → Int) (i m : Nat) : List (Int × Int) := (List.range m).map fun k => (lw S R i k + lw S R (i + k + 1) (m - 1 - k) + cst S R i m k, ((i + k : Nat) : Int))
theorem wbr_via (S R : Nat → Int) (i m : Nat) : wbr S R i (m + 1) = (via S R i m 0, ((i : Nat) : Int)) :: (List.range m).map fun j => (via S R i m (j + 1), ((i + (j + 1) : Nat) : Int)) := by
  unfold wbr
  rw [List.range_succ_eq_map, List.map_cons, List.map_map]
  rfl
theorem wbr_min (S R : Nat → Int) (i m : Nat) : PySem.W.minOf (via S R i m 0, ((i : Nat) : Int)) ((List.range m).map fun j => (via S R i m (j + 1), ((i + (j + 1) : Nat) : Int))) = (lw S R i (m + 1), ((i + rt S R i m : Nat) : Int)) := by
  rw [minOf_amin, lw_succ]; rfl
section
variable {P : Program} {w : World} {K : PySem.W.Frag} {mg : Str → Option Value} {base : Heap}
def sp_running_sums (K : PySem.W.Frag) : Sp := fun vs H Q _ => ∃ (a : Addr) (ns : List Int), vs = [.ref a] ∧ SqT K H a (ns.map V.int) ∧ ns.length ≤ 1000 ∧ ∀ H' p, Same H H' → H p = none → H' p = some (.lst (sms ns)) → Q (.ref p) H'
theorem ok_running_sums (TX : Tx K mg) : FnOk P w K mg base CX0 1 TX.a_running_sums TX.fd_running_sums ["loads"] (sp_running_sums K) := by
  refine TX.f_running_sums.ok sc_running_sums (fun vs H Q E h => ?_) (fun cdv A outer s H vs Q E hr h => ?_)
  · obtain ⟨a, ns, rfl, _⟩ := h; rfl
  · obtain ⟨a, ns, rfl, hS, h3, q⟩ := h
    refine ⟨_, (pss_cons (ps_set (i := 1) sc_running_sums.nd rfl (.inl rfl) (pe_lst (pa_cons pe_int pa_nil)))
      (pss_cons (ps_for PassesOwn.never rfl (k_piT (K := K) rfl (pv 0)) (pg_name (i := 2) sc_running_sums.nd rfl (.inl rfl))
        (pss_one (ps_expr (pe_bm PySem.F.plainAttrs_list PySem.F.slot_list_append PySem.F.type_list_append mt_append (pv 1) (pa_cons (pe_op op_add (pe_ix (k_ixL (K := K) rfl) (pv 1) (pe_un un_neg pe_int) (fun _ _ => rfl)) (pv 2)) pa_nil)))))
      (pss_one (ps_ret (pv 1))))), ?_⟩
    refine ⟨sz60 (by simp), fun l nl => ?_⟩
    have s1 := same_upd (o := .lst [V.int 0]) nl
    refine ⟨.ref a, rfl, a, rfl, ⟨_, Same.tup s1 hS⟩, for_tup (K := K) (xs := ns.map V.int) (fun i σ H' => ∃ y2, σ = [some (.ref a), some (.ref l), y2] ∧ Same H H' ∧ H' l = some (.lst ((List.range (i + 1)).map fun k => V.int (sm ns k)))) ⟨none, rfl, s1, by rw [upd_same]; simp [sm_zero]⟩ (fun i σ H' _ ⟨_, _, h, _⟩ => Same.tup h hS) ?_ ?_⟩
    · rintro i x σ H2 hx ⟨y2, rfl, s2, h2⟩
      rw [List.getElem?_map, Option.map_eq_some_iff] at hx
      obtain ⟨z, hz, rfl⟩ := hx
      have hi : i < ns.length := (List.getElem?_eq_some_iff.mp hz).1
      have e1 : ((List.range (i + 1)).map fun k => V.int (sm ns k)) = ((List.range i).map fun k => V.int (sm ns k)) ++ [V.int (sm ns i)] := by rw [List.range_succ, List.map_append]; rfl
      refine ⟨.ref l, rfl, .inl ⟨rfl, _, .inl (.inl h2)⟩, .ref l, rfl, _, rfl, l, _, -1, _, rfl, rfl, .inl (.inl h2), (by rw [e1]; exact atI_last _ _), _, rfl, _, _, rfl, rfl, l, _, _, rfl, rfl, h2, sz61 (by simp; omega), ?_⟩
      refine ⟨_, rfl, Same.mut s2 nl, ?_⟩
      rw [upd_same, List.range_succ (n := i + 1), List.map_append]
      show _ = some (HO.lst (_ ++ [V.int (sm ns (i + 1))]))
      rw [sm_succ hz]
    · rintro σ H2 ⟨y2, rfl, s2, h2⟩
      rw [List.length_map] at h2
      exact ⟨_, rfl, q _ l s2 nl h2⟩
def sp_load_sums (K : PySem.W.Frag) : Sp := fun vs H Q _ => ∃ (a b : Addr) (ss rs : List Int), vs = [.ref a, .ref b] ∧ SqT K H a (ss.map V.int) ∧ SqT K H b (rs.map V.int) ∧ ss.length ≤ 1000 ∧ rs.length ≤ 1000 ∧ ∀ H' p, Same H H' → Sms K H' (.ref p) ss rs → Q (.ref p) H'
theorem ok_load_sums (TX : Tx K mg) : FnOk P w K mg base CX0 2 TX.a_load_sums TX.fd_load_sums ["sizes", "reads"] (sp_load_sums K) := by
  refine TX.f_load_sums.ok sc_load_sums (fun vs H Q E h => ?_) (fun cdv A outer s H vs Q E hr h => ?_)
  · obtain ⟨a, b, ss, rs, rfl, _⟩ := h; rfl
  · obtain ⟨a, b, ss, rs, rfl, hA, hB, h1, h2, q⟩ := h
    refine ⟨_, (pss_one (ps_ret (pe_tup (pa_cons (pe_call (ok_running_sums TX) (hr.mono (by decide)) (by rfl) TX.g_running_sums TX.f_running_sums.kp TX.bd_running_sums .nil pass0 (pa_cons (pv 0) pa_nil)) (pa_cons (pe_call (ok_running_sums TX) (hr.mono (by decide)) (by rfl) TX.g_running_sums TX.f_running_sums.kp TX.bd_running_sums .nil pass0 (pa_cons (pv 1) pa_nil)) pa_nil))))), ?_⟩
    refine ⟨.ref a, rfl, a, ss, rfl, hA, h1, fun H1 p1 s1 n1 hp1 => ⟨.ref b, rfl, b, rs, rfl, Same.tup s1 hB, h2, fun H2 p2 s2 n2 hp2 => ⟨sz60 (by simp), fun p np => ?_⟩⟩⟩
    have s3 := same_upd (o := .tup [V.ref p1, V.ref p2]) np
    exact q _ p ((s1.trans s2).trans s3) ⟨p, p1, p2, rfl, .inl (.inl upd_same), .inl (.inl (s3 _ _ (s2 _ _ hp1))), .inl (.inl (s3 _ _ hp2))⟩
def sp_root_cost (K : PySem.W.Frag) : Sp := fun vs H Q _ => ∃ (v : V) (ss rs : List Int) (i m k : Nat), vs = [v, .int (i : Int), .int ((i + m : Nat) : Int), .int ((i + k : Nat) : Int)] ∧ Sms K H v ss rs ∧ i + m ≤ ss.length ∧ i + m ≤ rs.length ∧ k < m ∧ Q (.int (cst (sm ss) (sm rs) i m k)) H
theorem ok_root_cost (TX : Tx K mg) : FnOk P w K mg base CX0 1 TX.a_root_cost TX.fd_root_cost ["sums", "start", "stop", "root"] (sp_root_cost K) := by
  refine TX.f_root_cost.ok sc_root_cost (fun vs H Q E h => ?_) (fun cdv A outer s H vs Q E hr h => ?_)
  · obtain ⟨v, ss, rs, i, m, k, rfl, _⟩ := h; rfl
  · obtain ⟨v, ss, rs, i, m, k, rfl, ⟨a, b, c, rfl, hA, hB, hC⟩, h1, h2, h3, q⟩ := h
    refine ⟨_, (pss_cons (ps_asg (pv 0) (pg_tup rfl (pgs_cons (pg_name (i := 4) sc_root_cost.nd rfl (.inl rfl)) (pgs_cons (pg_name (i := 5) sc_root_cost.nd rfl (.inl rfl)) pgs_nil))))
      (pss_one (ps_ret (pe_op op_sub (pe_op op_add (pe_op op_sub (pe_ix (k_ixL (K := K) rfl) (pv 4) (pe_op op_add (pv 3) pe_int) (fun _ _ => rfl)) (pe_ix (k_ixL (K := K) rfl) (pv 4) (pv 1) (fun _ _ => rfl))) (pe_ix (k_ixL (K := K) rfl) (pv 5) (pv 2) (fun _ _ => rfl))) (pe_ix (k_ixL (K := K) rfl) (pv 5) (pv 3) (fun _ _ => rfl)))))), ?_⟩
    have e1 : ((i + k : Nat) : Int) + 1 = ((i + k + 1 : Nat) : Int) := by omega
    refine ⟨.ref a, rfl, a, _, rfl, hA, rfl, _, _, rfl, _, [], rfl, rfl, ?_⟩
    refine ⟨.ref b, rfl, _, rfl, _, _, rfl, rfl, b, _, _, _, rfl, rfl, hB, (by rw [e1]; exact atI_nat (sms_at (by omega))), .ref b, rfl, _, rfl, b, _, _, _, rfl, rfl, hB, atI_nat (sms_at (by omega)), _, _, rfl, rfl, ?_⟩
    refine ⟨.ref c, rfl, _, rfl, c, _, _, _, rfl, rfl, hC, atI_nat (sms_at (by omega)), _, _, rfl, rfl, .ref c, rfl, _, rfl, c, _, _, _, rfl, rfl, hC, atI_nat (sms_at (by omega)), _, _, rfl, rfl, q⟩
end
section
variable {P : Program} {w : World} {K : PySem.W.Frag} {mg : Str → Option Value} {base : Heap}
theorem tf_dP (p : Int × Int) : Tf (dP p) := .tup fun d h => by
  rcases List.mem_cons.mp h with rfl | h
  · exact .int _
  · rcases List.mem_cons.mp h with rfl | h
    · exact .int _
    · cases h
theorem dp_dP {K : PySem.W.Frag} {H : Hp} {a : Addr} {x y : Int} (h : SqT K H a [V.int x, V.int y]) : Dp K H (.ref a) (dP (x, y)) := .tup h (dp_ints [x, y])
/-- what the roots of the m flushes from i on ask of two tables -/
def Rds (K : PySem.W.Frag) (H : Hp) (v u : V) (S R : Nat → Int) (i m : Nat) : Prop := (∀ k, k < m → Rd K H v i k (lw S R i k)) ∧ ∀ k, k < m → Rd K H u (i + k + 1) (m - 1 - k) (lw S R (i + k + 1) (m - 1 - k))
theorem Rds.same {K : PySem.W.Frag} {H H' : Hp} {v u : V} {S R : Nat → Int} {i m : Nat} (h : Rds K H v u S R i m) (e : Same H H') : Rds K H' v u S R i m :=
  ⟨fun k hk => (h.1 k hk).same e, fun k hk => (h.2 k hk).same e⟩
def sp_works_by_root (K : PySem.W.Frag) : Sp := fun vs H Q _ => ∃ (v u z : V) (ss rs : List Int) (i m : Nat), vs = [v, u, z, .int (i : Int), .int ((i + m : Nat) : Int)] ∧ Sms K H z ss rs ∧ i + m ≤ ss.length ∧ i + m ≤ rs.length ∧ ss.length ≤ 1000 ∧ Rds K H v u (sm ss) (sm rs) i m ∧
  ∀ H' p us, Same H H' → H p = none → H' p = some (.lst us) → DpAll K H' us ((wbr (sm ss) (sm rs) i m).map dP) → Q (.ref p) H'
theorem ok_works_by_root (TX : Tx K mg) : FnOk P w K mg base CX0 2 TX.a_works_by_root TX.fd_works_by_root ["lefts", "rights", "sums", "start", "stop"] (sp_works_by_root K) := by
  refine TX.f_works_by_root.ok sc_works_by_root (fun vs H Q E h => ?_) (fun cdv A outer s H vs Q E hr h => ?_)
  · obtain ⟨v, u, z, ss, rs, i, m, rfl, _⟩ := h; rfl
  · obtain ⟨v, u, z, ss, rs, i, m, rfl, hZ, h1, h2, h3, hR, q⟩ := h
    refine ⟨_, (pss_cons (ps_set (i := 5) sc_works_by_root.nd rfl (.inl rfl) (pe_lst pa_nil))
      (pss_cons (ps_for PassesOwn.never rfl (pi_range2 (by rfl) TX.b_range (pa_cons (pv 3) (pa_cons (pv 4) pa_nil))) (pg_name (i := 6) sc_works_by_root.nd rfl (.inl rfl))
        (pss_cons (ps_set (i := 7) sc_works_by_root.nd rfl (.inl rfl) (pe_ix (k_ixQ (K := K) rfl) (pe_ix (k_ixQ (K := K) rfl) (pv 0) (pv 3) (fun _ _ => rfl)) (pe_op op_sub (pv 6) (pv 3)) (fun _ _ => rfl)))
        (pss_cons (ps_set (i := 8) sc_works_by_root.nd rfl (.inl rfl) (pe_ix (k_ixQ (K := K) rfl) (pe_ix (k_ixQ (K := K) rfl) (pv 1) (pe_op op_add (pv 6) pe_int) (fun _ _ => rfl)) (pe_op op_sub (pe_op op_sub (pv 4) (pv 6)) pe_int) (fun _ _ => rfl)))
        (pss_one (ps_if (PW.pt (pw_and (pt_cmpR op_notN (pv 7) pe_non (nomark _)) (pw_and1 (pt_cmpR op_notN (pv 8) pe_non (nomark _)))))
          (pss_one (ps_expr (pe_bm PySem.F.plainAttrs_list PySem.F.slot_list_append PySem.F.type_list_append mt_append (pv 5) (pa_cons (pe_tup (pa_cons (pe_op op_add (pe_op op_add (pv 7) (pv 8)) (pe_call (ok_root_cost TX) (hr.mono (by decide)) (by rfl) TX.g_root_cost TX.f_root_cost.kp TX.bd_root_cost .nil pass0 (pa_cons (pv 2) (pa_cons (pv 3) (pa_cons (pv 4) (pa_cons (pv 6) pa_nil)))))) (pa_cons (pv 6) pa_nil))) pa_nil))))
          pss_nil)))))
      (pss_one (ps_ret (pv 5))))), ?_⟩
    refine ⟨sz60 (by simp), fun l nl => ?_⟩
    have s1 := same_upd (o := .lst []) nl
    have en : ((((i + m : Nat) : Int)) - ((i : Nat) : Int)).toNat = m := by omega
    refine ⟨_, rfl, _, rfl, _, _, rfl, ⟨by omega, by omega, by omega, by omega⟩, ?_⟩
    refine for_range (lo := ((i : Nat) : Int)) (fun j σ H' => ∃ y6 y7 y8 us, σ = [some v, some u, some z, some (.int (i : Int)), some (.int ((i + m : Nat) : Int)), some (.ref l), y6, y7, y8] ∧ Same H H' ∧ H' l = some (.lst us) ∧ DpAll K H' us (((wbr (sm ss) (sm rs) i m).take j).map dP)) ⟨none, none, none, [], rfl, s1, upd_same, .nil⟩ ?_ ?_
    · rintro j σ H2 hj ⟨y6, y7, y8, us, rfl, s2, hl, hA⟩
      rw [en] at hj
      obtain ⟨a, xs, b, ys, rfl, g1, g2, g3, g4⟩ := (hR.1 j hj).same s2
      obtain ⟨a', xs', b', ys', rfl, k1, k2, k3, k4⟩ := (hR.2 j hj).same s2
      have e1 : ((i : Nat) : Int) + ((j : Nat) : Int) = ((i + j : Nat) : Int) := by omega
      have e2 : ((i + j : Nat) : Int) - ((i : Nat) : Int) = ((j : Nat) : Int) := by omega
      have e3 : ((i + j : Nat) : Int) + 1 = ((i + j + 1 : Nat) : Int) := by omega
      have e4 : ((i + m : Nat) : Int) - ((i + j : Nat) : Int) - 1 = ((m - 1 - j : Nat) : Int) := by omega
      rw [e1]
      refine ⟨_, rfl, _, rfl, a, xs, _, _, rfl, rfl, g1, atI_nat g2, _, rfl, _, rfl, _, _, rfl, rfl, b, ys, _, _, rfl, rfl, g3, (by rw [e2]; exact atI_nat g4), ?_⟩
      refine ⟨_, rfl, _, rfl, _, _, rfl, rfl, a', xs', _, _, rfl, rfl, k1, (by rw [e3]; exact atI_nat k2), _, rfl, _, rfl, _, _, rfl, rfl, _, _, rfl, rfl, b', ys', _, _, rfl, rfl, k3, (by rw [e4]; exact atI_nat k4), ?_⟩
      refine ⟨_, rfl, rfl, _, rfl, iteB1 (by simp) ⟨_, rfl, rfl, _, rfl, iteB1 (by simp) ?_⟩⟩
      refine ⟨.ref l, rfl, .inl ⟨rfl, _, .inl (.inl hl)⟩, _, rfl, _, rfl, _, _, rfl, rfl, z, rfl, _, rfl, _, rfl, _, rfl, z, ss, rs, i, m, j, rfl, hZ.same s2, h1, h2, hj, _, _, rfl, rfl, _, rfl, sz60 (by simp), fun p np => ?_⟩
      have s3 := same_upd (o := .tup [V.int (lw (sm ss) (sm rs) i j + lw (sm ss) (sm rs) (i + j + 1) (m - 1 - j) + cst (sm ss) (sm rs) i m j), V.int ((i + j : Nat) : Int)]) np
      have hul := DpAll.len hA
      have hwl : (wbr (sm ss) (sm rs) i m).length = m := by simp [wbr]
      rw [List.length_map, List.length_take, hwl] at hul
      have hl3 := s3 _ _ hl
      refine ⟨l, us, _, rfl, rfl, hl3, sz61 (by omega), ?_⟩
      refine ⟨_, _, _, us ++ [V.ref p], rfl, Same.mut (s2.trans s3) nl, upd_same, ?_⟩
      have hg : (wbr (sm ss) (sm rs) i m)[j]? = some (lw (sm ss) (sm rs) i j + lw (sm ss) (sm rs) (i + j + 1) (m - 1 - j) + cst (sm ss) (sm rs) i m j, ((i + j : Nat) : Int)) := by
        unfold wbr
        rw [List.getElem?_map, List.getElem?_range hj]; rfl
      rw [List.take_add_one, hg, List.map_append]
      refine DpAll.keep (But.keep But.upd hl3) (fun d hd => ?_) (DpAll.append (DpAll.same s3 hA) (.cons ?_ .nil))
      · rcases List.mem_append.mp hd with hd | hd
        · obtain ⟨p, _, rfl⟩ := List.mem_map.mp hd
          exact tf_dP p
        · obtain ⟨p, _, rfl⟩ := List.mem_map.mp hd
          exact tf_dP p
      · exact dp_dP (.inl (.inl upd_same))
    · rintro σ H2 ⟨y6, y7, y8, us, rfl, s2, hl, hA⟩
      rw [en, List.take_of_length_le (by simp [wbr])] at hA
      exact ⟨_, rfl, q _ l us s2 nl hl hA⟩
end
/-- the first m works of the row of i -/
def rowc (S R : Nat → Int) (i m : Nat) : List Int := (List.range m).map fun j => lw S R i j
theorem rowc_len (S R : Nat → Int) (i m : Nat) : (rowc S R i m).length = m := by simp [rowc]
theorem rowc_at {S R : Nat → Int} {i m k : Nat} (h : k < m) : (rowc S R i m)[k]? = some (lw S R i k) := by
  unfold rowc
  rw [List.getElem?_map, List.getElem?_range h]; rfl
theorem rowc_succ (S R : Nat → Int) (i m : Nat) : rowc S R i (m + 1) = rowc S R i m ++ [lw S R i m] := by
  unfold rowc
  rw [List.range_succ, List.map_append]; rfl
/-- the rows of least works of n flushes -/
def dRow (S R : Nat → Int) (i m : Nat) : PyData := .tuple ((rowc S R i m).map PyData.int)
def dRows (S R : Nat → Int) (n : Nat) : List PyData := (List.range (n + 1)).map fun i => dRow S R i (n + 1 - i)
theorem dRows_len (S R : Nat → Int) (n : Nat) : (dRows S R n).length = n + 1 := by simp [dRows]
theorem dRows_at {S R : Nat → Int} {n i : Nat} (h : i ≤ n) : (dRows S R n)[i]? = some (dRow S R i (n + 1 - i)) := by
  unfold dRows
  rw [List.getElem?_map, List.getElem?_range (by omega)]; rfl
theorem tf_row (S R : Nat → Int) (i m : Nat) : Tf (dRow S R i m) := .tup (tf_ints _)
/-- the lists that become the rows: of row i, f i works are there -/
def RowsAt (H : Hp) (A : Addr) (as : List Addr) (S R : Nat → Int) (n : Nat) (f : Nat → Nat) : Prop :=
  H A = some (.lst (as.map V.ref)) ∧ as.length = n + 1 ∧ as.Nodup ∧ (∀ a, a ∈ as → a ≠ A) ∧ ∀ i a, as[i]? = some a → H a = some (.lst ((rowc S R i (f i)).map V.int))
theorem RowsAt.same {H H' : Hp} {A : Addr} {as : List Addr} {S R : Nat → Int} {n : Nat} {f : Nat → Nat} (h : RowsAt H A as S R n f) (e : Same H H') : RowsAt H' A as S R n f :=
  ⟨e _ _ h.1, h.2.1, h.2.2.1, h.2.2.2.1, fun i a ha => e _ _ (h.2.2.2.2 i a ha)⟩
theorem RowsAt.rd {K : PySem.W.Frag} {H : Hp} {A : Addr} {as : List Addr} {S R : Nat → Int} {n : Nat} {f : Nat → Nat} (h : RowsAt H A as S R n f) {i k : Nat} (hi : i ≤ n) (hk : k < f i) : Rd K H (.ref A) i k (lw S R i k) := by
  have hi' : i < as.length := by rw [h.2.1]; omega
  have ha := List.getElem?_eq_getElem hi'
  refine ⟨A, _, as[i], _, rfl, .inl (.inl (.inl h.1)), ?_, .inl (.inl (.inl (h.2.2.2.2 i _ ha))), ?_⟩
  · rw [List.getElem?_map, ha]; rfl
  · rw [List.getElem?_map, rowc_at hk]; rfl
theorem RowsAt.congr {H : Hp} {A : Addr} {as : List Addr} {S R : Nat → Int} {n : Nat} {f g : Nat → Nat} (h : RowsAt H A as S R n f) (e : ∀ i, i ≤ n → f i = g i) : RowsAt H A as S R n g :=
  ⟨h.1, h.2.1, h.2.2.1, h.2.2.2.1, fun i a ha => by
    have hi : i < as.length := (List.getElem?_eq_some_iff.mp ha).1
    rw [← e i (by rw [h.2.1] at hi; omega)]
    exact h.2.2.2.2 i a ha⟩
theorem RowsAt.push {H : Hp} {A : Addr} {as : List Addr} {S R : Nat → Int} {n : Nat} {f : Nat → Nat} (h : RowsAt H A as S R n f) {i : Nat} {a : Addr} (ha : as[i]? = some a) :
    RowsAt (upd H a (.lst ((rowc S R i (f i)).map V.int ++ [V.int (lw S R i (f i))]))) A as S R n (fun j => if j = i then f i + 1 else f j) := by
  obtain ⟨h1, h2, h3, h4, h5⟩ := h
  have hm : a ∈ as := List.mem_of_getElem? ha
  refine ⟨by rw [upd_ne (h4 a hm).symm]; exact h1, h2, h3, h4, fun j b hb => ?_⟩
  by_cases e : j = i
  · subst e
    rw [ha] at hb
    cases hb
    rw [upd_same]
    dsimp only
    rw [if_pos rfl, rowc_succ, List.map_append]; rfl
  · dsimp only
    rw [if_neg e, upd_ne]
    · exact h5 j b hb
    · intro eb
      subst eb
      exact e ((List.getElem?_inj (List.getElem?_eq_some_iff.mp hb).1 h3).mp (hb.trans ha.symm))
section
variable {P : Program} {w : World} {K : PySem.W.Frag} {mg : Str → Option Value} {base : Heap}
def sp_least_rows (K : PySem.W.Frag) : Sp := fun vs H Q _ => ∃ (a b : Addr) (ss rs : List Int), vs = [.ref a, .ref b] ∧ SqT K H a (ss.map V.int) ∧ SqT K H b (rs.map V.int) ∧ ss.length = rs.length ∧ ss.length ≤ 100 ∧ ∀ H' p, Same H H' → Dp K H' (.ref p) (.tuple (dRows (sm ss) (sm rs) ss.length)) → Q (.ref p) H'
theorem ok_least_rows (TX : Tx K mg) : FnOk P w K mg base CX0 3 TX.a_least_rows TX.fd_least_rows ["sizes", "reads"] (sp_least_rows K) := by
  refine TX.f_least_rows.ok sc_least_rows (fun vs H Q E h => ?_) (fun cdv A outer s H vs Q E hr h => ?_)
  · obtain ⟨a, b, ss, rs, rfl, _⟩ := h; rfl
  · obtain ⟨a, b, ss, rs, rfl, hA, hB, he, h1, q⟩ := h
    refine ⟨_, (pss_cons (ps_set (i := 2) sc_least_rows.nd rfl (.inl rfl) (pe_callB (id := "len") (k_len (K := K) rfl) (by rfl) TX.b_len (by decide +kernel) (pa_cons (pv 0) pa_nil)))
      (pss_cons (ps_set (i := 3) sc_least_rows.nd rfl (.inl rfl) (pe_call (ok_load_sums TX) (hr.mono (by decide)) (by rfl) TX.g_load_sums TX.f_load_sums.kp TX.bd_load_sums .nil pass0 (pa_cons (pv 0) (pa_cons (pv 1) pa_nil))))
      (pss_cons (ps_setLc (i := 4) (own := [("start", 5)]) (by rfl) sc_least_rows.nd rfl rfl (sw_true rfl rfl rfl (by decide +kernel)) (pi_range1 (by rfl) TX.b_range (pa_cons (pe_op op_add (pv 2) pe_int) pa_nil)) (blkOk_by (own := [("start", 5)]) (N := N_least_rows) (sc := defScope s_least_rows) (by decide +kernel)) (fun _ _ _ _ _ => (pg_name (i := 5) sc_least_rows.nd rfl (Or.inl rfl))) (fun _ _ _ _ _ => pts_nil) (fun _ _ _ _ _ => (pe_lst (pa_cons pe_int pa_nil))))
      (pss_cons (ps_for PassesOwn.never rfl (pi_revR (by rfl) TX.b_reversed (prg_1 (by rfl) TX.b_range (pv 2))) (pg_name (i := 5) sc_least_rows.nd rfl (.inl rfl))
        (pss_one (ps_for PassesOwn.never rfl (pi_range2 (by rfl) TX.b_range (pa_cons (pe_op op_add (pv 5) pe_int) (pa_cons (pe_op op_add (pv 2) pe_int) pa_nil))) (pg_name (i := 6) sc_least_rows.nd rfl (.inl rfl))
          (pss_one (ps_expr (pe_bm PySem.F.plainAttrs_list PySem.F.slot_list_append PySem.F.type_list_append mt_append (pe_ix (k_ixL (K := K) rfl) (pv 4) (pv 5) (fun _ _ => rfl)) (pa_cons (pe_ix (k_ixT (K := K) rfl) (pe_callB (id := "min") (cr_minP (K := K) rfl rfl hr.units) (by rfl) TX.b_min (by decide +kernel) (pa_cons (pe_call (ok_works_by_root TX) (hr.mono (by decide)) (by rfl) TX.g_works_by_root TX.f_works_by_root.kp TX.bd_works_by_root .nil pass0 (pa_cons (pv 4) (pa_cons (pv 4) (pa_cons (pv 3) (pa_cons (pv 5) (pa_cons (pv 6) pa_nil)))))) pa_nil)) pe_int (fun _ _ => rfl)) pa_nil)))))))
      (pss_one (ps_ret (pe_callTy (T := "tuple") (k_tupOf (K := K) rfl) (by rfl) TX.b_tuple (by decide +kernel) (pa_cons (pe_lc (own := [("row", 7)]) (by rfl) sc_least_rows.nd (k_piL (K := K) rfl (pv 4)) (blkOk_by (own := [("row", 7)]) (N := N_least_rows) (sc := defScope s_least_rows) (by decide +kernel)) (fun _ _ _ _ _ => (pg_name (i := 7) sc_least_rows.nd rfl (Or.inl rfl))) (fun _ _ _ _ _ => pts_nil) (fun _ _ _ _ _ => (pe_callTy (T := "tuple") (k_tupOf (K := K) rfl) (by rfl) TX.b_tuple (by decide +kernel) (pa_cons (pv 7) pa_nil)))) pa_nil)))))))), ?_⟩
    obtain ⟨n, hn⟩ : ∃ n, n = ss.length := ⟨_, rfl⟩
    have hlen : ((ss.map V.int).length : Int) = (n : Int) := by rw [List.length_map, hn]
    refine ⟨.ref a, rfl, a, _, rfl, .inr hA, ?_⟩
    refine ⟨.ref a, rfl, .ref b, rfl, a, b, ss, rs, rfl, hA, hB, by omega, by omega, fun H1 z s1 hZ => ?_⟩
    rw [hlen]
    refine ⟨_, rfl, _, _, rfl, rfl, _, rfl, by omega, by omega, fun D nD => ?_⟩
    have en : (((n : Int) + 1)).toNat = n + 1 := by omega
    refine lc_it walk_range (fun i H' => Same H1 H' ∧ ∃ as : List Addr, H' D = some (.lst (as.map V.ref)) ∧ as.length = i ∧ as.Nodup ∧ (∀ c, c ∈ as → c ≠ D ∧ H1 c = none) ∧ ∀ c, c ∈ as → H' c = some (.lst [V.int 0])) ⟨same_upd nD, [], upd_same, rfl, List.nodup_nil, (by simp), (by simp)⟩ (fun _ _ _ _ => trivial) ?_ ?_
    · rintro i x H2 H2' hi ⟨s2, as, g1, g2, g3, g4, g5⟩ hy
      obtain ⟨rfl, rfl⟩ := hy
      refine ⟨rfl, ?_⟩
      simp only [tYes, if_true]
      refine ⟨sz60 (by simp), fun p np => ?_⟩
      have s3 := same_upd (o := .lst [V.int 0]) np
      have npD : p ≠ D := fun e => by rw [e, g1] at np; cases np
      have npA : ∀ c, c ∈ as → c ≠ p := fun c hc e => by rw [← e, g5 c hc] at np; cases np
      refine ⟨as.map V.ref, s3 _ _ g1, sz61 (by rw [List.length_map]; omega), Same.mut (s2.trans s3) nD, as ++ [p], ?_, by simp [g2], ?_, ?_, ?_⟩
      · rw [upd_same, List.map_append]; rfl
      · rw [List.nodup_append]
        exact ⟨g3, by simp, fun c hc d hd => by rw [List.mem_singleton.mp hd]; exact npA c hc⟩
      · intro c hc
        rcases List.mem_append.mp hc with hc | hc
        · exact g4 c hc
        · rw [List.mem_singleton.mp hc]
          exact ⟨npD, s2.free np⟩
      · intro c hc
        rcases List.mem_append.mp hc with hc | hc
        · rw [upd_ne (g4 c hc).1]
          exact s3 _ _ (g5 c hc)
        · rw [List.mem_singleton.mp hc, upd_ne npD]
          exact upd_same
    rintro H2 ⟨s2, as, g1, g2, g3, g4, g5⟩
    rw [en] at g2
    have hRows : RowsAt H2 D as (sm ss) (sm rs) n (fun i => if n ≤ i then n + 1 - i else 1) := by
      refine ⟨g1, g2, g3, fun c hc => (g4 c hc).1, fun i c hc => ?_⟩
      rw [g5 c (List.mem_of_getElem? hc)]
      have hi : i < as.length := (List.getElem?_eq_some_iff.mp hc).1
      dsimp only
      have e1 : (if n ≤ i then n + 1 - i else 1) = 1 := by split <;> omega
      rw [e1]; rfl
    have nas : ∀ i c, as[i]? = some c → H1 c = none := fun i c hc => (g4 c (List.mem_of_getElem? hc)).2
    have en2 : ((n : Int) - 0).toNat = n := by omega
    refine ⟨_, rfl, _, rfl, by omega, by omega, by omega, by omega, ?_⟩
    refine for_rangeC (c := -1) (fun j σ H' => ∃ y5 y6 y7, σ = [some (.ref a), some (.ref b), some (.int (n : Int)), some (.ref z), some (.ref D), y5, y6, y7] ∧ Same H1 H' ∧ RowsAt H' D as (sm ss) (sm rs) n (fun i => if n - j ≤ i then n + 1 - i else 1)) ⟨_, _, _, rfl, s2, hRows⟩ ?_ ?_
    · rintro j σ H3 hj ⟨y5, y6, y7, rfl, s3, hR3⟩
      rw [en2] at hj
      obtain ⟨st, hst⟩ : ∃ st : Nat, st = n - 1 - j := ⟨_, rfl⟩
      have ei : (0 : Int) + ((((n : Int) - 0).toNat : Nat) : Int) - 1 + ((j : Nat) : Int) * (-1) = ((st : Nat) : Int) := by omega
      rw [ei]
      refine ⟨_, rfl, _, _, rfl, rfl, _, rfl, _, _, rfl, rfl, _, _, rfl, ⟨by omega, by omega, by omega, by omega⟩, ?_⟩
      have en3 : ((n : Int) + 1 - (((st : Nat) : Int) + 1)).toNat = n - st := by omega
      have hsa : st < as.length := by omega
      have hsc := List.getElem?_eq_getElem hsa
      refine for_range (lo := ((st : Nat) : Int) + 1) (fun t σ H' => ∃ y6 y7, σ = [some (.ref a), some (.ref b), some (.int (n : Int)), some (.ref z), some (.ref D), some (.int ((st : Nat) : Int)), y6, y7] ∧ Same H1 H' ∧ RowsAt H' D as (sm ss) (sm rs) n (fun i => if st + 1 ≤ i then n + 1 - i else if i = st then 1 + t else 1)) ⟨_, _, rfl, s3, hR3.congr fun i hi => ?_⟩ ?_ ?_
      · split <;> split <;> (try split) <;> omega
      · rintro t σ H4 ht ⟨y6, y7, rfl, s4, hR4⟩
        rw [en3] at ht
        have et : ((st : Nat) : Int) + 1 + ((t : Nat) : Int) = ((st + (t + 1) : Nat) : Int) := by omega
        rw [et]
        have hc4 := hR4.2.2.2.2 st _ hsc
        have hff : (if st + 1 ≤ st then n + 1 - st else if st = st then 1 + t else 1) = t + 1 := by rw [if_neg (by omega), if_pos rfl]; omega
        dsimp only at hc4
        rw [hff] at hc4
        have hRd : Rds K H4 (.ref D) (.ref D) (sm ss) (sm rs) st (t + 1) := by
          refine ⟨fun k hk => hR4.rd (by omega) (by rw [hff]; exact hk), fun k hk => hR4.rd (by omega) ?_⟩
          rw [if_pos (by omega)]
          omega
        refine ⟨.ref D, rfl, _, rfl, D, _, _, .ref as[st], rfl, rfl, .inl (.inl hR4.1), atI_nat (by rw [List.getElem?_map, hsc]; rfl), .inl ⟨rfl, _, .inl (.inl hc4)⟩, _, rfl, _, rfl, _, rfl, _, rfl, _, rfl, .ref D, .ref D, .ref z, ss, rs, st, t + 1, rfl, hZ.same s4, by omega, by omega, by omega, hRd, fun H5 p us s5 n5 hp hA5 => ?_⟩
        rw [wbr_via] at hA5
        refine ⟨p, us, _, _, rfl, .inl (.inl hp), hA5, fun c hc => ?_⟩
        rw [wbr_min] at hc
        refine ⟨c, _, 0, _, rfl, rfl, hc, rfl, as[st], _, _, rfl, rfl, s5 _ _ hc4, sz61 (by rw [List.length_map, rowc_len]; omega), ?_⟩
        refine ⟨_, _, rfl, Same.mut (s4.trans s5) (nas _ _ hsc), ?_⟩
        have hp5 := (hR4.same s5).push hsc
        try dsimp only at hp5
        rw [hff] at hp5
        refine hp5.congr fun i hi => ?_
        by_cases e : i = st
        · subst e
          rw [if_pos rfl, if_neg (by omega), if_pos rfl]; omega
        · rw [if_neg e, if_neg e, if_neg e]
      · rintro σ H4 ⟨y6, y7, rfl, s4, hR4⟩
        rw [en3] at hR4
        refine ⟨_, _, _, rfl, s4, hR4.congr fun i hi => ?_⟩
        split <;> split <;> (try split) <;> omega
    · rintro σ H3 ⟨y5, y6, y7, rfl, s3, hR3⟩
      rw [en2] at hR3
      refine ⟨.ref D, rfl, D, rfl, ⟨_, .inl (.inl hR3.1)⟩, fun D2 nD2 => ?_⟩
      refine lc_all (K := K) (walk_list (xs := as.map V.ref)) (dRows (sm ss) (sm rs) n) (by rw [dRows_len, List.length_map, g2]) (fun d h => by obtain ⟨i, _, rfl⟩ := List.mem_map.mp h; exact tf_row _ _ _ _) (by rw [List.length_map]; omega) nD2 (fun H' s' => s'.seq (.inl (.inl hR3.1))) ?_ ?_ (fun x σ' H' Q Q' h => h _ _) (fun σ' H' Q Q' h => h _ _)
      · rintro i x Hx Hx' hi sx ⟨rfl, hx⟩ d hd R hRR
        rw [List.getElem?_map, Option.map_eq_some_iff] at hx
        obtain ⟨c, hc, rfl⟩ := hx
        have hi2 : i ≤ n := by rw [List.length_map] at hi; omega
        rw [dRows_at hi2] at hd
        cases hd
        have hc3 := sx _ _ (hR3.2.2.2.2 i c hc)
        dsimp only at hc3
        rw [if_pos (by omega)] at hc3
        refine ⟨rfl, rfl, .ref c, rfl, c, _, rfl, .inl ⟨.inl (.inl hc3), fun l nl => hRR _ _ (same_upd nl) ?_⟩⟩
        exact .tup (.inl (.inl upd_same)) (dp_ints _)
      · intro H5 acc s5 ha hA5
        refine ⟨D2, _, rfl, .inl ⟨.inl (.inl ha), fun o no => ?_⟩⟩
        refine q _ o (((s1.trans s3).trans s5).trans (same_upd no)) (.tup (.inl (.inl upd_same)) (DpAll.same (same_upd no) ?_))
        rw [← hn]
        exact hA5
end
section
variable {P : Program} {w : World} {K : PySem.W.Frag} {mg : Str → Option Value} {base : Heap}
theorem rows_rd {K : PySem.W.Frag} {H : Hp} {v : V} {S R : Nat → Int} {n : Nat} (h : Dp K H v (.tuple (dRows S R n))) {i k : Nat} (hi : i + k ≤ n) : Rd K H v i k (lw S R i k) := by
  obtain ⟨a, xs, rfl, hS, hA⟩ := Dp.tupInv h
  obtain ⟨x, hx, hD⟩ := DpAll.get hA (dRows_at (show i ≤ n by omega))
  obtain ⟨b, rfl, hB⟩ := Dp.intsInv hD
  refine ⟨a, xs, b, _, rfl, .inr hS, hx, .inr hB, ?_⟩
  rw [List.getElem?_map, rowc_at (by omega)]; rfl
theorem rows_rds {K : PySem.W.Frag} {H : Hp} {v : V} {S R : Nat → Int} {n : Nat} (h : Dp K H v (.tuple (dRows S R n))) {i m : Nat} (hi : i + m ≤ n) : Rds K H v v S R i m :=
  ⟨fun k hk => rows_rd h (by omega), fun k hk => rows_rd h (by omega)⟩
end
/-- the draws' list: a number not below 0, a seed, a count of at most n -/
def Pot (H : Hp) (a : Addr) (n : Int) : Prop := ∃ d s m : Int, H a = some (.lst [.int d, .int s, .int m]) ∧ 0 ≤ d ∧ 0 ≤ s ∧ s < 2 ^ 62 ∧ 0 ≤ m ∧ m ≤ n
theorem Pot.mono {H : Hp} {a : Addr} {n k : Int} (h : Pot H a n) (e : n ≤ k) : Pot H a k := by
  obtain ⟨d, s, m, h1, h2, h3, h4, h5, h6⟩ := h
  exact ⟨d, s, m, h1, h2, h3, h4, h5, by omega⟩
theorem Pot.same {H H' : Hp} {a : Addr} {n : Int} (h : Pot H a n) (e : Same H H') : Pot H' a n := by
  obtain ⟨d, s, m, h1, r⟩ := h
  exact ⟨d, s, m, e _ _ h1, r⟩
theorem Pot.keep {K : PySem.W.Frag} {H H' : Hp} {a : Addr} {n : Int} (h : Pot H a n) (e : But a H H') : Keep K H H' := by
  obtain ⟨d, s, m, h1, r⟩ := h
  exact But.keep e h1
theorem Pot.ne {H : Hp} {a b : Addr} {n : Int} (h : Pot H a n) (e : H b = none) : b ≠ a := fun z => by
  obtain ⟨d, s, m, h1, r⟩ := h
  rw [z, h1] at e; cases e
theorem Pot.upd {H : Hp} {a l : Addr} {n : Int} {o : HO} (h : Pot H a n) (e : l ≠ a) : Pot (L2.upd H l o) a n := by
  obtain ⟨d, s, m, h1, r⟩ := h
  exact ⟨d, s, m, by rw [upd_ne e.symm]; exact h1, r⟩
theorem But.mut {a l : Addr} {H H' : Hp} {o : HO} (b : But a H H') (h : H l = none) : But a H (L2.upd H' l o) := fun c u n e => by
  rw [upd_ne (ne_of_none e h)]; exact b _ _ n e
theorem na_lt {x : Int} {n : Nat} (h0 : 0 ≤ x) (h1 : x < ((2 ^ n : Nat) : Int)) : x.natAbs < 2 ^ n := by omega
theorem bit01 (b : Bool) : (if b = true then (1 : Int) else 0).natAbs < 2 ^ 2 ∧ (0 : Int) ≤ (if b = true then (1 : Int) else 0) := by cases b <;> exact ⟨by decide, by decide⟩
set_option exponentiation.threshold 2000
section
variable {P : Program} {w : World} {K : PySem.W.Frag} {mg : Str → Option Value} {base : Heap}
def sp_L_pot (K : PySem.W.Frag) : Sp := fun vs H Q _ => ∃ (a : Addr) (ns : List Int) (pl : Nat), vs = [.ref a, .int (pl : Int)] ∧ SqL K H a (ns.map V.int) ∧ pl ≤ 62 ∧ ∀ H' p, Same H H' → H p = none → Pot H' p 0 → Q (.ref p) H'
theorem ok_L_pot (TX : Tx K mg) : FnOk P w K mg base CX0 1 TX.a_L_pot TX.fd_L_pot ["_law_script", "_law_k"] (sp_L_pot K) := by
  refine TX.f_L_pot.ok sc_L_pot (fun vs H Q E h => ?_) (fun cdv A outer s H vs Q E hr h => ?_)
  · obtain ⟨a, ns, pl, rfl, _⟩ := h; rfl
  · obtain ⟨a, ns, pl, rfl, hS, hpl, q⟩ := h
    refine ⟨_, (pss_cut (ps_set (i := 2) sc_L_pot.nd rfl (.inl rfl) (pe_ifExp (pt_cmpR op_lt (pv 1) (pe_callB (id := "len") (k_len (K := K) rfl) (by rfl) TX.b_len (by decide +kernel) (pa_cons (pv 0) pa_nil)) (nomark _)) (pe_ix (k_ixL (K := K) rfl) (pv 0) (pv 1) (fun _ _ => rfl)) pe_int))
      (pss_cons (ps_set (i := 3) sc_L_pot.nd rfl (.inl rfl) (pe_op op_mulW (pe_op op_mulW (pe_op op_mulW (pe_op op_mulW (pe_op op_powW pe_int pe_int) (pe_op op_powW pe_int pe_int)) (pe_op op_powW pe_int pe_int)) (pe_op op_powW pe_int pe_int)) (pe_op op_powW pe_int pe_int)))
      (pss_one (ps_ret (pe_lst (pa_cons (pe_op op_mulW (pe_op op_mod (pe_callB (id := "abs") call_abs (by rfl) TX.b_abs (by decide +kernel) (pa_cons (pv 2) pa_nil)) (pv 3)) (pe_callTy (T := "int") call_int1 (by rfl) TX.b_int (by decide +kernel) (pa_cons (pe_cmpR op_ge (pe_callB (id := "abs") call_abs (by rfl) TX.b_abs (by decide +kernel) (pa_cons (pv 2) pa_nil)) (pe_op op_powW pe_int pe_int) (nomark _)) pa_nil))) (pa_cons (pe_op op_add (pe_op op_add (pe_op op_mod (pv 2) pe_int) (pe_op op_mulW pe_int (pv 1))) pe_int) (pa_cons pe_int pa_nil)))))))), ?_⟩
    refine ⟨fun σ H' => ∃ x : Int, σ = [some (.ref a), some (.int (pl : Int)), some (.int x), none] ∧ H' = H, ?_, ?_⟩
    · refine ⟨_, rfl, .ref a, rfl, a, _, rfl, .inl hS, _, _, rfl, rfl, _, rfl, ?_⟩
      refine ite2 (fun h => ?_) (fun h => ?_)
      · have hlt : pl < ns.length := by
          have := of_decide_eq_true h
          rw [List.length_map] at this
          omega
        exact ⟨.ref a, rfl, _, rfl, a, _, _, .int ns[pl], rfl, rfl, hS, atI_nat (by rw [List.getElem?_map, List.getElem?_eq_getElem hlt]; rfl), _, rfl, rfl⟩
      · exact ⟨_, rfl, rfl⟩
    · rintro σ H' ⟨x, rfl, rfl⟩
      have pw : CPowW 10 60 := ⟨by decide, by decide +kernel⟩
      have pb : (10 ^ (60 : Int).toNat : Int).natAbs < 2 ^ 200 := by decide +kernel
      have c2 := wide_lt pb pb
      have c3 := wide_lt c2 pb
      have c4 := wide_lt c3 pb
      refine ⟨_, _, rfl, rfl, pw, _, _, rfl, rfl, pw, _, _, rfl, rfl, wide_mul pb pb (by decide) (by decide) (by decide), _, _, rfl, rfl, pw, _, _, rfl, rfl, wide_mul c2 pb (by decide) (by decide) (by decide), _, _, rfl, rfl, pw, _, _, rfl, rfl, wide_mul c3 pb (by decide) (by decide) (by decide), _, _, rfl, rfl, pw, _, _, rfl, rfl, wide_mul c4 pb (by decide) (by decide) (by decide), ?_⟩
      have P0 : (0 : Int) < 10 ^ (60 : Int).toNat * 10 ^ (60 : Int).toNat * 10 ^ (60 : Int).toNat * 10 ^ (60 : Int).toNat * 10 ^ (60 : Int).toNat := by decide +kernel
      have P1 : (10 ^ (60 : Int).toNat * 10 ^ (60 : Int).toNat * 10 ^ (60 : Int).toNat * 10 ^ (60 : Int).toNat * 10 ^ (60 : Int).toNat : Int) < ((2 ^ 1000 : Nat) : Int) := by decide +kernel
      have c0 := Int.emod_nonneg x (show (2305843009213693951 : Int) ≠ 0 by decide)
      have c1 := Int.emod_lt_of_pos x (show (0 : Int) < 2305843009213693951 by decide)
      refine ⟨_, rfl, _, rfl, _, rfl, _, _, rfl, rfl, P0, _, rfl, _, rfl, _, _, rfl, rfl, ⟨by decide, by decide +kernel⟩, _, _, rfl, rfl, .inr ⟨_, rfl, _, _, rfl, rfl, ?_, ?_⟩⟩
      · exact wide_mul (a := 1000) (b := 2) (na_lt (Int.emod_nonneg _ (Int.ne_of_gt P0)) (Int.lt_trans (Int.emod_lt_of_pos _ P0) P1)) (bit01 _).1 (by decide) (by decide) (by decide)
      · refine ⟨_, rfl, _, _, rfl, rfl, (show (0 : Int) < 2305843009213693951 by decide), _, rfl, _, _, rfl, rfl, wide_mul (a := 17) (b := 7) (by decide) (by omega) (by decide) (by decide) (by decide), _, _, rfl, rfl, _, _, rfl, rfl, sz60 (by simp), fun p np => q _ p (same_upd np) np ?_⟩
        refine ⟨_, _, _, upd_same, ?_, by omega, by omega, by decide, by decide⟩
        exact Int.mul_nonneg (Int.emod_nonneg _ (Int.ne_of_gt P0)) (bit01 _).2
def sp_L_take (K : PySem.W.Frag) : Sp := fun vs H Q _ => ∃ (a : Addr) (z n : Int), vs = [.ref a, .int z] ∧ Pot H a n ∧ n ≤ 1000000 ∧ 1 ≤ z ∧ z ≤ 2000000000 ∧ ∀ H' r, But a H H' → Pot H' a (n + 1) → 0 ≤ r → r < z → Q (.int r) H'
theorem prime_at {m : Int} (h0 : 0 ≤ m) : ∃ v : Int, atI [V.int 2147483647, V.int 2147483629, V.int 2147483587, V.int 2147483579, V.int 2147483563, V.int 2147483549, V.int 2147483543, V.int 2147483497] (m % 8) = some (.int v) ∧ 0 < v ∧ v < 2 ^ 31 := by
  have h : m % 8 = 0 ∨ m % 8 = 1 ∨ m % 8 = 2 ∨ m % 8 = 3 ∨ m % 8 = 4 ∨ m % 8 = 5 ∨ m % 8 = 6 ∨ m % 8 = 7 := by omega
  rcases h with h | h | h | h | h | h | h | h <;> rw [h] <;> exact ⟨_, rfl, by decide, by decide⟩
theorem ok_L_take (TX : Tx K mg) : FnOk P w K mg base CX0 1 TX.a_L_take TX.fd_L_take ["_law_pot_here", "_law_wide"] (sp_L_take K) := by
  refine TX.f_L_take.ok sc_L_take (fun vs H Q E h => ?_) (fun cdv A outer s H vs Q E hr h => ?_)
  · obtain ⟨a, z, n, rfl, _⟩ := h; rfl
  · obtain ⟨a, z, n, rfl, ⟨d, sd, m, hp, hd, hs0, hs1, hm0, hm1⟩, hn, hz1, hz2, q⟩ := h
    refine ⟨_, (pss_cons (ps_if (pt_cmpR op_gt (pe_ix (k_ixL (K := K) rfl) (pv 0) pe_int (fun _ _ => rfl)) pe_int (nomark _))
        (pss_cons (ps_set (i := 2) sc_L_take.nd rfl (.inl rfl) (pe_op op_mod (pe_ix (k_ixL (K := K) rfl) (pv 0) pe_int (fun _ _ => rfl)) (pv 1)))
        (pss_cons (ps_asg (pe_op op_fdivW (pe_ix (k_ixL (K := K) rfl) (pv 0) pe_int (fun _ _ => rfl)) (pv 1)) (pg_sub (pv 0) pe_int set_list))
        (pss_one (ps_ret (pv 2)))))
        pss_nil)
      (pss_cons (ps_asg (pe_op op_add (pe_ix (k_ixL (K := K) rfl) (pv 0) pe_int (fun _ _ => rfl)) pe_int) (pg_sub (pv 0) pe_int set_list))
      (pss_cons (ps_set (i := 3) sc_L_take.nd rfl (.inl rfl) (pe_lst (pa_cons pe_int (pa_cons pe_int (pa_cons pe_int (pa_cons pe_int (pa_cons pe_int (pa_cons pe_int (pa_cons pe_int (pa_cons pe_int pa_nil))))))))))
      (pss_cons (ps_set (i := 4) sc_L_take.nd rfl (.inl rfl) (pe_ix (k_ixL (K := K) rfl) (pv 3) (pe_op op_mod (pe_ix (k_ixL (K := K) rfl) (pv 0) pe_int (fun _ _ => rfl)) pe_int) (fun _ _ => rfl)))
      (pss_cons (ps_set (i := 5) sc_L_take.nd rfl (.inl rfl) (pe_op op_add (pe_op op_mod (pe_op op_mod (pe_op op_add (pe_ix (k_ixL (K := K) rfl) (pv 0) pe_int (fun _ _ => rfl)) (pe_op op_mulW (pe_op op_mulW pe_int (pe_ix (k_ixL (K := K) rfl) (pv 0) pe_int (fun _ _ => rfl))) (pe_ix (k_ixL (K := K) rfl) (pv 0) pe_int (fun _ _ => rfl)))) (pe_op op_pow (pv 4) pe_int)) (pv 4)) pe_int))
      (pss_one (ps_ret (pe_op op_mod (pe_op op_fdivW (pe_op op_mod (pe_op op_mulW (pv 5) (pe_op op_add (pe_op op_mod (pv 5) pe_int) (pe_ix (k_ixL (K := K) rfl) (pv 0) pe_int (fun _ _ => rfl)))) (pv 4)) pe_int) (pv 1))))))))), ?_⟩
    refine ⟨.ref a, rfl, a, _, _, .int d, rfl, rfl, .inl (.inl hp), rfl, _, _, rfl, rfl, _, rfl, ite2 (fun h => ?_) (fun h => ?_)⟩
    · refine ⟨.ref a, rfl, a, _, _, .int d, rfl, rfl, .inl (.inl hp), rfl, _, rfl, _, _, rfl, rfl, (show 0 < z by omega), ?_⟩
      refine ⟨.ref a, rfl, a, _, _, .int d, rfl, rfl, .inl (.inl hp), rfl, _, rfl, _, _, rfl, rfl, wide_div (b := 32) (by omega) (by omega) (by decide) (by decide), .ref a, rfl, a, _, 0, 0, rfl, rfl, hp, rfl, ?_⟩
      refine ⟨_, rfl, q _ _ But.upd ⟨d / z, sd, m, upd_same, Int.ediv_nonneg hd (by omega), hs0, hs1, hm0, by omega⟩ (Int.emod_nonneg _ (by omega)) (Int.emod_lt_of_pos _ (by omega))⟩
    · refine ⟨.ref a, rfl, a, _, _, .int m, rfl, rfl, .inl (.inl hp), rfl, _, _, rfl, rfl, ?_⟩
      refine ⟨.ref a, rfl, a, _, 2, 2, rfl, rfl, hp, rfl, ?_⟩
      have hp1 : (upd H a (.lst (List.set [V.int d, V.int sd, V.int m] 2 (V.int (m + 1))))) a = some (.lst [V.int d, V.int sd, V.int (m + 1)]) := upd_same
      have b1 : But a H (upd H a (.lst (List.set [V.int d, V.int sd, V.int m] 2 (V.int (m + 1))))) := But.upd
      generalize upd H a (.lst (List.set [V.int d, V.int sd, V.int m] 2 (V.int (m + 1)))) = H1 at hp1 b1 ⊢
      refine ⟨sz60 (by simp), fun pl npl => ?_⟩
      have s2 := same_upd (o := .lst [V.int 2147483647, V.int 2147483629, V.int 2147483587, V.int 2147483579, V.int 2147483563, V.int 2147483549, V.int 2147483543, V.int 2147483497]) npl
      have hp2 := s2 _ _ hp1
      obtain ⟨pr, hpr, pr0, pr1⟩ := prime_at (m := m + 1) (by omega)
      refine ⟨_, rfl, .ref a, rfl, a, _, _, .int (m + 1), rfl, rfl, .inl (.inl hp2), rfl, _, _, rfl, rfl, (show (0 : Int) < 8 by decide), pl, _, _, .int pr, rfl, rfl, .inl (.inl upd_same), hpr, ?_⟩
      have k1 : (m + 1) * (m + 1) ≤ 1000001 * 1000001 := Int.mul_le_mul (by omega) (by omega) (by omega) (by omega)
      have k2 : (0 : Int) ≤ (m + 1) * (m + 1) := Int.mul_nonneg (by omega) (by omega)
      have k3 : 69621 * (m + 1) * (m + 1) = 69621 * ((m + 1) * (m + 1)) := Int.mul_assoc _ _ _
      have p2 : (0 : Int) < pr ^ (2 : Int).toNat := Int.pow_pos pr0
      refine ⟨.ref a, rfl, a, _, _, .int sd, rfl, rfl, .inl (.inl hp2), rfl, .ref a, rfl, a, _, _, .int (m + 1), rfl, rfl, .inl (.inl hp2), rfl, _, _, rfl, rfl, wide_mul (a := 17) (b := 21) (by decide) (by omega) (by decide) (by decide) (by decide), .ref a, rfl, a, _, _, .int (m + 1), rfl, rfl, .inl (.inl hp2), rfl, _, _, rfl, rfl, wide_mul (a := 38) (b := 21) (by omega) (by omega) (by decide) (by decide) (by decide), _, _, rfl, rfl, _, rfl, _, _, rfl, rfl, ⟨by decide, by decide, by omega⟩, _, _, rfl, rfl, p2, _, rfl, _, _, rfl, rfl, pr0, _, _, rfl, rfl, ?_⟩
      generalize hmx : (sd + 69621 * (m + 1) * (m + 1)) % pr ^ (2 : Int).toNat % pr = mx
      have mx0 : 0 ≤ mx := by rw [← hmx]; exact Int.emod_nonneg _ (by omega)
      have mx1 : mx < pr := by rw [← hmx]; exact Int.emod_lt_of_pos _ pr0
      refine ⟨_, rfl, _, rfl, _, _, rfl, rfl, (show (0 : Int) < 1009 by decide), .ref a, rfl, a, _, _, .int (m + 1), rfl, rfl, .inl (.inl hp2), rfl, _, _, rfl, rfl, _, _, rfl, rfl, wide_mul (a := 32) (b := 22) (by omega) (by omega) (by decide) (by decide) (by decide), _, rfl, _, _, rfl, rfl, pr0, _, _, rfl, rfl, wide_div (b := 3) (by decide) (by decide) (by decide) (by decide), _, rfl, _, _, rfl, rfl, (show 0 < z by omega), ?_⟩
      exact q _ _ (b1.trans (But.of s2)) ⟨d, sd, m + 1, hp2, hd, hs0, hs1, by omega, by omega⟩ (Int.emod_nonneg _ (by omega)) (Int.emod_lt_of_pos _ (by omega))
def sp_L_of (K : PySem.W.Frag) : Sp := fun vs H Q _ => ∃ (a l : Addr) (xs : List V) (n : Int), vs = [.ref a, .ref l] ∧ Pot H a n ∧ n ≤ 1000000 ∧ H l = some (.lst xs) ∧ l ≠ a ∧ xs ≠ [] ∧ xs.length ≤ 1000 ∧ ∀ H' v, But a H H' → Pot H' a (n + 1) → v ∈ xs → Q v H'
theorem ok_L_of (TX : Tx K mg) : FnOk P w K mg base CX0 2 TX.a_L_of TX.fd_L_of ["_law_pot_here", "_law_some"] (sp_L_of K) := by
  refine TX.f_L_of.ok sc_L_of (fun vs H Q E h => ?_) (fun cdv A outer s H vs Q E hr h => ?_)
  · obtain ⟨a, l, xs, n, rfl, _⟩ := h; rfl
  · obtain ⟨a, l, xs, n, rfl, hp, hn, hl, nla, hne, hlen, q⟩ := h
    refine ⟨_, (pss_one (ps_ret (pe_ix (k_ixL (K := K) rfl) (pv 1) (pe_call (ok_L_take TX) (hr.mono (by decide)) (by rfl) TX.g_L_take TX.f_L_take.kp TX.bd_L_take .nil pass0 (pa_cons (pv 0) (pa_cons (pe_callB (id := "len") (k_len (K := K) rfl) (by rfl) TX.b_len (by decide +kernel) (pa_cons (pv 1) pa_nil)) pa_nil))) (fun _ _ => rfl)))), ?_⟩
    have h0 : 0 < xs.length := List.length_pos_iff.mpr hne
    refine ⟨.ref l, rfl, .ref a, rfl, .ref l, rfl, l, _, rfl, .inl (.inl (.inl hl)), a, _, n, rfl, hp, hn, by omega, by omega, fun H' r b1 p1 r0 r1 => ?_⟩
    have er : r = ((r.toNat : Nat) : Int) := by omega
    have hr1 : r.toNat < xs.length := by omega
    have hat : atI xs r = some xs[r.toNat] := by
      have := atI_nat (List.getElem?_eq_getElem hr1)
      rwa [← er] at this
    exact ⟨l, xs, r, xs[r.toNat], rfl, rfl, .inl (.inl (b1 _ _ nla hl)), hat, q _ _ b1 p1 (List.getElem_mem ..)⟩
end
theorem But.free {a l : Addr} {H H' : Hp} (b : But a H H') (h : H' l = none) (n : l ≠ a) : H l = none := by
  cases e : H l with
  | none => rfl
  | some o => rw [b _ _ n e] at h; cases h
theorem at_mem {xs : List V} {r : Int} (r0 : 0 ≤ r) (r1 : r < (xs.length : Int)) : ∃ v, atI xs r = some v ∧ v ∈ xs := by
  have er : r = ((r.toNat : Nat) : Int) := by omega
  have hr1 : r.toNat < xs.length := by omega
  refine ⟨xs[r.toNat], ?_, List.getElem_mem ..⟩
  have := atI_nat (List.getElem?_eq_getElem hr1)
  rwa [← er] at this
section
variable {P : Program} {w : World} {K : PySem.W.Frag} {mg : Str → Option Value} {base : Heap}
def sp_L_load (K : PySem.W.Frag) : Sp := fun vs H Q _ => ∃ (a : Addr) (k : Nat) (wd n : Int), vs = [.ref a, .int (k : Int), .int wd] ∧ Pot H a n ∧ n ≤ 900000 ∧ k ≤ 100 ∧ 1 ≤ wd ∧ wd ≤ 1000000000 ∧
  ∀ H' p (ns : List Int), But a H H' → Pot H' a (n + 402) → ns.length = k → (∀ x, x ∈ ns → 0 ≤ x ∧ (x ≤ wd ∨ x ≤ 3)) → SqT K H' p (ns.map V.int) → Q (.ref p) H'
theorem ok_L_load (TX : Tx K mg) : FnOk P w K mg base CX0 3 TX.a_L_load TX.fd_L_load ["_law_pot_here", "_law_count", "_law_wide"] (sp_L_load K) := by
  refine TX.f_L_load.ok sc_L_load (fun vs H Q E h => ?_) (fun cdv A outer s H vs Q E hr h => ?_)
  · obtain ⟨a, k, wd, n, rfl, _⟩ := h; rfl
  · obtain ⟨a, k, wd, n, rfl, hp, hn, hk, hw1, hw2, q⟩ := h
    refine ⟨_, (pss_cons (ps_par (i := 3) (j := 4) (by rfl) sc_L_load.nd rfl rfl (by decide) rfl rfl (pa_cons (pe_call (ok_L_take TX) (hr.mono (by decide)) (by rfl) TX.g_L_take TX.f_L_take.kp TX.bd_L_take .nil pass0 (pa_cons (pv 0) (pa_cons pe_int pa_nil))) (pa_cons (pe_call (ok_L_take TX) (hr.mono (by decide)) (by rfl) TX.g_L_take TX.f_L_take.kp TX.bd_L_take .nil pass0 (pa_cons (pv 0) (pa_cons (pe_op op_add (pv 2) pe_int) pa_nil))) pa_nil)) (by rfl))
      (pss_cons (ps_set (i := 5) sc_L_load.nd rfl (.inl rfl) (pe_lst pa_nil))
      (pss_cons (ps_for PassesOwn.never rfl (pi_range1 (by rfl) TX.b_range (pa_cons (pv 1) pa_nil)) (pg_name (i := 6) sc_L_load.nd rfl (.inl rfl))
        (pss_cons (ps_set (i := 7) sc_L_load.nd rfl (.inl rfl) (pe_lst (pa_cons pe_int (pa_cons (pv 4) (pa_cons (pe_call (ok_L_take TX) (hr.mono (by decide)) (by rfl) TX.g_L_take TX.f_L_take.kp TX.bd_L_take .nil pass0 (pa_cons (pv 0) (pa_cons pe_int pa_nil))) (pa_cons (pe_op op_sub (pv 2) (pe_call (ok_L_take TX) (hr.mono (by decide)) (by rfl) TX.g_L_take TX.f_L_take.kp TX.bd_L_take .nil pass0 (pa_cons (pv 0) (pa_cons (pe_callB (id := "min") (call_min2 rfl) (by rfl) TX.b_min (by decide +kernel) (pa_cons (pv 2) (pa_cons pe_int pa_nil))) pa_nil)))) (pa_cons (pe_call (ok_L_of TX) (hr.mono (by decide)) (by rfl) TX.g_L_of TX.f_L_of.kp TX.bd_L_of .nil pass0 (pa_cons (pv 0) (pa_cons (pe_lst (pa_cons pe_int (pa_cons pe_int (pa_cons pe_int (pa_cons (pv 2) pa_nil))))) pa_nil))) (pa_cons pe_int pa_nil))))))))
        (pss_one (ps_expr (pe_bm PySem.F.plainAttrs_list PySem.F.slot_list_append PySem.F.type_list_append mt_append (pv 5) (pa_cons (pe_ifExp (pt_cmpR op_lt (pv 3) pe_int (nomark _)) (pe_ix (k_ixL (K := K) rfl) (pv 7) (pv 3) (fun _ _ => rfl)) (pe_call (ok_L_take TX) (hr.mono (by decide)) (by rfl) TX.g_L_take TX.f_L_take.kp TX.bd_L_take .nil pass0 (pa_cons (pv 0) (pa_cons (pe_op op_add (pv 2) pe_int) pa_nil)))) pa_nil))))))
      (pss_one (ps_ret (pe_callTy (T := "tuple") (k_tupOf (K := K) rfl) (by rfl) TX.b_tuple (by decide +kernel) (pa_cons (pv 5) pa_nil))))))), ?_⟩
    refine ⟨.ref a, rfl, a, 6, n, rfl, hp, by omega, by decide, by decide, fun H1 sy b1 p1 y0 y1 => ?_⟩
    refine ⟨.ref a, rfl, _, rfl, _, _, rfl, rfl, a, wd + 1, _, rfl, p1, by omega, by omega, by omega, fun H2 lv b2 p2 l0 l1 => ?_⟩
    have b12 := b1.trans b2
    refine ⟨_, _, rfl, sz60 (by simp), fun l nl => ?_⟩
    have s3 := same_upd (o := .lst []) nl
    have nla : l ≠ a := p2.ne nl
    have nlH : H l = none := But.free b12 nl nla
    refine ⟨_, rfl, _, rfl, by omega, by omega, for_range (lo := 0) (n := ((k : Nat) : Int).toNat) (fun i σ H' => ∃ (y6 y7 : Option V) (ns : List Int), σ = [some (.ref a), some (.int (k : Int)), some (.int wd), some (.int sy), some (.int lv), some (.ref l), y6, y7] ∧ But a H H' ∧ Pot H' a (n + 2 + 4 * (i : Int)) ∧ H' l = some (.lst (ns.map V.int)) ∧ ns.length = i ∧ ∀ x, x ∈ ns → 0 ≤ x ∧ (x ≤ wd ∨ x ≤ 3))
      ⟨none, none, [], rfl, b12.trans (But.of s3), (p2.same s3).mono (by omega), upd_same, rfl, by simp⟩ ?_ ?_⟩
    · rintro i σ H3 hi ⟨y6, y7, ns, rfl, b3, p3, hl3, hnl, hB⟩
      have hi' : i < k := by omega
      refine ⟨_, rfl, .ref a, rfl, a, 4, _, rfl, p3, by omega, by decide, by decide, fun H4 r1 b4 p4 r10 r11 => ?_⟩
      refine ⟨_, rfl, .ref a, rfl, _, rfl, _, _, rfl, a, _, _, rfl, p4, by omega, by split <;> omega, by split <;> omega, fun H5 r2 b5 p5 r20 r21 => ?_⟩
      have hr2 : r2 < wd := by
        revert r21
        split <;> omega
      refine ⟨_, _, rfl, rfl, .ref a, rfl, _, rfl, sz60 (by simp), fun o no => ?_⟩
      have s6 := same_upd (o := .lst [V.int 0, V.int 0, V.int 0, V.int wd]) no
      refine ⟨a, o, _, _, rfl, p5.same s6, by omega, upd_same, p5.ne no, by simp, by simp, fun H7 v b7 p7 hv => ?_⟩
      obtain ⟨x, rfl, hx⟩ : ∃ x : Int, v = .int x ∧ 0 ≤ x ∧ (x ≤ wd ∨ x ≤ 3) := by
        simp only [List.mem_cons, List.not_mem_nil, or_false] at hv
        rcases hv with rfl | rfl | rfl | rfl
        · exact ⟨0, rfl, by omega, by omega⟩
        · exact ⟨0, rfl, by omega, by omega⟩
        · exact ⟨0, rfl, by omega, by omega⟩
        · exact ⟨wd, rfl, by omega, by omega⟩
      refine ⟨sz60 (by simp), fun o2 no2 => ?_⟩
      have b37 : But a H3 H7 := ((b4.trans b5).trans (But.of s6)).trans b7
      have hl7 : H7 l = some (.lst (ns.map V.int)) := b37 _ _ nla hl3
      have s8 := same_upd (o := .lst [V.int 0, V.int lv, V.int r1, V.int (wd - r2), V.int x, V.int 0]) no2
      have hl8 := s8 _ _ hl7
      have p8 := p7.same s8
      have b38 : But a H (upd H7 o2 (.lst [V.int 0, V.int lv, V.int r1, V.int (wd - r2), V.int x, V.int 0])) := (b3.trans b37).trans (But.of s8)
      refine ⟨.ref l, rfl, .inl ⟨rfl, _, .inl (.inl hl8)⟩, _, rfl, _, _, rfl, rfl, _, rfl, ite2 (fun h => ?_) (fun h => ?_)⟩
      · have hs5 : sy < 5 := by simpa using h
        obtain ⟨v, hv1, hv2⟩ := at_mem (xs := [V.int 0, V.int lv, V.int r1, V.int (wd - r2), V.int x, V.int 0]) (r := sy) y0 (by simp; omega)
        obtain ⟨x', rfl, hx'⟩ : ∃ x : Int, v = .int x ∧ 0 ≤ x ∧ (x ≤ wd ∨ x ≤ 3) := by
          simp only [List.mem_cons, List.not_mem_nil, or_false] at hv2
          rcases hv2 with rfl | rfl | rfl | rfl | rfl | rfl
          · exact ⟨0, rfl, by omega, by omega⟩
          · exact ⟨lv, rfl, by omega, by omega⟩
          · exact ⟨r1, rfl, by omega, by omega⟩
          · exact ⟨wd - r2, rfl, by omega, by omega⟩
          · exact ⟨x, rfl, hx⟩
          · exact ⟨0, rfl, by omega, by omega⟩
        refine ⟨.ref o2, rfl, _, rfl, o2, _, _, _, rfl, rfl, .inl (.inl upd_same), hv1, l, _, _, rfl, rfl, hl8, sz61 (by rw [List.length_map]; omega), ?_⟩
        refine ⟨_, _, ns ++ [x'], rfl, But.mut b38 nlH, (p8.upd nla).mono (by omega), by rw [upd_same, List.map_append]; rfl, by simp [hnl], fun y hy => ?_⟩
        rcases List.mem_append.mp hy with hy | hy
        · exact hB y hy
        · rw [List.mem_singleton.mp hy]; exact hx'
      · refine ⟨.ref a, rfl, _, rfl, _, _, rfl, rfl, a, wd + 1, _, rfl, p8, by omega, by omega, by omega, fun H9 r3 b9 p9 r30 r31 => ?_⟩
        have hl9 := b9 _ _ nla hl8
        refine ⟨l, _, _, rfl, rfl, hl9, sz61 (by rw [List.length_map]; omega), ?_⟩
        refine ⟨_, _, ns ++ [r3], rfl, But.mut (b38.trans b9) nlH, (p9.upd nla).mono (by omega), by rw [upd_same, List.map_append]; rfl, by simp [hnl], fun y hy => ?_⟩
        rcases List.mem_append.mp hy with hy | hy
        · exact hB y hy
        · rw [List.mem_singleton.mp hy]; exact ⟨by omega, by omega⟩
    · rintro σ H3 ⟨y6, y7, ns, rfl, b3, p3, hl3, hnl, hB⟩
      refine ⟨.ref l, rfl, l, _, rfl, .inl ⟨.inl (.inl hl3), fun p np => ?_⟩⟩
      exact q _ p ns (b3.trans (But.of (same_upd np))) ((p3.same (same_upd np)).mono (by omega)) (by omega) hB (.inl (.inl upd_same))
end
section
variable {P : Program} {w : World} {K : PySem.W.Frag} {mg : Str → Option Value} {base : Heap}
def sp_L_sums (K : PySem.W.Frag) : Sp := fun vs H Q _ => ∃ (a : Addr) (ns : List Int), vs = [.ref a] ∧ SqT K H a (ns.map V.int) ∧ ns.length ≤ 1000 ∧ ∀ H' p, Same H H' → H p = none → H' p = some (.lst (sms ns)) → Q (.ref p) H'
theorem ok_L_sums (TX : Tx K mg) : FnOk P w K mg base CX0 1 TX.a_L_sums TX.fd_L_sums ["_law_some"] (sp_L_sums K) := by
  refine TX.f_L_sums.ok sc_L_sums (fun vs H Q E h => ?_) (fun cdv A outer s H vs Q E hr h => ?_)
  · obtain ⟨a, ns, rfl, _⟩ := h; rfl
  · obtain ⟨a, ns, rfl, hS, h3, q⟩ := h
    refine ⟨_, (pss_cons (ps_set (i := 1) sc_L_sums.nd rfl (.inl rfl) (pe_lst (pa_cons pe_int pa_nil)))
      (pss_cons (ps_for PassesOwn.never rfl (k_piT (K := K) rfl (pv 0)) (pg_name (i := 2) sc_L_sums.nd rfl (.inl rfl))
        (pss_one (ps_expr (pe_bm PySem.F.plainAttrs_list PySem.F.slot_list_append PySem.F.type_list_append mt_append (pv 1) (pa_cons (pe_op op_add (pe_ix (k_ixL (K := K) rfl) (pv 1) (pe_un un_neg pe_int) (fun _ _ => rfl)) (pv 2)) pa_nil)))))
      (pss_one (ps_ret (pv 1))))), ?_⟩
    refine ⟨sz60 (by simp), fun l nl => ?_⟩
    have s1 := same_upd (o := .lst [V.int 0]) nl
    refine ⟨.ref a, rfl, a, rfl, ⟨_, Same.tup s1 hS⟩, for_tup (K := K) (xs := ns.map V.int) (fun i σ H' => ∃ y2, σ = [some (.ref a), some (.ref l), y2] ∧ Same H H' ∧ H' l = some (.lst ((List.range (i + 1)).map fun k => V.int (sm ns k)))) ⟨none, rfl, s1, by rw [upd_same]; simp [sm_zero]⟩ (fun i σ H' _ ⟨_, _, h, _⟩ => Same.tup h hS) ?_ ?_⟩
    · rintro i x σ H2 hx ⟨y2, rfl, s2, h2⟩
      rw [List.getElem?_map, Option.map_eq_some_iff] at hx
      obtain ⟨z, hz, rfl⟩ := hx
      have hi : i < ns.length := (List.getElem?_eq_some_iff.mp hz).1
      have e1 : ((List.range (i + 1)).map fun k => V.int (sm ns k)) = ((List.range i).map fun k => V.int (sm ns k)) ++ [V.int (sm ns i)] := by rw [List.range_succ, List.map_append]; rfl
      refine ⟨.ref l, rfl, .inl ⟨rfl, _, .inl (.inl h2)⟩, .ref l, rfl, _, rfl, l, _, -1, _, rfl, rfl, .inl (.inl h2), (by rw [e1]; exact atI_last _ _), _, rfl, _, _, rfl, rfl, l, _, _, rfl, rfl, h2, sz61 (by simp; omega), ?_⟩
      refine ⟨_, rfl, Same.mut s2 nl, ?_⟩
      rw [upd_same, List.range_succ (n := i + 1), List.map_append]
      show _ = some (HO.lst (_ ++ [V.int (sm ns (i + 1))]))
      rw [sm_succ hz]
    · rintro σ H2 ⟨y2, rfl, s2, h2⟩
      rw [List.length_map] at h2
      exact ⟨_, rfl, q _ l s2 nl h2⟩
end
/-- the least work and the least root of the m flushes from i on -/
def dLeast (S R : Nat → Int) (i m : Nat) : PyData := .tuple [.int (lw S R i m), if m = 0 then .none else .int ((i + rt S R i (m - 1) : Nat) : Int)]
theorem tf_least (S R : Nat → Int) (i m : Nat) : Tf (dLeast S R i m) := .tup fun d h => by
  rcases List.mem_cons.mp h with rfl | h
  · exact .int _
  · rcases List.mem_cons.mp h with rfl | h
    · split
      · exact .non
      · exact .int _
    · cases h
def kk (i j : Nat) : List Int := [(i : Int), (j : Int)]
theorem kk_inj {i j i' j' : Nat} (h : kk i j = kk i' j') : i = i' ∧ j = j' := by
  unfold kk at h
  injection h with h1 h2
  injection h2 with h2 _
  omega
theorem updT_same {T : List Int → Option PyData} {k : List Int} {d : PyData} : updT T k d k = some d := if_pos rfl
theorem updT_ne {T : List Int → Option PyData} {k j : List Int} {d : PyData} (h : j ≠ k) : updT T k d j = T j := if_neg h
theorem least_succ (S R : Nat → Int) (i m : Nat) : dLeast S R i (m + 1) = dP (lw S R i (m + 1), ((i + rt S R i m : Nat) : Int)) := by
  unfold dLeast dP
  rw [if_neg (by omega)]; rfl
section
variable {P : Program} {w : World} {K : PySem.W.Frag} {mg : Str → Option Value} {base : Heap}
/-- d[k][0] of a table of such pairs -/
theorem least_fst {H : Hp} {v : V} {S R : Nat → Int} {i m : Nat} (h : Dp K H v (dLeast S R i m)) : ∃ b z, v = .ref b ∧ SqT K H b [.int (lw S R i m), z] ∧ Dp K H z (if m = 0 then .none else .int ((i + rt S R i (m - 1) : Nat) : Int)) := by
  obtain ⟨b, xs, rfl, hS, hA⟩ := Dp.tupInv h
  cases hA with
  | cons g1 g2 =>
    cases g2 with
    | cons g3 g4 =>
      cases g4
      cases g1
      exact ⟨b, _, rfl, hS, g3⟩
end
/-- a table of whole numbers of n flushes -/
def rowB (B : Nat → Nat → Int) (n i : Nat) : List Int := (List.range (n + 1 - i)).map (B i)
def dTab (B : Nat → Nat → Int) (n : Nat) : PyData := .tuple ((List.range (n + 1)).map fun i => .tuple ((rowB B n i).map PyData.int))
theorem dTab_lw (S R : Nat → Int) (n : Nat) : dTab (lw S R) n = .tuple (dRows S R n) := rfl
theorem rowB_len (B : Nat → Nat → Int) (n i : Nat) : (rowB B n i).length = n + 1 - i := by simp [rowB]
theorem rowB_at {B : Nat → Nat → Int} {n i m : Nat} (h : i + m ≤ n) : (rowB B n i)[m]? = some (B i m) := by
  unfold rowB
  rw [List.getElem?_map, List.getElem?_range (by omega)]; rfl
theorem tab_row {K : PySem.W.Frag} {H : Hp} {v : V} {B : Nat → Nat → Int} {n : Nat} (h : Dp K H v (dTab B n)) : ∃ a xs, v = .ref a ∧ SqT K H a xs ∧ xs.length = n + 1 ∧ ∀ i, i ≤ n → ∃ b, xs[i]? = some (.ref b) ∧ SqT K H b ((rowB B n i).map V.int) := by
  obtain ⟨a, xs, rfl, hS, hA⟩ := Dp.tupInv h
  refine ⟨a, xs, rfl, hS, by rw [DpAll.len hA]; simp, fun i hi => ?_⟩
  obtain ⟨x, hx, hD⟩ := DpAll.get hA (i := i) (d := .tuple ((rowB B n i).map PyData.int)) (by rw [List.getElem?_map, List.getElem?_range (by omega)]; rfl)
  obtain ⟨b, rfl, hB⟩ := Dp.intsInv hD
  exact ⟨b, hx, hB⟩
theorem tab_rd {K : PySem.W.Frag} {H : Hp} {v : V} {B : Nat → Nat → Int} {n : Nat} (h : Dp K H v (dTab B n)) {i m : Nat} (hi : i + m ≤ n) : Rd K H v i m (B i m) := by
  obtain ⟨a, xs, rfl, hS, _, hr⟩ := tab_row h
  obtain ⟨b, hb, hB⟩ := hr i (by omega)
  refine ⟨a, xs, b, _, rfl, .inr hS, hb, .inr hB, ?_⟩
  rw [List.getElem?_map, rowB_at hi]; rfl
/-- an int or None -/
def ov : Option Int → V
  | none => .non
  | some i => .int i
def Rdo (K : PySem.W.Frag) (H : Hp) (v : V) (i k : Nat) (x : Option Int) : Prop := ∃ a xs b ys, v = .ref a ∧ SqQ K H a xs ∧ xs[i]? = some (.ref b) ∧ SqQ K H b ys ∧ ys[k]? = some (ov x)
theorem Rd.o {K : PySem.W.Frag} {H : Hp} {v : V} {i k : Nat} {x : Int} (h : Rd K H v i k x) : Rdo K H v i k (some x) := h
theorem Rdo.same {K : PySem.W.Frag} {H H' : Hp} {v : V} {i k : Nat} {x : Option Int} (h : Rdo K H v i k x) (e : Same H H') : Rdo K H' v i k x := by
  obtain ⟨a, xs, b, ys, h1, h2, h3, h4, h5⟩ := h
  exact ⟨a, xs, b, ys, h1, h2.same e, h3, h4.same e, h5⟩
def RdsO (K : PySem.W.Frag) (H : Hp) (v u : V) (l r : Nat → Option Int) (i m : Nat) : Prop := (∀ k, k < m → Rdo K H v i k (l k)) ∧ ∀ k, k < m → Rdo K H u (i + k + 1) (m - 1 - k) (r k)
theorem RdsO.same {K : PySem.W.Frag} {H H' : Hp} {v u : V} {l r : Nat → Option Int} {i m : Nat} (h : RdsO K H v u l r i m) (e : Same H H') : RdsO K H' v u l r i m :=
  ⟨fun k hk => (h.1 k hk).same e, fun k hk => (h.2 k hk).same e⟩
def wb1 (l r : Nat → Option Int) (c : Nat → Int) (i k : Nat) : Option (Int × Int) := match l k, r k with
  | some x, some y => some (x + y + c k, ((i + k : Nat) : Int))
  | _, _ => none
def wbo (l r : Nat → Option Int) (c : Nat → Int) (i m : Nat) : List (Int × Int) := (List.range m).filterMap (wb1 l r c i)
theorem wbo_succ (l r : Nat → Option Int) (c : Nat → Int) (i m : Nat) : wbo l r c i (m + 1) = wbo l r c i m ++ (wb1 l r c i m).toList := by
  unfold wbo
  rw [List.range_succ, List.filterMap_append]
  cases e : wb1 l r c i m <;> simp [e]
theorem wbo_len (l r : Nat → Option Int) (c : Nat → Int) (i m : Nat) : (wbo l r c i m).length ≤ m := by
  unfold wbo
  have := List.length_filterMap_le (wb1 l r c i) (List.range m)
  rwa [List.length_range] at this
def lowV (b : Int) (ps : List (Int × Int)) : Bool := ps.all fun p => decide (b ≤ p.1)
def ivN (n : Nat) : List (Nat × Nat) := (List.range (n + 1)).flatMap fun i => (List.range (n + 1 - i)).map fun m => (i, m)
def dIv (p : Nat × Nat) : PyData := dP ((p.1 : Int), ((p.1 + p.2 : Nat) : Int))
theorem ivN_blks (n : Nat) : (ivN n).map dIv = blks (fun i => (List.range (n + 1 - i)).map fun m => dIv (i, m)) (n + 1) := by
  unfold ivN blks
  rw [List.map_flatMap]
  simp only [List.map_map]
  rfl
theorem mem_ivN {n : Nat} {p : Nat × Nat} : p ∈ ivN n ↔ p.1 + p.2 ≤ n := by
  unfold ivN
  rw [List.mem_flatMap]
  constructor
  · rintro ⟨i, hi, h⟩
    obtain ⟨m, hm, rfl⟩ := List.mem_map.mp h
    have := List.mem_range.mp hi
    have := List.mem_range.mp hm
    show i + m ≤ n
    omega
  · intro h
    exact ⟨p.1, List.mem_range.mpr (by omega), List.mem_map.mpr ⟨p.2, List.mem_range.mpr (by omega), rfl⟩⟩
theorem blks_len_le {f : Nat → List PyData} {c : Nat} : ∀ n, (∀ i, i < n → (f i).length ≤ c) → (blks f n).length ≤ c * n
  | 0, _ => by simp [blks]
  | n + 1, h => by
    have h1 := blks_len_le n fun i hi => h i (by omega)
    have h2 := h n (by omega)
    rw [blks_succ, List.length_append, Nat.mul_add, Nat.mul_one]
    omega
theorem tf_dIv (p : Nat × Nat) : Tf (dIv p) := tf_dP _
/-- whether the bound of the m flushes from i on is low enough -/
def lowAt (S R : Nat → Int) (B : Nat → Nat → Int) (p : Nat × Nat) : Bool :=
  if p.2 = 0 then decide (B p.1 0 ≤ 0) else lowV (B p.1 p.2) (wbo (fun k => some (B p.1 k)) (fun k => some (B (p.1 + k + 1) (p.2 - 1 - k))) (cst S R p.1 p.2) p.1 p.2)
def okTab (S R : Nat → Int) (B : Nat → Nat → Int) (n : Nat) : Bool := (ivN n).all (lowAt S R B)
theorem mem_wbo {l r : Nat → Option Int} {c : Nat → Int} {i m : Nat} {p : Int × Int} : p ∈ wbo l r c i m ↔ ∃ k, k < m ∧ wb1 l r c i k = some p := by
  unfold wbo
  rw [List.mem_filterMap]
  constructor
  · rintro ⟨k, hk, h⟩; exact ⟨k, List.mem_range.mp hk, h⟩
  · rintro ⟨k, hk, h⟩; exact ⟨k, List.mem_range.mpr hk, h⟩
theorem lowAt_iff {S R : Nat → Int} {B : Nat → Nat → Int} {i m : Nat} : lowAt S R B (i, m + 1) = true ↔ ∀ k, k ≤ m → B i (m + 1) ≤ B i k + B (i + k + 1) (m - k) + cst S R i (m + 1) k := by
  unfold lowAt lowV
  rw [if_neg (by simp), List.all_eq_true]
  constructor
  · intro h k hk
    have := h (B i k + B (i + k + 1) (m - k) + cst S R i (m + 1) k, ((i + k : Nat) : Int)) (mem_wbo.mpr ⟨k, by dsimp only; omega, rfl⟩)
    simpa using this
  · intro h p hp
    obtain ⟨k, hk, e⟩ := mem_wbo.mp hp
    have e' : (B i k + B (i + k + 1) (m - k) + cst S R i (m + 1) k, ((i + k : Nat) : Int)) = p := Option.some.inj e
    rw [← e']
    exact decide_eq_true (h k (by dsimp only at hk; omega))
theorem okTab_iff {S R : Nat → Int} {B : Nat → Nat → Int} {n : Nat} : okTab S R B n = true ↔ ∀ i m, i + m ≤ n → lowAt S R B (i, m) = true := by
  unfold okTab
  rw [List.all_eq_true]
  exact ⟨fun h i m hi => h (i, m) (mem_ivN.mpr hi), fun h p hp => h p.1 p.2 (mem_ivN.mp hp)⟩
theorem lw_ok (S R : Nat → Int) (n : Nat) : okTab S R (lw S R) n = true := by
  rw [okTab_iff]
  intro i m hi
  cases m with
  | zero =>
    unfold lowAt
    rw [if_pos rfl]
    exact decide_eq_true (by rw [lw_zero]; exact Int.le_refl _)
  | succ m =>
    rw [lowAt_iff]
    intro k hk
    have := lw_le S R i hk
    unfold via at this
    exact this
/-- no bound is above the least work -/
theorem low_le {S R : Nat → Int} {B : Nat → Nat → Int} {n : Nat} (h : okTab S R B n = true) : ∀ m i, i + m ≤ n → B i m ≤ lw S R i m := by
  rw [okTab_iff] at h
  intro m
  induction m using Nat.strongRecOn with
  | ind m ih =>
    intro i hi
    cases m with
    | zero =>
      have := h i 0 hi
      unfold lowAt at this
      rw [if_pos rfl] at this
      rw [lw_zero]
      exact of_decide_eq_true this
    | succ m =>
      have h1 := lowAt_iff.mp (h i (m + 1) hi) (rt S R i m) (rt_le _ _ _ _)
      rw [lw_succ]
      have hk := rt_le S R i m
      generalize rt S R i m = k at hk h1 ⊢
      have h2 := ih k (by omega) i (by omega)
      have h3 := ih (m - k) (by omega) (i + k + 1) (by omega)
      unfold via
      omega
/-- no int -/
def NotI (K : PySem.W.Frag) (H : Hp) (x : V) : Prop := x = .non ∨ (∃ b, x = .bl b) ∨ (∃ z, x = .str z) ∨ ∃ a xs, x = .ref a ∧ SqT K H a xs
theorem NotI.same {K : PySem.W.Frag} {H H' : Hp} {x : V} (h : NotI K H x) (e : Same H H') : NotI K H' x := by
  rcases h with h | h | h | ⟨a, xs, h, hs⟩
  · exact .inl h
  · exact .inr (.inl h)
  · exact .inr (.inr (.inl h))
  · exact .inr (.inr (.inr ⟨a, xs, h, Same.tup e hs⟩))
theorem NotI.ty {K : PySem.W.Frag} {H : Hp} {x : V} (h : NotI K H x) : ∃ T b1 b2, TyX K H x (.type T) ∧ L2.kitB T "int" = some b1 ∧ L2.kitB T "bool" = some b2 ∧ (b1 && !b2) = false := by
  rcases h with rfl | ⟨b, rfl⟩ | ⟨z, rfl⟩ | ⟨a, xs, rfl, hs⟩
  · exact ⟨"NoneType", false, false, .base .non, by decide +kernel, by decide +kernel, rfl⟩
  · exact ⟨"bool", true, true, .base (.bl b), by decide +kernel, by decide +kernel, rfl⟩
  · exact ⟨"str", false, false, .base (.str z), by decide +kernel, by decide +kernel, rfl⟩
  · exact ⟨"tuple", false, false, ty_tup hs, by decide +kernel, by decide +kernel, rfl⟩
section
variable {P : Program} {w : World} {K : PySem.W.Frag} {mg : Str → Option Value} {base : Heap}
def sp_is_intD (K : PySem.W.Frag) : Sp := fun vs H Q _ => ∃ x T b1 b2, vs = [x] ∧ TyX K H x (.type T) ∧ L2.kitB T "int" = some b1 ∧ L2.kitB T "bool" = some b2 ∧ Q (.bl (b1 && !b2)) H
theorem ok_is_intD (TX : Tx K mg) : FnOk P w K mg base CX0 1 TX.a_is_int TX.fd_is_int ["value"] (sp_is_intD K) := by
  refine TX.f_is_int.ok sc_is_int (fun vs H Q E h => ?_) (fun cdv A outer s H vs Q E hr h => ?_)
  · obtain ⟨x, T, b1, b2, rfl, _⟩ := h; rfl
  · obtain ⟨x, T, b1, b2, rfl, hT, h1, h2, q⟩ := h
    refine ⟨_, (pss_one (ps_ret (pe_and (pe_callB (id := "isinstance") (k_isi (K := K) rfl) (by rfl) TX.b_isinstance (by decide +kernel) (pa_cons (pv 0) (pa_cons (pe_bltn (v := .ty "int") (by rfl) TX.b_int (by decide +kernel) rfl) pa_nil))) (pe_one (pe_not (pe_callB (id := "isinstance") (k_isi (K := K) rfl) (by rfl) TX.b_isinstance (by decide +kernel) (pa_cons (pv 0) (pa_cons (pe_bltn (v := .ty "bool") (by rfl) TX.b_bool (by decide +kernel) rfl) pa_nil)))))))), ?_⟩
    refine ⟨x, rfl, x, .ty "int", .type T, .type "int", b1, rfl, .ty _, hT, kit_ty h1, b1, rfl, ?_⟩
    cases b1 with
    | false => exact iteF q
    | true => exact iteT ⟨x, rfl, x, .ty "bool", .type T, .type "bool", b2, rfl, .ty _, hT, kit_ty h2, b2, rfl, q⟩
def sp_works_by_rootO (K : PySem.W.Frag) : Sp := fun vs H Q _ => ∃ (v u z : V) (ss rs : List Int) (i m : Nat) (lf rg : Nat → Option Int), vs = [v, u, z, .int (i : Int), .int ((i + m : Nat) : Int)] ∧ Sms K H z ss rs ∧ i + m ≤ ss.length ∧ i + m ≤ rs.length ∧ ss.length ≤ 1000 ∧ RdsO K H v u lf rg i m ∧
  ∀ H' p us, Same H H' → H p = none → H' p = some (.lst us) → DpAll K H' us ((wbo lf rg (cst (sm ss) (sm rs) i m) i m).map dP) → Q (.ref p) H'
theorem ok_works_by_rootO (TX : Tx K mg) : FnOk P w K mg base CX0 2 TX.a_works_by_root TX.fd_works_by_root ["lefts", "rights", "sums", "start", "stop"] (sp_works_by_rootO K) := by
  refine TX.f_works_by_root.ok sc_works_by_root (fun vs H Q E h => ?_) (fun cdv A outer s H vs Q E hr h => ?_)
  · obtain ⟨v, u, z, ss, rs, i, m, lf, rg, rfl, _⟩ := h; rfl
  · obtain ⟨v, u, z, ss, rs, i, m, lf, rg, rfl, hZ, h1, h2, h3, hR, q⟩ := h
    refine ⟨_, (pss_cons (ps_set (i := 5) sc_works_by_root.nd rfl (.inl rfl) (pe_lst pa_nil))
      (pss_cons (ps_for PassesOwn.never rfl (pi_range2 (by rfl) TX.b_range (pa_cons (pv 3) (pa_cons (pv 4) pa_nil))) (pg_name (i := 6) sc_works_by_root.nd rfl (.inl rfl))
        (pss_cons (ps_set (i := 7) sc_works_by_root.nd rfl (.inl rfl) (pe_ix (k_ixQ (K := K) rfl) (pe_ix (k_ixQ (K := K) rfl) (pv 0) (pv 3) (fun _ _ => rfl)) (pe_op op_sub (pv 6) (pv 3)) (fun _ _ => rfl)))
        (pss_cons (ps_set (i := 8) sc_works_by_root.nd rfl (.inl rfl) (pe_ix (k_ixQ (K := K) rfl) (pe_ix (k_ixQ (K := K) rfl) (pv 1) (pe_op op_add (pv 6) pe_int) (fun _ _ => rfl)) (pe_op op_sub (pe_op op_sub (pv 4) (pv 6)) pe_int) (fun _ _ => rfl)))
        (pss_one (ps_if (PW.pt (pw_and (pt_cmpR op_notN (pv 7) pe_non (nomark _)) (pw_and1 (pt_cmpR op_notN (pv 8) pe_non (nomark _)))))
          (pss_one (ps_expr (pe_bm PySem.F.plainAttrs_list PySem.F.slot_list_append PySem.F.type_list_append mt_append (pv 5) (pa_cons (pe_tup (pa_cons (pe_op op_add (pe_op op_add (pv 7) (pv 8)) (pe_call (ok_root_cost TX) (hr.mono (by decide)) (by rfl) TX.g_root_cost TX.f_root_cost.kp TX.bd_root_cost .nil pass0 (pa_cons (pv 2) (pa_cons (pv 3) (pa_cons (pv 4) (pa_cons (pv 6) pa_nil)))))) (pa_cons (pv 6) pa_nil))) pa_nil))))
          pss_nil)))))
      (pss_one (ps_ret (pv 5))))), ?_⟩
    refine ⟨sz60 (by simp), fun l nl => ?_⟩
    have s1 := same_upd (o := .lst []) nl
    have en : ((((i + m : Nat) : Int)) - ((i : Nat) : Int)).toNat = m := by omega
    refine ⟨_, rfl, _, rfl, _, _, rfl, ⟨by omega, by omega, by omega, by omega⟩, ?_⟩
    refine for_range (lo := ((i : Nat) : Int)) (fun j σ H' => ∃ y6 y7 y8 us, σ = [some v, some u, some z, some (.int (i : Int)), some (.int ((i + m : Nat) : Int)), some (.ref l), y6, y7, y8] ∧ Same H H' ∧ H' l = some (.lst us) ∧ DpAll K H' us ((wbo lf rg (cst (sm ss) (sm rs) i m) i j).map dP)) ⟨none, none, none, [], rfl, s1, upd_same, .nil⟩ ?_ ?_
    · rintro j σ H2 hj ⟨y6, y7, y8, us, rfl, s2, hl, hA⟩
      rw [en] at hj
      obtain ⟨a, xs, b, ys, rfl, g1, g2, g3, g4⟩ := (hR.1 j hj).same s2
      obtain ⟨a', xs', b', ys', rfl, k1, k2, k3, k4⟩ := (hR.2 j hj).same s2
      have e1 : ((i : Nat) : Int) + ((j : Nat) : Int) = ((i + j : Nat) : Int) := by omega
      have e2 : ((i + j : Nat) : Int) - ((i : Nat) : Int) = ((j : Nat) : Int) := by omega
      have e3 : ((i + j : Nat) : Int) + 1 = ((i + j + 1 : Nat) : Int) := by omega
      have e4 : ((i + m : Nat) : Int) - ((i + j : Nat) : Int) - 1 = ((m - 1 - j : Nat) : Int) := by omega
      rw [e1]
      refine ⟨_, rfl, _, rfl, a, xs, _, _, rfl, rfl, g1, atI_nat g2, _, rfl, _, rfl, _, _, rfl, rfl, b, ys, _, _, rfl, rfl, g3, (by rw [e2]; exact atI_nat g4), ?_⟩
      refine ⟨_, rfl, _, rfl, _, _, rfl, rfl, a', xs', _, _, rfl, rfl, k1, (by rw [e3]; exact atI_nat k2), _, rfl, _, rfl, _, _, rfl, rfl, _, _, rfl, rfl, b', ys', _, _, rfl, rfl, k3, (by rw [e4]; exact atI_nat k4), ?_⟩
      have hul := DpAll.len hA
      have hwl := wbo_len lf rg (cst (sm ss) (sm rs) i m) i j
      rw [List.length_map] at hul
      have hw := wbo_succ lf rg (cst (sm ss) (sm rs) i m) i j
      cases ex : lf j with
      | none =>
        have e0 : wb1 lf rg (cst (sm ss) (sm rs) i m) i j = none := by unfold wb1; rw [ex]
        rw [e0, Option.toList_none, List.append_nil] at hw
        refine ⟨_, rfl, rfl, _, rfl, iteB0 (by simp [ov]) (iteF ?_)⟩
        exact ⟨_, _, _, us, rfl, s2, hl, by rw [hw]; exact hA⟩
      | some x =>
      cases ey : rg j with
      | none =>
        have e0 : wb1 lf rg (cst (sm ss) (sm rs) i m) i j = none := by unfold wb1; rw [ex, ey]
        rw [e0, Option.toList_none, List.append_nil] at hw
        refine ⟨_, rfl, rfl, _, rfl, iteB1 (by simp [ov]) ⟨_, rfl, rfl, _, rfl, iteB0 (by simp [ov]) ?_⟩⟩
        exact ⟨_, _, _, us, rfl, s2, hl, by rw [hw]; exact hA⟩
      | some y =>
      have e0 : wb1 lf rg (cst (sm ss) (sm rs) i m) i j = some (x + y + cst (sm ss) (sm rs) i m j, ((i + j : Nat) : Int)) := by unfold wb1; rw [ex, ey]
      rw [e0, Option.toList_some] at hw
      refine ⟨_, rfl, rfl, _, rfl, iteB1 (by simp [ov]) ⟨_, rfl, rfl, _, rfl, iteB1 (by simp [ov]) ?_⟩⟩
      refine ⟨.ref l, rfl, .inl ⟨rfl, _, .inl (.inl hl)⟩, _, rfl, _, rfl, _, _, rfl, rfl, z, rfl, _, rfl, _, rfl, _, rfl, z, ss, rs, i, m, j, rfl, hZ.same s2, h1, h2, hj, _, _, rfl, rfl, _, rfl, sz60 (by simp), fun p np => ?_⟩
      have s3 := same_upd (o := .tup [V.int (x + y + cst (sm ss) (sm rs) i m j), V.int ((i + j : Nat) : Int)]) np
      have hl3 := s3 _ _ hl
      refine ⟨l, us, _, rfl, rfl, hl3, sz61 (by omega), ?_⟩
      refine ⟨_, _, _, us ++ [V.ref p], rfl, Same.mut (s2.trans s3) nl, upd_same, ?_⟩
      rw [hw, List.map_append]
      refine DpAll.keep (But.keep But.upd hl3) (fun d hd => ?_) (DpAll.append (DpAll.same s3 hA) (.cons ?_ .nil))
      · rcases List.mem_append.mp hd with hd | hd
        · obtain ⟨p, _, rfl⟩ := List.mem_map.mp hd
          exact tf_dP p
        · obtain ⟨p, _, rfl⟩ := List.mem_map.mp hd
          exact tf_dP p
      · exact dp_dP (.inl (.inl upd_same))
    · rintro σ H2 ⟨y6, y7, y8, us, rfl, s2, hl, hA⟩
      rw [en] at hA
      exact ⟨_, rfl, q _ l us s2 nl hl hA⟩
def sp_is_low (K : PySem.W.Frag) : Sp := fun vs H Q _ => ∃ (v vl vr z : V) (ss rs : List Int) (i m : Nat) (b : Int) (lf rg : Nat → Option Int), vs = [v, vl, vr, z, .int (i : Int), .int ((i + m : Nat) : Int)] ∧ Sms K H z ss rs ∧ i + m ≤ ss.length ∧ i + m ≤ rs.length ∧ ss.length ≤ 1000 ∧ Rd K H v i m b ∧ RdsO K H vl vr lf rg i m ∧
  ∀ H', Same H H' → Q (.bl (if m = 0 then decide (b ≤ 0) else lowV b (wbo lf rg (cst (sm ss) (sm rs) i m) i m))) H'
theorem ok_is_low (TX : Tx K mg) : FnOk P w K mg base CX0 3 TX.a_is_low TX.fd_is_low ["rows", "lefts", "rights", "sums", "start", "stop"] (sp_is_low K) := by
  refine TX.f_is_low.ok sc_is_low (fun vs H Q E h => ?_) (fun cdv A outer s H vs Q E hr h => ?_)
  · obtain ⟨v, vl, vr, z, ss, rs, i, m, b, lf, rg, rfl, _⟩ := h; rfl
  · obtain ⟨v, vl, vr, z, ss, rs, i, m, b, lf, rg, rfl, hZ, h1, h2, h3, hB, hR, q⟩ := h
    refine ⟨_, (pss_cons (ps_set (i := 6) sc_is_low.nd rfl (.inr rfl) (pe_ix (k_ixQ (K := K) rfl) (pe_ix (k_ixQ (K := K) rfl) (pv 0) (pv 4) (fun _ _ => rfl)) (pe_op op_sub (pv 5) (pv 4)) (fun _ _ => rfl)))
      (pss_cons (ps_if (pt_cmpR op_eq (pv 4) (pv 5) (nomark _))
        (pss_one (ps_ret (pe_cmpR op_le (pv 6) pe_int (nomark _))))
        pss_nil)
      (pss_one (ps_ret (pe_callB (id := "all") (cr_all rfl) (by rfl) TX.b_all (by decide +kernel) (pa_cons (pe_lc (own := [("most", 7), ("root", 8)]) (by rfl) sc_is_low.nd (k_piL (K := K) rfl (pe_call (ok_works_by_rootO TX) (hr.mono (by decide)) (by rfl) TX.g_works_by_root TX.f_works_by_root.kp TX.bd_works_by_root .nil pass0 (pa_cons (pv 1) (pa_cons (pv 2) (pa_cons (pv 3) (pa_cons (pv 4) (pa_cons (pv 5) pa_nil))))))) (blkOk_by (own := [("most", 7), ("root", 8)]) (N := N_is_low) (sc := defScope s_is_low) (by decide +kernel)) (fun _ _ _ _ _ => (k_pgT2 (K := K) rfl rfl (pg_name (i := 7) sc_is_low.nd rfl (Or.inl rfl)) (pg_name (i := 8) sc_is_low.nd rfl (Or.inl rfl)))) (fun _ _ _ _ _ => pts_nil) (fun _ _ _ _ _ => (pe_cmpR op_le (pv 6) (pv 7) (nomark _)))) pa_nil)))))), ?_⟩
    obtain ⟨a, xs, c, ys, rfl, g1, g2, g3, g4⟩ := hB
    have e2 : ((i + m : Nat) : Int) - ((i : Nat) : Int) = ((m : Nat) : Int) := by omega
    refine ⟨_, rfl, _, rfl, a, xs, _, _, rfl, rfl, g1, atI_nat g2, _, rfl, _, rfl, _, _, rfl, rfl, c, ys, _, _, rfl, rfl, g3, (by rw [e2]; exact atI_nat g4), ?_⟩
    refine ⟨_, rfl, _, rfl, rfl, _, rfl, ?_⟩
    by_cases hm : m = 0
    · have q' := q H (Same.refl H)
      rw [if_pos hm] at q'
      refine iteB1 (by simp; omega) ⟨_, rfl, _, _, rfl, rfl, q'⟩
    · refine iteB0 (by simp; omega) ?_
      refine ⟨vl, rfl, vr, rfl, z, rfl, _, rfl, _, rfl, vl, vr, z, ss, rs, i, m, lf, rg, rfl, hZ, h1, h2, h3, hR, fun H1 p us s1 np hp hA => ?_⟩
      have hul := DpAll.len hA
      have hwl := wbo_len lf rg (cst (sm ss) (sm rs) i m) i m
      rw [List.length_map] at hul
      refine ⟨p, rfl, ⟨_, .inl (.inl hp)⟩, fun D nD => ?_⟩
      refine lc_all (K := K) (walk_list (xs := us)) (((wbo lf rg (cst (sm ss) (sm rs) i m) i m).map fun p => decide (b ≤ p.1)).map PyData.bool) (by rw [List.length_map, List.length_map, hul]) (fun d h => by obtain ⟨b, _, rfl⟩ := List.mem_map.mp h; exact .bl b) (by omega) nD (fun H' s' => s'.seq (.inl (.inl hp))) ?_ ?_ mono_pair (fun σ' H' Q Q' h => h _ _)
      · rintro j x Hx Hx' hj sx ⟨rfl, hx⟩ d hd R hRR
        have hj2 : j < (wbo lf rg (cst (sm ss) (sm rs) i m) i m).length := by omega
        rw [List.getElem?_map, List.getElem?_map, List.getElem?_eq_getElem hj2] at hd
        cases hd
        obtain ⟨x', hx', hD⟩ := DpAll.get hA (i := j) (by rw [List.getElem?_map, List.getElem?_eq_getElem hj2]; rfl)
        rw [hx] at hx'
        cases hx'
        generalize (wbo lf rg (cst (sm ss) (sm rs) i m) i m)[j] = pr at hD hRR
        obtain ⟨pa, pb⟩ := pr
        obtain ⟨t, rfl, ht⟩ := Dp.intsInv (ns := [pa, pb]) hD
        refine ⟨t, _, rfl, Same.tup sx ht, rfl, _, _, rfl, _, _, rfl, rfl, rfl, rfl, _, rfl, _, rfl, _, _, rfl, rfl, hRR _ _ (Same.refl _) (.bl _)⟩
      · intro H5 acc s5 ha hA5
        rw [dpBoolsI hA5] at ha
        have q' := q H5 (s1.trans s5)
        rw [if_neg hm] at q'
        refine ⟨D, _, rfl, .inl (.inl ha), ?_⟩
        rw [List.all_map]
        exact q'
end
theorem lds_of {ns : List Int} {wd b : Int} (h : ∀ x, x ∈ ns → 0 ≤ x ∧ (x ≤ wd ∨ x ≤ 3)) (h1 : wd ≤ 1000000000) : Lds ns := fun x hx => by
  have := h x hx
  omega
theorem lw_up {S R : Nat → Int} (hS : Mono S) (hR : Mono R) : ∀ m i, lw S R i m ≤ (m : Int) * (S (i + m) - S i + (R (i + m) - R i))
  | 0, i => by rw [lw_zero]; simp
  | m + 1, i => by
    have h1 := lw_le S R i (show 0 ≤ m by omega)
    have h2 := lw_up hS hR m (i + 1)
    unfold via cst at h1
    simp only [lw_zero, Nat.sub_zero, Nat.add_zero] at h1
    rw [show i + 1 + m = i + (m + 1) by omega] at h2
    have a1 := hS i (i + 1) (by omega)
    have a2 := hR i (i + 1) (by omega)
    have a3 := hS (i + 1) (i + (m + 1)) (by omega)
    have h3 : (m : Int) * (S (i + (m + 1)) - S (i + 1) + (R (i + (m + 1)) - R (i + 1))) ≤ (m : Int) * (S (i + (m + 1)) - S i + (R (i + (m + 1)) - R i)) := Int.mul_le_mul_of_nonneg_left (by omega) (by omega)
    rw [Int.natCast_add, Int.add_mul]
    simp only [Int.natCast_one, Int.one_mul]
    omega
theorem sm_le {l : List Int} (h : Lds l) : ∀ j, sm l j ≤ (j : Int) * 1000000000
  | 0 => by simp [sm]
  | j + 1 => by
    have ih := sm_le h j
    cases hx : l[j]? with
    | none =>
      have : sm l (j + 1) = sm l j := by
        unfold sm
        rw [List.take_add_one, hx]
        simp
      omega
    | some x =>
      have := (h x (List.mem_of_getElem? hx)).2
      rw [sm_succ hx]
      omega
theorem lds_mono {l : List Int} (h : Lds l) : Mono (sm l) := sm_mono fun x hx => (h x hx).1
theorem lw_bdI {ss rs : List Int} (hs : Lds ss) (hr : Lds rs) {i k : Nat} (hk : i + k ≤ 60) : 0 ≤ lw (sm ss) (sm rs) i k ∧ lw (sm ss) (sm rs) i k ≤ 7200000000000 := by
  refine ⟨lw_nonneg (lds_mono hs) (lds_mono hr) _ _, ?_⟩
  have h1 := lw_up (lds_mono hs) (lds_mono hr) k i
  have h2 := sm_le hs (i + k)
  have h3 := sm_le hr (i + k)
  have h5 := lds_mono hs 0 i (by omega)
  have h6 := lds_mono hr 0 i (by omega)
  rw [sm_zero] at h5 h6
  have h4 : (k : Int) * (sm ss (i + k) - sm ss i + (sm rs (i + k) - sm rs i)) ≤ (k : Int) * 120000000000 := Int.mul_le_mul_of_nonneg_left (by omega) (by omega)
  omega
def isTup : PyData → Bool
  | .tuple _ => true
  | _ => false
theorem tup_ty {K : PySem.W.Frag} {H : Hp} {x : V} {d : PyData} (h : Dq K H x d) : ∃ T, TyX K H x (.type T) ∧ L2.kitB T "tuple" = some (isTup d) := by
  cases h with
  | nonq => exact ⟨"NoneType", .base .non, show L2.kitB "NoneType" "tuple" = some false by decide +kernel⟩
  | blq b => exact ⟨"bool", .base (.bl b), show L2.kitB "bool" "tuple" = some false by decide +kernel⟩
  | intq i => exact ⟨"int", .base (.int i), show L2.kitB "int" "tuple" = some false by decide +kernel⟩
  | strq x => exact ⟨"str", .base (.str x), show L2.kitB "str" "tuple" = some false by decide +kernel⟩
  | lstq hs _ _ =>
    refine ⟨"list", ?_, show L2.kitB "list" "tuple" = some false by decide +kernel⟩
    rcases hs with (h | ⟨o, h⟩) | ⟨o, its, n, h1, h2, _⟩
    · exact .base (.lst h)
    · exact .base (.frz h)
    · exact .kList h1 h2
  | tupq hs _ =>
    refine ⟨"tuple", ?_, show L2.kitB "tuple" "tuple" = some true by decide +kernel⟩
    rcases hs with (h | ⟨o, h⟩) | ⟨o, its, n, h1, h2, _⟩
    · exact .base (.tup h)
    · exact .fTuple h
    · exact .kTuple h1 h2
  | dctq he _ _ => exact ⟨"dict", .base (.dK he), show L2.kitB "dict" "tuple" = some false by decide +kernel⟩
theorem DqAll.at {K : PySem.W.Frag} {H : Hp} : ∀ {vs : List V} {ds : List PyData} {i : Nat} {v : V}, DqAll K H vs ds → vs[i]? = some v → ∃ d, ds[i]? = some d ∧ Dq K H v d := fun {vs} => by
  induction vs with
  | nil => intro ds i v h e; simp at e
  | cons u us ih =>
    intro ds i v h e
    cases h with
    | cons a b =>
      cases i with
      | zero => cases e; exact ⟨_, rfl, a⟩
      | succ i => obtain ⟨d, h1, h2⟩ := ih b e; exact ⟨d, h1, h2⟩
theorem DqAll.len {K : PySem.W.Frag} {H : Hp} : ∀ {vs : List V} {ds : List PyData}, DqAll K H vs ds → vs.length = ds.length
  | _, _, .nil => rfl
  | _, _, .cons a b => by simp [DqAll.len b]
/-! ### what stands beside the draws' list -/
def off (a : Addr) (H : Hp) : Hp := fun b => if b = a then none else H b
theorem off_at {a b : Addr} {H : Hp} (h : b ≠ a) : off a H b = H b := if_neg h
theorem off_sub {a : Addr} {H : Hp} : Same (off a H) H := fun b o e => by
  by_cases h : b = a
  · unfold off at e; rw [if_pos h] at e; cases e
  · rwa [off_at h] at e
theorem off_but {a : Addr} {H H' : Hp} (b : But a H H') : Same (off a H) (off a H') := fun c o e => by
  by_cases h : c = a
  · unfold off at e; rw [if_pos h] at e; cases e
  · rw [off_at h] at e ⊢; exact b _ _ h e
theorem off_same {a : Addr} {H H' : Hp} (s : Same H H') : Same (off a H) (off a H') := off_but (But.of s)
theorem off_new {a : Addr} {H G : Hp} {o : HO} (ha : H a = some o) : Same (fun b => match H b with | none => G b | some _ => none) (off a G) := fun c u e => by
  have e' : (match H c with | none => G c | some _ => none) = some u := e
  cases h : H c with
  | some x => rw [h] at e'; cases e'
  | none =>
    rw [h] at e'
    rw [off_at (fun z => by rw [z, ha] at h; cases h)]
    exact e'
/-! ### data whose repr is short -/
structure Sn (k n : Nat) (d : PyData) : Prop where
  dep : d.depth ≤ k
  shw : d.showable = true
  short : d.leavesShort 60 = true
  bulk : d.bulk ≤ n
theorem Sn.mono {k n k' n' : Nat} {d : PyData} (h : Sn k n d) (e : k ≤ k') (e' : n ≤ n') : Sn k' n' d := ⟨Nat.le_trans h.dep e, h.shw, h.short, Nat.le_trans h.bulk e'⟩
theorem Sn.t1 {k n : Nat} {d : PyData} (h : Sn k n d) : Sn (k + 1) (n + 8) (.tuple [d]) := by
  obtain ⟨a, b, c, e⟩ := h
  refine ⟨?_, ?_, ?_, ?_⟩
  · simp [PyData.depth, PyData.depthAll]; omega
  · simp [PyData.showable, PyData.showableAll, b]
  · simp [PyData.leavesShort, PyData.leavesShortAll, c]
  · simp [PyData.bulk, PyData.bulkAll]; omega
theorem Sn.t2 {k n m : Nat} {d e : PyData} (h : Sn k n d) (h' : Sn k m e) : Sn (k + 1) (n + m + 8) (.tuple [d, e]) := by
  obtain ⟨a, b, c, f⟩ := h
  obtain ⟨a', b', c', f'⟩ := h'
  refine ⟨?_, ?_, ?_, ?_⟩
  · simp [PyData.depth, PyData.depthAll]; omega
  · simp [PyData.showable, PyData.showableAll, b, b']
  · simp [PyData.leavesShort, PyData.leavesShortAll, c, c']
  · simp [PyData.bulk, PyData.bulkAll]; omega
theorem Sn.l1 {k n : Nat} {d : PyData} (h : Sn k n d) : Sn (k + 1) (n + 8) (.list [d]) := by
  obtain ⟨a, b, c, e⟩ := h
  refine ⟨?_, ?_, ?_, ?_⟩
  · simp [PyData.depth, PyData.depthAll]; omega
  · simp [PyData.showable, PyData.showableAll, b]
  · simp [PyData.leavesShort, PyData.leavesShortAll, c]
  · simp [PyData.bulk, PyData.bulkAll]; omega
theorem Sn.d1 {k n : Nat} {d : PyData} (h : Sn k n d) : Sn (k + 1) (n + 8) (.dict [(.str "a", d)]) := by
  obtain ⟨a, b, c, e⟩ := h
  have z : (Str.ofString "a").cps.size = 1 := by decide +kernel
  refine ⟨?_, ?_, ?_, ?_⟩
  · simp [PyData.depth, PyData.depthKv]; omega
  · simp [PyData.showable, PyData.showableKv, b]
  · simp only [PyData.leavesShort, PyData.leavesShortKv, c, Bool.and_true]
    decide +kernel
  · simp [PyData.bulk, PyData.bulkKv]; omega
theorem Sn.none {k n : Nat} : Sn k n .none := ⟨by simp [PyData.depth], by simp [PyData.showable], by simp [PyData.leavesShort], by simp [PyData.bulk]⟩
theorem Sn.str {k n : Nat} {x : Str} (h : (PyData.str x).leavesShort 60 = true) (hz : x.cps.size ≤ n) : Sn k n (.str x) := ⟨by simp [PyData.depth], by simp [PyData.showable], h, by simp [PyData.bulk]; omega⟩
theorem Sn.int {k n : Nat} {i : Int} (h : i.natAbs < 10 ^ 50) : Sn k n (.int i) := by
  refine ⟨by simp [PyData.depth], ?_, ?_, by simp [PyData.bulk]⟩
  · simp only [PyData.showable]
    refine decide_eq_true ?_
    by_cases h0 : i.natAbs = 0
    · rw [h0]; decide
    · exact Nat.lt_trans ((Nat.log2_lt h0).mpr (show i.natAbs < 2 ^ 200 from Nat.lt_trans h (by decide +kernel))) (by decide)
  · simp only [PyData.leavesShort]
    refine decide_eq_true ?_
    have e := int_text_length_le10 (a := i) (k := 50) (by decide) h
    have e2 : (PyData.shown (.int i)).length = (toString i).length := by
      simp only [PyData.shown]
      exact PySem.ofString_length _
    omega
theorem Sn.bool {k n : Nat} {b : Bool} : Sn k n (.bool b) := ⟨by simp [PyData.depth], by simp [PyData.showable], by simp [PyData.leavesShort], by simp [PyData.bulk]⟩
/-- repr(x) -/
theorem Sn.repr {k n : Nat} {d : PyData} (h : Sn k n d) (hk : k ≤ 60) (hn : n ≤ 200000) : d.showable = true ∧ d.depth ≤ 60 ∧ d.shown.length ≤ sizeLine := by
  refine ⟨h.shw, Nat.le_trans h.dep hk, ?_⟩
  have h1 := PyData.shown_le_bulk 60 (by decide) d h.short
  have h3 : (60 + 2) * d.bulk ≤ 62 * 200000 := Nat.mul_le_mul (Nat.le_refl _) (Nat.le_trans h.bulk hn)
  have h4 : sizeLine = 16777216 := by decide
  omega
theorem off2_butA {a D : Addr} {G G' : Hp} (s : But a G G') : Same (off D (off a G)) (off D (off a G')) := fun b o e => by
  by_cases hl : b = D
  · unfold off at e; rw [if_pos hl] at e; cases e
  · rw [off_at hl] at e ⊢
    by_cases h : b = a
    · unfold off at e; rw [if_pos h] at e; cases e
    · rw [off_at h] at e ⊢
      exact s _ _ h e
theorem off_self {a : Addr} {G : Hp} : Same (off a G) (off a (off a G)) := fun b o e => by
  by_cases h : b = a
  · unfold off at e; rw [if_pos h] at e; cases e
  · rw [off_at h]; exact e
section
variable {P : Program} {w : World} {K : PySem.W.Frag} {mg : Str → Option Value} {base : Heap}
/-- a value of any kind, beside the list at D and the draws' list at a -/
def Anyv (K : PySem.W.Frag) (D a : Addr) (H : Hp) (x : V) (k n : Nat) : Prop := ∃ d, Dq K (off D (off a H)) x d ∧ Sn k n d
theorem Anyv.but {K : PySem.W.Frag} {D a : Addr} {H H' : Hp} {x : V} {k n : Nat} (h : Anyv K D a H x k n) (b : But a H H') : Anyv K D a H' x k n := by
  obtain ⟨d, h1, h2⟩ := h
  exact ⟨d, Dq.same (off2_butA b) h1, h2⟩
theorem Anyv.mono {K : PySem.W.Frag} {D a : Addr} {H : Hp} {x : V} {k n k' n' : Nat} (h : Anyv K D a H x k n) (e : k ≤ k') (e' : n ≤ n') : Anyv K D a H x k' n' := by
  obtain ⟨d, h1, h2⟩ := h
  exact ⟨d, h1, h2.mono e e'⟩
def sp_L_odd (K : PySem.W.Frag) : Sp := fun vs H Q _ => ∃ (a D : Addr) (n : Int) (o : HO), vs = [.ref a] ∧ Pot H a n ∧ 0 ≤ n ∧ n ≤ 900000 ∧ H sysModules = some o ∧ a ≠ sysModules ∧ (∃ u, H D = some u) ∧ ∀ H' x, But a H H' → Pot H' a (n + 30) → Anyv K D a H' x 22 200 → Q x H'
theorem ok_L_odd (TX : Tx K mg) : FnOk P w K mg base CX0 3 TX.a_L_odd TX.fd_L_odd ["_law_pot_here"] (sp_L_odd K) := by
  refine TX.f_L_odd.ok sc_L_odd (fun vs H Q E h => ?_) (fun cdv A outer s H vs Q E hr h => ?_)
  · obtain ⟨a, D, n, o, rfl, _⟩ := h; rfl
  · obtain ⟨a, D, n, o, rfl, hp, n0, hn, hsys, nas, ⟨uD, hD⟩, q⟩ := h
    refine ⟨_, (pss_cons (ps_set (i := 1) sc_L_odd.nd rfl (.inl rfl) (pe_lst (pa_cons pe_non (pa_cons pe_bl (pa_cons pe_bl (pa_cons pe_int (pa_cons pe_int (pa_cons (pe_un un_neg pe_int) (pa_cons (pe_op op_powW pe_int pe_int) (pa_cons (pe_op op_add (pe_op op_powW pe_int pe_int) pe_int) (pa_cons (pe_op op_powW pe_int pe_int) (pa_cons pe_str (pa_cons pe_str (pa_cons (pe_tup pa_nil) (pa_cons (pe_lst pa_nil) (pa_cons pe_dnewK (pa_cons (pe_tup (pa_cons pe_int pa_nil)) (pa_cons (pe_tup (pa_cons (pe_tup (pa_cons pe_int pa_nil)) pa_nil)) (pa_cons (pe_tup (pa_cons pe_bl pa_nil)) pa_nil)))))))))))))))))))
      (pss_cons (ps_set (i := 2) sc_L_odd.nd rfl (.inl rfl) (pe_call (ok_L_of TX) (hr.mono (by decide)) (by rfl) TX.g_L_of TX.f_L_of.kp TX.bd_L_of .nil pass0 (pa_cons (pv 0) (pa_cons (pv 1) pa_nil))))
      (pss_cons (ps_for PassesOwn.never rfl (pi_range1 (by rfl) TX.b_range (pa_cons (pe_call (ok_L_of TX) (hr.mono (by decide)) (by rfl) TX.g_L_of TX.f_L_of.kp TX.bd_L_of .nil pass0 (pa_cons (pv 0) (pa_cons (pe_lst (pa_cons pe_int (pa_cons pe_int (pa_cons pe_int (pa_cons pe_int (pa_cons pe_int pa_nil)))))) pa_nil))) pa_nil)) (pg_name (i := 3) sc_L_odd.nd rfl (.inl rfl))
        (pss_one (ps_set (i := 2) sc_L_odd.nd rfl (.inl rfl) (pe_call (ok_L_of TX) (hr.mono (by decide)) (by rfl) TX.g_L_of TX.f_L_of.kp TX.bd_L_of .nil pass0 (pa_cons (pv 0) (pa_cons (pe_lst (pa_cons (pe_tup (pa_cons (pv 2) pa_nil)) (pa_cons (pe_lst (pa_cons (pv 2) pa_nil)) (pa_cons (pe_disp (pps_cons pe_str (pv 2) pps_nil) (by rfl) (by rfl) (by simp) (by decide)) pa_nil)))) pa_nil))))))
      (pss_one (ps_ret (pv 2)))))), ?_⟩
    obtain ⟨ua, hua⟩ : ∃ u, H a = some u := by obtain ⟨_, _, _, h, _⟩ := hp; exact ⟨_, h⟩
    have fr : ∀ {Hi : Hp} {p x : Addr} {u : HO}, Same H Hi → Hi p = none → H x = some u → p ≠ x := fun s n h e => by
      have := s _ _ h
      rw [← e, n] at this; cases this
    have at' : ∀ {G : Hp} {p : Addr} {u : HO}, G p = some u → p ≠ a → p ≠ D → (off D (off a G)) p = some u := fun h h1 h2 => by rw [off_at h2, off_at h1]; exact h
    have big1 : (10 : Int) ^ (30 : Int).toNat = 1000000000000000000000000000000 := by decide +kernel
    have big2 : (10 : Int) ^ (9 : Int).toNat = 1000000000 := by decide +kernel
    refine ⟨_, rfl, _, _, rfl, rfl, ⟨by decide, by decide +kernel⟩, _, _, rfl, rfl, ⟨by decide, by decide +kernel⟩, _, _, rfl, rfl, _, _, rfl, rfl, ⟨by decide, by decide +kernel⟩, sz60 (by simp), fun p1 n1 => ⟨sz60 (by simp), fun p2 n2 p3 n3 => ⟨sz60 (by simp), fun p4 n4 => ⟨sz60 (by simp), fun p5 n5 => ⟨sz60 (by simp), fun p6 n6 => ⟨sz60 (by simp), fun p7 n7 => ⟨sz60 (by simp), fun l nl => ?_⟩⟩⟩⟩⟩⟩⟩
    have s1 := same_upd (o := .tup []) n1
    have s2 := same_upd (o := .lst []) n2
    have s3 := same_upd (o := .dK []) n3
    have s4 := same_upd (o := .tup [V.int 0]) n4
    have s5 := same_upd (o := .tup [V.int 0]) n5
    have s6 := same_upd (o := .tup [V.ref p5]) n6
    have s7 := same_upd (o := .tup [V.bl true]) n7
    have s8 := same_upd (o := .lst [V.non, V.bl true, V.bl false, V.int 0, V.int 1, V.int (-1), V.int (10 ^ (9 : Int).toNat), V.int (10 ^ (9 : Int).toNat + 1), V.int (10 ^ (30 : Int).toNat), V.str "", V.str "0", V.ref p1, V.ref p2, V.ref p3, V.ref p4, V.ref p6, V.ref p7]) nl
    have t7 := s7.trans s8
    have t6 := s6.trans t7
    have t5 := s5.trans t6
    have t4 := s4.trans t5
    have t3 := s3.trans t4
    have t2 := s2.trans t3
    have sH := s1.trans t2
    have c2 := s1.trans s2
    have c3 := c2.trans s3
    have c4 := c3.trans s4
    have c5 := c4.trans s5
    have c6 := c5.trans s6
    have c7 := c6.trans s7
    have e1 := t2 _ _ (upd_same (H := H) (a := p1) (o := .tup []))
    have e2 := t3 _ _ (upd_same (a := p2) (o := .lst []))
    have e3 := t4 _ _ (upd_same (a := p3) (o := .dK []))
    have e4 := t5 _ _ (upd_same (a := p4) (o := .tup [V.int 0]))
    have e5 := t6 _ _ (upd_same (a := p5) (o := .tup [V.int 0]))
    have e6 := t7 _ _ (upd_same (a := p6) (o := .tup [V.ref p5]))
    have e7 := s8 _ _ (upd_same (a := p7) (o := .tup [V.bl true]))
    have q1 := fr (Same.refl H) n1 hua
    have q2 := fr s1 n2 hua
    have q3 := fr c2 n3 hua
    have q4 := fr c3 n4 hua
    have q5 := fr c4 n5 hua
    have q6 := fr c5 n6 hua
    have q7 := fr c6 n7 hua
    have r1 := fr (Same.refl H) n1 hD
    have r2 := fr s1 n2 hD
    have r3 := fr c2 n3 hD
    have r4 := fr c3 n4 hD
    have r5 := fr c4 n5 hD
    have r6 := fr c5 n6 hD
    have r7 := fr c6 n7 hD
    have y2 := fr s1 n2 hsys
    have hla := fr c7 nl hua
    have hl := upd_same (H := upd (upd (upd (upd (upd (upd (upd H p1 (.tup [])) p2 (.lst [])) p3 (.dK [])) p4 (.tup [V.int 0])) p5 (.tup [V.int 0])) p6 (.tup [V.ref p5])) p7 (.tup [V.bl true])) (a := l) (o := .lst [V.non, V.bl true, V.bl false, V.int 0, V.int 1, V.int (-1), V.int (10 ^ (9 : Int).toNat), V.int (10 ^ (9 : Int).toNat + 1), V.int (10 ^ (30 : Int).toNat), V.str "", V.str "0", V.ref p1, V.ref p2, V.ref p3, V.ref p4, V.ref p6, V.ref p7])
    generalize upd (upd (upd (upd (upd (upd (upd (upd H p1 (.tup [])) p2 (.lst [])) p3 (.dK [])) p4 (.tup [V.int 0])) p5 (.tup [V.int 0])) p6 (.tup [V.ref p5])) p7 (.tup [V.bl true])) l _ = G at e1 e2 e3 e4 e5 e6 e7 hl sH ⊢
    clear s1 s2 s3 s4 s5 s6 s7 s8 t2 t3 t4 t5 t6 t7 c2 c3 c4 c5 c6 c7 n1 n2 n3 n4 n5 n6 n7 nl fr
    refine ⟨.ref a, rfl, _, rfl, a, l, _, n, rfl, hp.same sH, by omega, hl, hla, by simp, by simp, fun H1 v b1 p1' hv => ?_⟩
    have hav : Anyv K D a G v 2 40 := by
      simp only [List.mem_cons, List.not_mem_nil, or_false] at hv
      rcases hv with rfl | rfl | rfl | rfl | rfl | rfl | rfl | rfl | rfl | rfl | rfl | rfl | rfl | rfl | rfl | rfl | rfl
      · exact ⟨_, .nonq, .none⟩
      · exact ⟨_, .blq _, .bool⟩
      · exact ⟨_, .blq _, .bool⟩
      · exact ⟨_, .intq _, .int (by decide +kernel)⟩
      · exact ⟨_, .intq _, .int (by decide +kernel)⟩
      · exact ⟨_, .intq _, .int (by decide +kernel)⟩
      · exact ⟨_, .intq _, .int (by rw [big2]; decide +kernel)⟩
      · exact ⟨_, .intq _, .int (by rw [big2]; decide +kernel)⟩
      · exact ⟨_, .intq _, .int (by rw [big1]; decide +kernel)⟩
      · exact ⟨_, .strq _, .str (by decide +kernel) (by decide +kernel)⟩
      · exact ⟨_, .strq _, .str (by decide +kernel) (by decide +kernel)⟩
      · exact ⟨.tuple [], .tupq (.inl (.inl (at' e1 q1 r1))) .nil, by constructor <;> decide +kernel⟩
      · exact ⟨.list [], .lstq (.inl (.inl (at' e2 q2 r2))) y2 .nil, by constructor <;> decide +kernel⟩
      · exact ⟨.dict [], .dctq (kvs := []) (at' e3 q3 r3) rfl .nil, by constructor <;> decide +kernel⟩
      · exact ⟨.tuple [.int 0], .tupq (.inl (.inl (at' e4 q4 r4))) (.cons (.intq _) .nil), by constructor <;> decide +kernel⟩
      · exact ⟨.tuple [.tuple [.int 0]], .tupq (.inl (.inl (at' e6 q6 r6))) (.cons (.tupq (.inl (.inl (at' e5 q5 r5))) (.cons (.intq _) .nil)) .nil), by constructor <;> decide +kernel⟩
      · exact ⟨.tuple [.bool true], .tupq (.inl (.inl (at' e7 q7 r7))) (.cons (.blq _) .nil), by constructor <;> decide +kernel⟩
    have hav1 := hav.but b1
    have b01 : But a H H1 := (But.of sH).trans b1
    clear hav hv e1 e2 e3 e4 e5 e6 e7 hl
    refine ⟨.ref a, rfl, sz60 (by simp), fun z nz => ?_⟩
    have sz := same_upd (o := .lst [V.int 0, V.int 0, V.int 0, V.int 1, V.int 20]) nz
    refine ⟨a, z, _, _, rfl, p1'.same sz, by omega, upd_same, p1'.ne nz, by simp, by simp, fun H2 v2 b2 p2' hv2 => ?_⟩
    obtain ⟨k, rfl, hk⟩ : ∃ k : Nat, v2 = .int (k : Int) ∧ k ≤ 20 := by
      simp only [List.mem_cons, List.not_mem_nil, or_false] at hv2
      rcases hv2 with rfl | rfl | rfl | rfl | rfl
      · exact ⟨0, rfl, by decide⟩
      · exact ⟨0, rfl, by decide⟩
      · exact ⟨0, rfl, by decide⟩
      · exact ⟨1, rfl, by decide⟩
      · exact ⟨20, rfl, by decide⟩
    have b02 : But a H H2 := b01.trans ((But.of sz).trans b2)
    have hav2 := hav1.but ((But.of sz).trans b2)
    refine ⟨_, rfl, by omega, by omega, ?_⟩
    rw [show ((k : Int)).toNat = k by omega]
    refine for_range (lo := 0) (n := k) (fun i σ H' => ∃ x y3, σ = [some (.ref a), some (.ref l), some x, y3] ∧ But a H H' ∧ Pot H' a (n + 2 + (i : Int)) ∧ Anyv K D a H' x (2 + i) (40 + 8 * i)) ⟨v, _, rfl, b02, p2'.mono (by omega), hav2⟩ ?_ ?_
    rotate_left
    · rintro σ H3 ⟨x, y3, rfl, b3, d3, h3⟩
      exact ⟨x, rfl, q _ x b3 (d3.mono (by omega)) (h3.mono (by omega) (by omega))⟩
    rintro i σ H3 hi ⟨x, y3, rfl, b3, d3, d, hq3, hs3⟩
    have hi' : i < k := hi
    have hsys3 : H3 sysModules = some o := b3 _ _ (Ne.symm nas) hsys
    obtain ⟨ua3, hua3⟩ : ∃ u, H3 a = some u := by obtain ⟨_, _, _, h, _⟩ := d3; exact ⟨_, h⟩
    obtain ⟨uD3, hD3⟩ : ∃ u, H3 D = some u := by
      by_cases e : D = a
      · exact ⟨ua3, by rw [e]; exact hua3⟩
      · exact ⟨uD, b3 _ _ e hD⟩
    have fr : ∀ {Hi : Hp} {p x : Addr} {u : HO}, Same H3 Hi → Hi p = none → H3 x = some u → p ≠ x := fun s n h e => by
      have := s _ _ h
      rw [← e, n] at this; cases this
    refine ⟨.ref a, rfl, x, rfl, sz60 (by simp), fun q1 m1 => ⟨x, rfl, sz60 (by simp), fun q2 m2 q3 m3 => ⟨x, rfl, upd_same, [(.inr "a", x)], rfl, by simp, ?_⟩⟩⟩
    rw [upd_upd]
    refine ⟨sz60 (by simp), fun q5 m5 => ?_⟩
    have w1 := same_upd (o := .tup [x]) m1
    have w2 := same_upd (o := .lst [x]) m2
    have w3 := same_upd (o := .dK [(.inr "a", x)]) m3
    have w5 := same_upd (o := .lst [V.ref q1, V.ref q2, V.ref q3]) m5
    have v3 := w3.trans w5
    have v2 := w2.trans v3
    have v1 := w1.trans v2
    have e1 := v2 _ _ (upd_same (a := q1) (o := .tup [x]))
    have e2 := v3 _ _ (upd_same (a := q2) (o := .lst [x]))
    have e3 := w5 _ _ (upd_same (a := q3) (o := .dK [(.inr "a", x)]))
    have g1 := fr (Same.refl H3) m1 hua3
    have g2 := fr w1 m2 hua3
    have g3 := fr (w1.trans w2) m3 hua3
    have g5 := fr ((w1.trans w2).trans w3) m5 hua3
    have k1 := fr (Same.refl H3) m1 hD3
    have k2 := fr w1 m2 hD3
    have k3 := fr (w1.trans w2) m3 hD3
    have y2 := fr w1 m2 hsys3
    refine ⟨a, q5, _, _, rfl, d3.same v1, by omega, upd_same, g5, by simp, by simp, fun H5 vv b5 d5 hv5 => ?_⟩
    have bb : But a H3 H5 := (But.of v1).trans b5
    have hx := Dq.same (off2_butA bb) hq3
    refine ⟨vv, _, rfl, b3.trans bb, d5.mono (by omega), ?_⟩
    simp only [List.mem_cons, List.not_mem_nil, or_false] at hv5
    rcases hv5 with rfl | rfl | rfl
    · exact ⟨.tuple [d], .tupq (.inl (.inl (at' (b5 _ _ g1 e1) g1 k1))) (.cons hx .nil), hs3.t1⟩
    · exact ⟨.list [d], .lstq (.inl (.inl (at' (b5 _ _ g2 e2) g2 k2))) y2 (.cons hx .nil), hs3.l1⟩
    · exact ⟨.dict [(.str "a", d)], .dctq (kvs := [(.inr "a", x)]) (at' (b5 _ _ g3 e3) g3 k3) rfl (.cons hx .nil), hs3.d1⟩
end
/-! ### tuples of tuples of whole numbers, and what one change makes of them -/
inductive Tb : PyData → Prop
  | int {i : Int} : i.natAbs < 10 ^ 40 → Tb (.int i)
  | tup {ds : List PyData} : (∀ d, d ∈ ds → Tb d) → Tb (.tuple ds)
theorem dAll_mem : ∀ {ds : List PyData} {d : PyData}, d ∈ ds → d.depth ≤ PyData.depthAll ds
  | e :: ds, d, h => by
    simp only [PyData.depthAll]
    rcases List.mem_cons.mp h with rfl | h
    · omega
    · have := dAll_mem h; omega
theorem dAll_le {k : Nat} : ∀ {ds : List PyData}, (∀ d, d ∈ ds → d.depth ≤ k) → PyData.depthAll ds ≤ k
  | [], _ => by simp [PyData.depthAll]
  | e :: ds, h => by
    simp only [PyData.depthAll]
    have h1 := h e (List.mem_cons_self ..)
    have h2 := dAll_le (ds := ds) fun d hd => h d (List.mem_cons_of_mem _ hd)
    omega
theorem bAll_app : ∀ xs ys : List PyData, PyData.bulkAll (xs ++ ys) = PyData.bulkAll xs + PyData.bulkAll ys
  | [], ys => by simp [PyData.bulkAll]
  | x :: xs, ys => by
    have := bAll_app xs ys
    simp only [List.cons_append, PyData.bulkAll, this]; omega
theorem bAll_len : ∀ xs : List PyData, xs.length ≤ PyData.bulkAll xs
  | [] => by simp
  | x :: xs => by
    have := bAll_len xs
    simp only [List.length_cons, PyData.bulkAll]; omega
theorem shAll_of : ∀ {ds : List PyData}, (∀ d, d ∈ ds → d.showable = true ∧ d.leavesShort 60 = true) → PyData.showableAll ds = true ∧ PyData.leavesShortAll 60 ds = true
  | [], _ => by simp [PyData.showableAll, PyData.leavesShortAll]
  | e :: ds, h => by
    have h1 := h e (List.mem_cons_self ..)
    have h2 := shAll_of (ds := ds) fun d hd => h d (List.mem_cons_of_mem _ hd)
    simp only [PyData.showableAll, PyData.leavesShortAll, h1.1, h1.2, h2.1, h2.2, Bool.and_self, and_self]
theorem Sn.tupB {k n : Nat} {ds : List PyData} (h : ∀ d, d ∈ ds → ∃ m, Sn k m d) (hb : PyData.bulkAll ds ≤ n) : Sn (k + 1) n (.tuple ds) := by
  obtain ⟨h1, h2⟩ := shAll_of (ds := ds) fun d hd => by obtain ⟨m, hm⟩ := h d hd; exact ⟨hm.shw, hm.short⟩
  have h3 := dAll_le (k := k) (ds := ds) fun d hd => by obtain ⟨m, hm⟩ := h d hd; exact hm.dep
  exact ⟨by simp only [PyData.depth]; omega, by simp only [PyData.showable]; exact h1, by simp only [PyData.leavesShort]; exact h2, by simp only [PyData.bulk]; exact hb⟩
theorem Sn.lstB {k n : Nat} {ds : List PyData} (h : ∀ d, d ∈ ds → ∃ m, Sn k m d) (hb : PyData.bulkAll ds ≤ n) : Sn (k + 1) n (.list ds) := by
  obtain ⟨a, b, c, e⟩ := Sn.tupB h hb
  exact ⟨by simp only [PyData.depth] at a ⊢; exact a, by simp only [PyData.showable] at b ⊢; exact b, by simp only [PyData.leavesShort] at c ⊢; exact c, by simp only [PyData.bulk] at e ⊢; exact e⟩
theorem tb_sn {d : PyData} (h : Tb d) : Sn d.depth d.bulk d := by
  induction h with
  | int hi =>
    have := Sn.int (k := 0) (n := 0) (i := _) (Nat.lt_trans hi (by decide +kernel))
    exact this.mono (Nat.zero_le _) (Nat.zero_le _)
  | tup h ih =>
    rename_i ds
    have e : (PyData.tuple ds).depth = PyData.depthAll ds + 1 := by simp only [PyData.depth]
    have e2 : (PyData.tuple ds).bulk = PyData.bulkAll ds := by simp only [PyData.bulk]
    rw [e, e2]
    exact Sn.tupB (fun d hd => ⟨_, (ih d hd).mono (dAll_mem hd) (Nat.le_refl _)⟩) (Nat.le_refl _)
theorem tb_sh {d : PyData} (h : Tb d) : ∀ k, d.depth ≤ k → Sh k d := by
  induction h with
  | int hi => intro k _; exact Sh.int _
  | tup h ih =>
    rename_i ds
    intro k hk
    have e : (PyData.tuple ds).depth = PyData.depthAll ds + 1 := by simp only [PyData.depth]
    obtain ⟨k', rfl⟩ : ∃ k', k = k' + 1 := ⟨k - 1, by omega⟩
    exact Sh.tup fun d hd => ih d hd k' (by have := dAll_mem hd; omega)
theorem dqAll_dp {K : PySem.W.Frag} {H : Hp} : ∀ {ds : List PyData} {xs : List V}, (∀ d, d ∈ ds → ∀ x, Dq K H x d → Dp K H x d) → DqAll K H xs ds → DpAll K H xs ds
  | _, _, _, .nil => .nil
  | _, _, h, .cons a b => .cons (h _ (List.mem_cons_self ..) _ a) (dqAll_dp (fun d hd => h d (List.mem_cons_of_mem _ hd)) b)
theorem tb_dp {K : PySem.W.Frag} {H : Hp} {d : PyData} (h : Tb d) : ∀ x, Dq K H x d → Dp K H x d := by
  induction h with
  | int hi => intro x hq; cases hq; exact .int _
  | tup h ih => intro x hq; cases hq with | tupq hs ha => exact .tup hs (dqAll_dp ih ha)
theorem DqAll.get {K : PySem.W.Frag} {H : Hp} : ∀ {ds : List PyData} {xs : List V} {i : Nat} {d : PyData}, DqAll K H xs ds → ds[i]? = some d → ∃ x, xs[i]? = some x ∧ Dq K H x d
  | _, _, 0, _, .cons a _, h => by cases h; exact ⟨_, rfl, a⟩
  | _, _, i + 1, _, .cons _ b, h => DqAll.get (i := i) b h
  | _, _, 0, _, .nil, h => nomatch h
  | _, _, _ + 1, _, .nil, h => nomatch h
theorem DqAll.take {K : PySem.W.Frag} {H : Hp} : ∀ {ds : List PyData} {xs : List V} (n : Nat), DqAll K H xs ds → DqAll K H (xs.take n) (ds.take n)
  | _, _, 0, _ => .nil
  | _, _, _ + 1, .nil => .nil
  | _, _, n + 1, .cons a b => .cons a (DqAll.take n b)
theorem DqAll.drop {K : PySem.W.Frag} {H : Hp} : ∀ {ds : List PyData} {xs : List V} (n : Nat), DqAll K H xs ds → DqAll K H (xs.drop n) (ds.drop n)
  | _, _, 0, h => h
  | _, _, _ + 1, .nil => .nil
  | _, _, n + 1, .cons _ b => DqAll.drop n b
theorem DqAll.app' {K : PySem.W.Frag} {H : Hp} : ∀ {vs ws : List V} {ds es : List PyData}, DqAll K H vs ds → DqAll K H ws es → DqAll K H (vs ++ ws) (ds ++ es)
  | _, _, _, _, .nil, h => h
  | _, _, _, _, .cons a b, h => .cons a (DqAll.app' b h)
theorem off_tup {K : PySem.W.Frag} {H : Hp} {D a p : Addr} {la lD xs : List V} (ha : H a = some (.lst la)) (hD : H D = some (.lst lD)) (h : SqT K H p xs) : SqT K (off D (off a H)) p xs := by
  have at' : ∀ u, H p = some u → (∀ l, u ≠ .lst l) → (off D (off a H)) p = some u := fun u e n => by
    rw [off_at fun z => n lD (by rw [z, hD] at e; exact (Option.some.inj e).symm), off_at fun z => n la (by rw [z, ha] at e; exact (Option.some.inj e).symm)]; exact e
  rcases h with (h | ⟨o, h⟩) | h
  · exact .inl (.inl (at' _ h fun _ z => nomatch z))
  · exact .inl (.inr ⟨o, at' _ h fun _ z => nomatch z⟩)
  · exact .inr h
theorem bAll_cut {ds : List PyData} {s : Nat} {d : PyData} (h : ds[s]? = some d) : PyData.bulkAll (ds.take s) + (d.bulk + 1) + PyData.bulkAll (ds.drop (s + 1)) = PyData.bulkAll ds := by
  have e : ds = ds.take s ++ d :: ds.drop (s + 1) := by
    obtain ⟨h1, h2⟩ := List.getElem?_eq_some_iff.mp h
    rw [← h2]
    exact (by simpa using (List.take_append_drop s ds).symm.trans (by rw [List.drop_eq_getElem_cons h1]))
  conv => rhs; rw [e]
  rw [bAll_app]
  simp only [PyData.bulkAll]
  omega
theorem Sn.text {i : Int} (h : i.natAbs < 10 ^ 40) : Sn 0 50 (.str (Str.ofString (toString i))) := by
  refine Sn.str ?_ ?_
  · simp only [PyData.leavesShort]
    rw [List.all_eq_true]
    intro c hc
    have h2 := strOk_of (toString i)
    unfold PyData.strOk at h2
    rw [← Array.all_toList, List.all_eq_true] at h2
    exact decide_eq_true (Nat.lt_trans (of_decide_eq_true (h2 c hc)) (by decide))
  · have h1 := int_text_length_le10 (a := i) (k := 40) (by decide) h
    have h2 := PySem.ofString_length (toString i)
    show (Str.ofString (toString i)).length ≤ 50
    omega
section
variable {P : Program} {w : World} {K : PySem.W.Frag} {mg : Str → Option Value} {base : Heap}
def spq_bent (m : Nat) (K : PySem.W.Frag) : Sp := fun vs H Q _ => ∃ (a D : Addr) (x : V) (d : PyData) (k b : Nat) (n : Int) (o : HO) (lD : List V), vs = [.ref a, x] ∧ Pot H a n ∧ 0 ≤ n ∧ n + 60 * m ≤ 800000 ∧ H sysModules = some o ∧ a ≠ sysModules ∧ H D = some (.lst lD) ∧ Dq K (off D (off a H)) x d ∧ Tb d ∧ d.depth ≤ k ∧ d.bulk ≤ b ∧ k ≤ 30 ∧ b ≤ 20000 ∧ k < m ∧
  ∀ H' y, But a H H' → Pot H' a (n + 60 * m) → Anyv K D a H' y (k + 23) (2 * b + 400) → Q y H'
theorem okq_bent (TX : Tx K mg) : ∀ m : Nat, FnOk P w K mg base CX0 (3 + m) TX.a_L_bent TX.fd_L_bent ["_law_pot_here", "_law_thing"] (spq_bent m K)
  | 0 => ⟨fun vs H Q E h => by obtain ⟨_, _, _, _, _, _, _, _, _, _, _, _, _, _, _, _, _, _, _, _, _, _, h, _⟩ := h; omega, fun A outer s H args us vs Q E _ _ _ _ h => by obtain ⟨_, _, _, _, _, _, _, _, _, _, _, _, _, _, _, _, _, _, _, _, _, _, h, _⟩ := h; omega⟩
  | m + 1 => by
    have ih := okq_bent TX m
    refine TX.f_L_bent.ok (k := 3 + m) sc_L_bent (fun vs H Q E h => ?_) (fun cdv A outer s H vs Q E hr h => ?_)
    · obtain ⟨a, D, x, d, k, b, n, o, lD, rfl, _⟩ := h; rfl
    · obtain ⟨a, D, x, d, k, b, n, o, lD, rfl, pp, n0, hn, hsys, nas, hD, hq, ht, hk, hb, hk30, hb2, hkm, q⟩ := h
      refine ⟨_, (pss_cons (ps_if (PW.pt (pw_and (pt_val (pe_callB (id := "isinstance") (k_isi (K := K) rfl) (by rfl) TX.b_isinstance (by decide +kernel) (pa_cons (pv 1) (pa_cons (pe_bltn (v := .ty "tuple") (by rfl) TX.b_tuple (by decide +kernel) rfl) pa_nil)))) (pw_and (pt_cmpR (op_neD hr.units) (pv 1) (pe_tup pa_nil) (nomark _)) (pw_and1 (pt_cmpR op_gt (pe_call (ok_L_take TX) (hr.mono (by omega)) (by rfl) TX.g_L_take TX.f_L_take.kp TX.bd_L_take .nil pass0 (pa_cons (pv 0) (pa_cons pe_int pa_nil))) pe_int (nomark _))))))
        (pss_cons (ps_par (i := 2) (j := 3) (by rfl) sc_L_bent.nd rfl rfl (by decide) rfl rfl (pa_cons (pe_call (ok_L_take TX) (hr.mono (by omega)) (by rfl) TX.g_L_take TX.f_L_take.kp TX.bd_L_take .nil pass0 (pa_cons (pv 0) (pa_cons (pe_callB (id := "len") (k_len (K := K) rfl) (by rfl) TX.b_len (by decide +kernel) (pa_cons (pv 1) pa_nil)) pa_nil))) (pa_cons (pe_call (ok_L_take TX) (hr.mono (by omega)) (by rfl) TX.g_L_take TX.f_L_take.kp TX.bd_L_take .nil pass0 (pa_cons (pv 0) (pa_cons pe_int pa_nil))) pa_nil)) (by rfl))
        (pss_cons (ps_if (pt_cmpR op_lt (pv 3) pe_int (nomark _))
          (pss_one (ps_ret (pe_op (k_catT (K := K) rfl) (pe_op (k_catT (K := K) rfl) (pe_slice (k_slT (K := K) rfl) (pv 1) po_none (po_some (pv 2))) (pe_tup (pa_cons (pe_call ih (hr.mono (by omega)) (by rfl) TX.g_L_bent TX.f_L_bent.kp TX.bd_L_bent .nil pass0 (pa_cons (pv 0) (pa_cons (pe_ix (k_ixT (K := K) rfl) (pv 1) (pv 2) (fun _ _ => rfl)) pa_nil))) pa_nil))) (pe_slice (k_slT (K := K) rfl) (pv 1) (po_some (pe_op op_add (pv 2) pe_int)) po_none))))
          pss_nil)
        (pss_one (ps_ret (pe_ix (k_ixL (K := K) rfl) (pe_lst (pa_cons (pe_op (k_catT (K := K) rfl) (pe_slice (k_slT (K := K) rfl) (pv 1) po_none (po_some (pv 2))) (pe_slice (k_slT (K := K) rfl) (pv 1) (po_some (pe_op op_add (pv 2) pe_int)) po_none)) (pa_cons (pe_op (k_catT (K := K) rfl) (pe_slice (k_slT (K := K) rfl) (pv 1) po_none (po_some (pe_op op_add (pv 2) pe_int))) (pe_slice (k_slT (K := K) rfl) (pv 1) (po_some (pv 2)) po_none)) (pa_cons (pe_callTy (T := "list") (k_listOf (K := K) rfl) (by rfl) TX.b_list (by decide +kernel) (pa_cons (pv 1) pa_nil)) pa_nil)))) (pe_op op_sub (pv 3) pe_int) (fun _ _ => rfl))))))
        pss_nil)
      (pss_cons (ps_if (PW.pt (pw_and (pt_val (pe_callB (id := "isinstance") (k_isi (K := K) rfl) (by rfl) TX.b_isinstance (by decide +kernel) (pa_cons (pv 1) (pa_cons (pe_bltn (v := .ty "int") (by rfl) TX.b_int (by decide +kernel) rfl) pa_nil)))) (pw_and1 (pt_cmpR op_gt (pe_call (ok_L_take TX) (hr.mono (by omega)) (by rfl) TX.g_L_take TX.f_L_take.kp TX.bd_L_take .nil pass0 (pa_cons (pv 0) (pa_cons pe_int pa_nil))) pe_int (nomark _)))))
        (pss_one (ps_ret (pe_call (ok_L_of TX) (hr.mono (by omega)) (by rfl) TX.g_L_of TX.f_L_of.kp TX.bd_L_of .nil pass0 (pa_cons (pv 0) (pa_cons (pe_lst (pa_cons (pe_op op_add (pv 1) pe_int) (pa_cons (pe_op op_sub (pv 1) pe_int) (pa_cons (pe_cmpR op_eq (pv 1) pe_int (nomark _)) (pa_cons (pe_callTy (T := "str") call_str_int (by rfl) TX.b_str (by decide +kernel) (pa_cons (pv 1) pa_nil)) (pa_cons pe_non (pa_cons pe_int (pa_cons (pe_op op_sub pe_int (pv 1)) pa_nil)))))))) pa_nil)))))
        pss_nil)
      (pss_one (ps_ret (pe_call (ok_L_of TX) (hr.mono (by omega)) (by rfl) TX.g_L_of TX.f_L_of.kp TX.bd_L_of .nil pass0 (pa_cons (pv 0) (pa_cons (pe_lst (pa_cons (pe_call (ok_L_odd TX) (hr.mono (by omega)) (by rfl) TX.g_L_odd TX.f_L_odd.kp TX.bd_L_odd .nil pass0 (pa_cons (pv 0) pa_nil)) (pa_cons (pe_lst (pa_cons (pv 1) pa_nil)) (pa_cons (pe_tup (pa_cons (pv 1) pa_nil)) pa_nil)))) pa_nil))))))), ?_⟩
      have hn' : n + 60 * (m : Int) + 60 ≤ 800000 := by omega
      have hDs : ∀ {G : Hp}, But a H G → Pot G a 0 ∨ (∃ n, Pot G a n) → ∃ l, G D = some (.lst l) := fun {G} bG hp => by
        obtain ⟨n', hp⟩ : ∃ n', Pot G a n' := by rcases hp with h | h; exact ⟨_, h⟩; exact h
        by_cases e : D = a
        · obtain ⟨d1, s1, m1, h1, _⟩ := hp
          exact ⟨_, by rw [e]; exact h1⟩
        · exact ⟨lD, bG _ _ e hD⟩
      have hx0 : ∀ {G : Hp}, But a H G → Dq K (off D (off a G)) x d := fun bG => Dq.same (off2_butA bG) hq
      have fin : ∀ {G : Hp} {j : Int}, But a H G → Pot G a (n + j) → 0 ≤ j → j ≤ 10 → tRet (tCall (sp_L_of K) [] E0 (tCons (tVar 0) (tCons (tLst (tCons (tCall (sp_L_odd K) [] E0 (tCons (tVar 0) tNil)) (tCons (tLst (tCons (tVar 1) tNil)) (tCons (tTup (tCons (tVar 1) tNil)) tNil)))) tNil))) { nx := fun x H' => Q V.non H', rt := Q } [some (.ref a), some x, none, none] G := fun {G j} bG pG j0 j1 => by
        have hsG : G sysModules = some o := bG _ _ (Ne.symm nas) hsys
        obtain ⟨l1, hl1⟩ := hDs bG (.inr ⟨_, pG⟩)
        refine ⟨.ref a, rfl, .ref a, rfl, a, D, n + j, o, rfl, pG, by omega, by omega, hsG, nas, ⟨_, hl1⟩, fun H1 x1 b1 p1 h1 => ?_⟩
        have b01 := bG.trans b1
        have hs1 : H1 sysModules = some o := b01 _ _ (Ne.symm nas) hsys
        obtain ⟨ua, hua⟩ : ∃ u, H1 a = some u := by obtain ⟨_, _, _, h, _⟩ := p1; exact ⟨_, h⟩
        obtain ⟨l2, hl2⟩ := hDs b01 (.inr ⟨_, p1⟩)
        have fr : ∀ {Hi : Hp} {p x : Addr} {u : HO}, Same H1 Hi → Hi p = none → H1 x = some u → p ≠ x := fun s n h e => by
          have := s _ _ h
          rw [← e, n] at this; cases this
        refine ⟨x, rfl, sz60 (by simp), fun q1 m1 => ⟨x, rfl, sz60 (by simp), fun q2 m2 => ⟨sz60 (by simp), fun l nl => ?_⟩⟩⟩
        have w1 := same_upd (o := .lst [x]) m1
        have w2 := same_upd (o := .tup [x]) m2
        have w3 := same_upd (o := .lst [x1, V.ref q1, V.ref q2]) nl
        have v2 := w2.trans w3
        have v1 := w1.trans v2
        have e1 := v2 _ _ (upd_same (a := q1) (o := .lst [x]))
        have e2 := w3 _ _ (upd_same (a := q2) (o := .tup [x]))
        have g1 := fr (Same.refl H1) m1 hua
        have g2 := fr w1 m2 hua
        have g3 := fr (w1.trans w2) nl hua
        have k1 := fr (Same.refl H1) m1 hl2
        have k2 := fr w1 m2 hl2
        have y1 := fr (Same.refl H1) m1 hs1
        refine ⟨a, l, _, _, rfl, p1.same v1, by omega, upd_same, g3, by simp, by simp, fun H5 y b5 p5 hy => ?_⟩
        have bb : But a H1 H5 := (But.of v1).trans b5
        refine q _ y (b01.trans bb) (p5.mono (by omega)) ?_
        have at' : ∀ {p : Addr} {u : HO}, H5 p = some u → p ≠ a → p ≠ D → (off D (off a H5)) p = some u := fun h h1 h2 => by rw [off_at h2, off_at h1]; exact h
        have hx5 := hx0 (b01.trans bb)
        have hsn : Sn k b d := (tb_sn ht).mono hk hb
        simp only [List.mem_cons, List.not_mem_nil, or_false] at hy
        rcases hy with rfl | rfl | rfl
        · exact (h1.but bb).mono (by omega) (by omega)
        · exact ⟨.list [d], .lstq (.inl (.inl (at' (b5 _ _ g1 e1) g1 k1))) y1 (.cons hx5 .nil), hsn.l1.mono (by omega) (by omega)⟩
        · exact ⟨.tuple [d], .tupq (.inl (.inl (at' (b5 _ _ g2 e2) g2 k2))) (.cons hx5 .nil), hsn.t1.mono (by omega) (by omega)⟩
      cases ht with
      | int hi =>
        rename_i i
        cases hq
        have hlog : i.natAbs.log2 < 1920 := by
          by_cases e : i.natAbs = 0
          · rw [e]; decide
          · exact Nat.lt_trans ((Nat.log2_lt e).mpr (show i.natAbs < 2 ^ 200 from Nat.lt_trans hi (by decide +kernel))) (by decide)
        refine ⟨_, rfl, .int i, .ty "tuple", .type "int", .type "tuple", false, rfl, .ty _, .base (.int i), kit_ty (by decide +kernel), false, rfl, ?_⟩
        refine iteF ?_
        refine iteF ?_
        refine ⟨_, rfl, .int i, .ty "int", .type "int", .type "int", true, rfl, .ty _, .base (.int i), kit_ty (by decide +kernel), true, rfl, ?_⟩
        refine iteT ?_
        refine ⟨.ref a, rfl, a, 4, n, rfl, pp, by omega, by decide, by decide, fun H1 r b1 p1 r0 r1 => ⟨_, _, rfl, rfl, _, rfl, ?_⟩⟩
        by_cases hr0 : 0 < r
        rotate_left
        · refine decF (by omega) ?_
          exact fin (j := 1) b1 p1 (by omega) (by omega)
        refine decT (by omega) ?_
        refine ⟨.ref a, rfl, _, rfl, _, _, rfl, rfl, _, rfl, _, _, rfl, rfl, _, rfl, rfl, _, rfl, _, rfl, hlog, _, rfl, _, _, rfl, rfl, sz60 (by simp), fun l nl => ?_⟩
        have zl := same_upd (o := .lst [V.int (i + 1), V.int (i - 1), V.bl (decide (V.int i = V.int 1)), V.str (Str.ofString (toString i)), V.non, V.int 0, V.int (0 - i)]) nl
        refine ⟨a, l, _, _, rfl, p1.same zl, by omega, upd_same, p1.ne nl, by simp, by simp, fun H2 y b2 p2 hy => q _ y (b1.trans ((But.of zl).trans b2)) (p2.mono (by omega)) ?_⟩
        have hbig : ∀ j : Int, j.natAbs ≤ i.natAbs + 1 → Sn 0 0 (.int j) := fun j hj => .int (Nat.lt_of_le_of_lt hj (Nat.lt_of_le_of_lt (show i.natAbs + 1 ≤ 10 ^ 40 by omega) (by decide +kernel)))
        simp only [List.mem_cons, List.not_mem_nil, or_false] at hy
        rcases hy with rfl | rfl | rfl | rfl | rfl | rfl | rfl
        · exact ⟨_, .intq _, (hbig _ (by omega)).mono (by omega) (by omega)⟩
        · exact ⟨_, .intq _, (hbig _ (by omega)).mono (by omega) (by omega)⟩
        · exact ⟨_, .blq _, .bool⟩
        · exact ⟨_, .strq _, (Sn.text hi).mono (by omega) (by omega)⟩
        · exact ⟨_, .nonq, .none⟩
        · exact ⟨_, .intq _, (hbig _ (by omega)).mono (by omega) (by omega)⟩
        · exact ⟨_, .intq _, (hbig _ (by omega)).mono (by omega) (by omega)⟩
      | tup h =>
        rename_i ds
        have hq0 := hq
        have htb : Tb (.tuple ds) := .tup h
        cases hq with
        | tupq hS hA =>
        rename_i c xs
        have hlen := DqAll.len hA
        have off2_sub : ∀ {G : Hp}, Same (off D (off a G)) G := off_sub.trans off_sub
        have hS0 : SqT K H c xs := Same.tup off2_sub hS
        have edep : (PyData.tuple ds).depth = PyData.depthAll ds + 1 := by simp only [PyData.depth]
        have ebulk : (PyData.tuple ds).bulk = PyData.bulkAll ds := by simp only [PyData.bulk]
        have hbl := bAll_len ds
        have hD0 : Dp K H (.ref c) (.tuple ds) := Dp.same off2_sub (tb_dp htb _ hq0)
        refine ⟨_, rfl, .ref c, .ty "tuple", .type "tuple", .type "tuple", true, rfl, .ty _, ty_tup hS0, kit_ty (by decide +kernel), true, rfl, ?_⟩
        refine iteT ?_
        refine ⟨_, rfl, sz60 (by simp), fun e ne => ?_⟩
        have se := same_upd (o := .tup []) ne
        refine ⟨.tuple ds, .tuple [], Dp.same se hD0, .tup (.inl (.inl upd_same)) .nil, (tb_sh htb 30 (by omega)).shaped (by decide), (Sh.tup (k := 0) (fun d hd => by cases hd)).shaped (by decide), _, rfl, ?_⟩
        have fall : ∀ {G : Hp} {j : Int} {T1 : TS}, But a H G → Pot G a (n + j) → 0 ≤ j → j ≤ 10 → SqT K G c xs → tSeq (tIfS (tAnd (tB (tCB (rIsi K) (tCons (tVar 1) (tCons (tC (V.ty "int")) tNil)))) (tTest (tOp (rI0 fun i j => V.bl (decide (j < i))) (tCall (sp_L_take K) [] E0 (tCons (tVar 0) (tCons (tC (V.int 4)) tNil))) (tC (V.int 0))))) T1 tNext) (tRet (tCall (sp_L_of K) [] E0 (tCons (tVar 0) (tCons (tLst (tCons (tCall (sp_L_odd K) [] E0 (tCons (tVar 0) tNil)) (tCons (tLst (tCons (tVar 1) tNil)) (tCons (tTup (tCons (tVar 1) tNil)) tNil)))) tNil)))) { nx := fun x H' => Q V.non H', rt := Q } [some (.ref a), some (.ref c), none, none] G := fun bG pG j0 j1 hG => by
          refine ⟨_, rfl, .ref c, .ty "int", .type "tuple", .type "int", false, rfl, .ty _, ty_tup hG, kit_ty (by decide +kernel), false, rfl, ?_⟩
          refine iteF ?_
          refine iteF ?_
          exact fin bG pG j0 j1
        have be : But a H _ := But.of se
        cases ds with
        | nil =>
          refine iteF ?_
          refine iteF ?_
          exact fall (j := 0) be (by simpa using pp.same se) (by omega) (by omega) (Same.tup se hS0)
        | cons d0 ds0 =>
          refine iteB1 (by simp [PyData.eqv, PyData.eqvAll]) ?_
          refine ⟨.ref a, rfl, a, 5, n, rfl, pp.same se, by omega, by decide, by decide, fun H1 r b1 p1 r0 r1 => ⟨_, _, rfl, rfl, _, rfl, ?_⟩⟩
          have b01 : But a H H1 := be.trans b1
          have hS1 : SqT K H1 c xs := (pp.same se).keep b1 _ _ (Same.tup se hS0)
          by_cases hr0 : 0 < r
          rotate_left
          · refine decF (by omega) ?_
            exact fall (j := 1) b01 p1 (by omega) (by omega) hS1
          refine decT (by omega) ?_
          obtain ⟨dd, edd⟩ : ∃ dd, dd = d0 :: ds0 := ⟨_, rfl⟩
          rw [← edd] at h hq0 htb hA hlen edep ebulk hbl hD0 hk hb hx0
          have hne : 1 ≤ dd.length := by rw [edd]; simp
          refine ⟨.ref a, rfl, .ref c, rfl, c, xs, rfl, .inr hS1, a, _, _, rfl, p1, by omega, by omega, by omega, fun H2 r2 b2 p2 r20 r21 => ⟨.ref a, rfl, a, 8, _, rfl, p2, by omega, by decide, by decide, fun H3 r3 b3 p3 r30 r31 => ⟨_, _, rfl, ?_⟩⟩⟩
          obtain ⟨s, rfl⟩ : ∃ s : Nat, r2 = (s : Int) := ⟨r2.toNat, by omega⟩
          have hs : s < xs.length := by omega
          have b03 := b01.trans (b2.trans b3)
          have hS3 : SqT K H3 c xs := p1.keep (b2.trans b3) _ _ hS1
          refine ⟨_, rfl, _, _, rfl, rfl, _, rfl, ?_⟩
          by_cases hw : r3 < 5
          · refine decT (by omega) ?_
            refine ⟨.ref c, rfl, ?_⟩
            dsimp only [tNoPart]
            refine ⟨_, rfl, _, rfl, sl_read hS3 fun c1 H4 s4 hc1 => ?_⟩
            rw [cut_to (by omega)] at hc1
            obtain ⟨dv, hdv⟩ : ∃ dv, dd[s]? = some dv := ⟨_, List.getElem?_eq_getElem (by omega)⟩
            have b04 := b03.trans (But.of s4)
            obtain ⟨v, hv, hvq⟩ := DqAll.get (DqAll.same (off2_butA b04) hA) hdv
            have hmem := List.mem_of_getElem? hdv
            have htv := h dv hmem
            have hdep := dAll_mem hmem
            have hcut := bAll_cut hdv
            obtain ⟨l4, hl4⟩ := hDs b04 (.inr ⟨_, p3.same s4⟩)
            have hS4 := Same.tup s4 hS3
            have c1a : ∀ {G : Hp}, But a H4 G → SqT K G c1 (xs.take s) := fun bG => (p3.same s4).keep bG _ _ hc1
            refine ⟨.ref a, rfl, .ref c, rfl, _, rfl, c, xs, _, v, rfl, rfl, hS4, atI_nat hv, a, D, v, dv, k - 1, dv.bulk, _, o, l4, rfl, p3.same s4, by omega, by omega, b04 _ _ (Ne.symm nas) hsys, nas, hl4, hvq, htv, by omega, Nat.le_refl _, by omega, by omega, by omega, fun H5 y b5 p5 hy => ⟨sz60 (by simp), fun t nt => ?_⟩⟩
            have s6 := same_upd (o := .tup [y]) nt
            refine cat_read (Same.tup s6 (c1a b5)) (.inl (.inl upd_same)) (by simp; omega) fun p7 H7 s7 h7 => ?_
            have b47 : But a H4 H7 := b5.trans ((But.of s6).trans (But.of s7))
            have hS7 : SqT K H7 c xs := (p3.same s4).keep b47 _ _ hS4
            refine ⟨.ref c, rfl, _, rfl, _, _, rfl, rfl, _, rfl, ?_⟩
            dsimp only [tNoPart]
            refine sl_read hS7 fun c2 H8 s8 hc2 => ?_
            have ec : ((s : Int) + 1) = ((s + 1 : Nat) : Int) := by omega
            rw [ec, cut_from (by omega)] at hc2
            refine cat_read (Same.tup s8 h7) hc2 (by simp; omega) fun p9 H9 s9 h9 => ?_
            have b09 := b04.trans (b47.trans ((But.of s8).trans (But.of s9)))
            have p9' := ((p5.same s6).same s7).same (s8.trans s9)
            refine q H9 _ b09 (p9'.mono (by omega)) ?_
            obtain ⟨e', he1, he2⟩ := hy.but ((But.of s6).trans ((But.of s7).trans ((But.of s8).trans (But.of s9))))
            obtain ⟨l9, hl9⟩ := hDs b09 (.inr ⟨_, p9'⟩)
            obtain ⟨la, hla⟩ : ∃ l, H9 a = some (.lst l) := by obtain ⟨_, _, _, h, _⟩ := p9'; exact ⟨_, h⟩
            have hA9 := DqAll.same (off2_butA b09) hA
            refine ⟨.tuple (dd.take s ++ [e'] ++ dd.drop (s + 1)), .tupq (off_tup hla hl9 h9) (DqAll.app' (DqAll.app' (DqAll.take s hA9) (.cons he1 .nil)) (DqAll.drop (s + 1) hA9)), ?_⟩
            refine (Sn.tupB (k := k + 22) (fun d hd => ?_) (Nat.le_refl _)).mono (by omega) ?_
            · rcases List.mem_append.mp hd with hd | hd
              · rcases List.mem_append.mp hd with hd | hd
                · have hm := List.mem_of_mem_take hd
                  exact ⟨_, (tb_sn (h d hm)).mono (by have := dAll_mem hm; omega) (Nat.le_refl _)⟩
                · rw [List.mem_singleton.mp hd]
                  exact ⟨_, he2.mono (by omega) (Nat.le_refl _)⟩
              · have hm := List.mem_of_mem_drop hd
                exact ⟨_, (tb_sn (h d hm)).mono (by have := dAll_mem hm; omega) (Nat.le_refl _)⟩
            · rw [bAll_app, bAll_app]
              have := he2.bulk
              simp only [PyData.bulkAll]
              omega
          · refine decF (by omega) ?_
            have ec : ((s : Int) + 1) = ((s + 1 : Nat) : Int) := by omega
            refine ⟨.ref c, rfl, ?_⟩
            dsimp only [tNoPart]
            refine ⟨_, rfl, _, rfl, sl_read hS3 fun c1 H4 s4 hc1 => ?_⟩
            rw [cut_to (by omega)] at hc1
            refine ⟨.ref c, rfl, _, rfl, _, _, rfl, rfl, _, rfl, ?_⟩
            dsimp only [tNoPart]
            refine sl_read (Same.tup s4 hS3) fun c2 H5 s5 hc2 => ?_
            rw [ec, cut_from (by omega)] at hc2
            refine cat_read (Same.tup s5 hc1) hc2 (by simp; omega) fun q6 H6 s6 h6 => ?_
            have s36 := (s4.trans s5).trans s6
            refine ⟨.ref c, rfl, ?_⟩
            dsimp only [tNoPart]
            refine ⟨_, rfl, _, _, rfl, rfl, _, rfl, sl_read (Same.tup s36 hS3) fun c3 H7 s7 hc3 => ?_⟩
            rw [ec, cut_to (by omega)] at hc3
            refine ⟨.ref c, rfl, _, rfl, _, rfl, ?_⟩
            dsimp only [tNoPart]
            refine sl_read (Same.tup (s36.trans s7) hS3) fun c4 H8 s8 hc4 => ?_
            rw [cut_from (by omega)] at hc4
            refine cat_read (Same.tup s8 hc3) hc4 (by simp; omega) fun q9 H9 s9 h9 => ?_
            have s39 := s36.trans ((s7.trans s8).trans s9)
            refine ⟨.ref c, rfl, c, xs, rfl, .inr (Same.tup s39 hS3), fun l3 n3 => ⟨sz60 (by simp), fun L nL => ?_⟩⟩
            have z3 := same_upd (o := .lst xs) n3
            have z4 := same_upd (o := .lst [V.ref q6, V.ref q9, V.ref l3]) nL
            have hl3 := z4 _ _ (upd_same (H := H9) (a := l3) (o := .lst xs))
            have h6' := Same.tup (((s7.trans s8).trans s9).trans (z3.trans z4)) h6
            have h9' := Same.tup (z3.trans z4) h9
            have hLL := upd_same (H := upd H9 l3 (.lst xs)) (a := L) (o := .lst [V.ref q6, V.ref q9, V.ref l3])
            have b0e : But a H (upd (upd H9 l3 (.lst xs)) L (.lst [V.ref q6, V.ref q9, V.ref l3])) := b03.trans (But.of (s39.trans (z3.trans z4)))
            have pe := p3.same (s39.trans (z3.trans z4))
            obtain ⟨ua9, hua9⟩ : ∃ u, H9 a = some u := by obtain ⟨_, _, _, hh, _⟩ := p3.same s39; exact ⟨_, hh⟩
            obtain ⟨lD9, hlD9⟩ := hDs (b03.trans (But.of s39)) (.inr ⟨_, p3.same s39⟩)
            have hsys9 : H9 sysModules = some o := (b03.trans (But.of s39)) _ _ (Ne.symm nas) hsys
            have n3a : l3 ≠ a := fun e => by rw [e, hua9] at n3; cases n3
            have n3D : l3 ≠ D := fun e => by rw [e, hlD9] at n3; cases n3
            have n3s : l3 ≠ sysModules := fun e => by rw [e, hsys9] at n3; cases n3
            generalize upd (upd H9 l3 (.lst xs)) L _ = He at *
            obtain ⟨l9, hl9⟩ := hDs b0e (.inr ⟨_, pe⟩)
            obtain ⟨la, hla⟩ : ∃ l, He a = some (.lst l) := by obtain ⟨_, _, _, hh, _⟩ := pe; exact ⟨_, hh⟩
            have hAe := DqAll.same (off2_butA b0e) hA
            have snm : ∀ e, e ∈ dd → ∃ m', Sn (k - 1) m' e := fun e he => ⟨_, (tb_sn (h e he)).mono (by have := dAll_mem he; omega) (Nat.le_refl _)⟩
            obtain ⟨dv, hdv⟩ : ∃ dv, dd[s]? = some dv := ⟨_, List.getElem?_eq_getElem (by omega)⟩
            have hcut := bAll_cut hdv
            have hat : ∃ y, atI [V.ref q6, V.ref q9, V.ref l3] (r3 - 5) = some y ∧ Anyv K D a He y (k + 23) (2 * b + 400) := by
              have hr : r3 = 5 ∨ r3 = 6 ∨ r3 = 7 := by omega
              rcases hr with rfl | rfl | rfl
              · refine ⟨.ref q6, rfl, .tuple (dd.take s ++ dd.drop (s + 1)), .tupq (off_tup hla hl9 h6') (DqAll.app' (DqAll.take s hAe) (DqAll.drop (s + 1) hAe)), ?_⟩
                refine (Sn.tupB (k := k - 1) (fun d hd => ?_) (Nat.le_refl _)).mono (by omega) (by rw [bAll_app]; omega)
                rcases List.mem_append.mp hd with hd | hd
                · exact snm _ (List.mem_of_mem_take hd)
                · exact snm _ (List.mem_of_mem_drop hd)
              · refine ⟨.ref q9, rfl, .tuple (dd.take (s + 1) ++ dd.drop s), .tupq (off_tup hla hl9 h9') (DqAll.app' (DqAll.take (s + 1) hAe) (DqAll.drop s hAe)), ?_⟩
                have hb1 : PyData.bulkAll (dd.take (s + 1)) ≤ PyData.bulkAll dd := by
                  have := bAll_app (dd.take (s + 1)) (dd.drop (s + 1))
                  rw [List.take_append_drop] at this; omega
                have hb2 : PyData.bulkAll (dd.drop s) ≤ PyData.bulkAll dd := by
                  have := bAll_app (dd.take s) (dd.drop s)
                  rw [List.take_append_drop] at this; omega
                refine (Sn.tupB (k := k - 1) (fun d hd => ?_) (Nat.le_refl _)).mono (by omega) (by rw [bAll_app]; omega)
                rcases List.mem_append.mp hd with hd | hd
                · exact snm _ (List.mem_of_mem_take hd)
                · exact snm _ (List.mem_of_mem_drop hd)
              · refine ⟨.ref l3, rfl, .list dd, .lstq (.inl (.inl ?_)) n3s hAe, ?_⟩
                · rw [off_at n3D, off_at n3a]; exact hl3
                · exact (Sn.lstB (k := k - 1) (fun d hd => snm d hd) (Nat.le_refl _)).mono (by omega) (by omega)
            obtain ⟨y, hy1, hy2⟩ := hat
            refine ⟨_, rfl, _, _, rfl, rfl, L, _, _, y, rfl, rfl, .inl (.inl hLL), hy1, ?_⟩
            exact q He y b0e (pe.mono (by omega)) hy2
theorem ok_L_bent (TX : Tx K mg) : FnOk P w K mg base CX0 64 TX.a_L_bent TX.fd_L_bent ["_law_pot_here", "_law_thing"] (spq_bent 61 K) := okq_bent TX 61
end
/-! ### tables, of values of any kind -/
def itemsD : PyData → List PyData
  | .tuple ds => ds
  | _ => []
def shpR (n : Nat) : Nat → List PyData → Bool
  | _, [] => true
  | i, e :: es => (isTup e && decide ((itemsD e).length + i = n + 1)) && shpR n (i + 1) es
def shpD (n : Nat) (d : PyData) : Bool := isTup d && (decide ((itemsD d).length = n + 1) && shpR n 0 (itemsD d))
theorem isTup_inv {K : PySem.W.Frag} {H : Hp} {x : V} {d : PyData} (h : Dq K H x d) (ht : isTup d = true) : ∃ a xs ds, x = .ref a ∧ d = .tuple ds ∧ SqT K H a xs ∧ DqAll K H xs ds := by
  cases h with
  | tupq hs ha => exact ⟨_, _, _, rfl, rfl, hs, ha⟩
  | nonq => cases ht
  | blq b => cases ht
  | intq i => cases ht
  | strq x => cases ht
  | lstq _ _ _ => cases ht
  | dctq _ _ _ => cases ht
def shpB (n : Nat) : Nat → List PyData → List Bool
  | _, [] => []
  | i, e :: es => (isTup e && decide ((itemsD e).length + i = n + 1)) :: shpB n (i + 1) es
theorem shpB_len (n : Nat) : ∀ (ds : List PyData) (i : Nat), (shpB n i ds).length = ds.length
  | [], _ => rfl
  | e :: es, i => by simp [shpB, shpB_len n es (i + 1)]
theorem shpB_at {n : Nat} : ∀ {ds : List PyData} {i j : Nat} {e : PyData}, ds[j]? = some e → (shpB n i ds)[j]? = some (isTup e && decide ((itemsD e).length + (i + j) = n + 1))
  | _ :: _, i, 0, e, h => by cases h; rfl
  | _ :: ds, i, j + 1, e, h => by
    have := shpB_at (n := n) (ds := ds) (i := i + 1) (j := j) h
    simp only [shpB, List.getElem?_cons_succ]
    rw [this, show i + 1 + j = i + (j + 1) by omega]
theorem shpB_all {n : Nat} : ∀ {ds : List PyData} {i : Nat}, (shpB n i ds).all id = shpR n i ds
  | [], _ => rfl
  | e :: es, i => by simp [shpB, shpR, shpB_all (n := n) (ds := es) (i := i + 1)]
section
variable {P : Program} {w : World} {K : PySem.W.Frag} {mg : Str → Option Value} {base : Heap}
def sp_has_shape (K : PySem.W.Frag) : Sp := fun vs H Q _ => ∃ (x : V) (d : PyData) (n : Nat), vs = [x, .int (n : Int)] ∧ Dq K H x d ∧ n ≤ 100 ∧ ∀ H', Same H H' → Q (.bl (shpD n d)) H'
theorem ok_has_shape (TX : Tx K mg) : FnOk P w K mg base CX0 1 TX.a_has_shape TX.fd_has_shape ["value", "n"] (sp_has_shape K) := by
  refine TX.f_has_shape.ok sc_has_shape (fun vs H Q E h => ?_) (fun cdv A outer s H vs Q E hr h => ?_)
  · obtain ⟨x, d, n, rfl, _⟩ := h; rfl
  · obtain ⟨x, d, n, rfl, hq, hn, q⟩ := h
    refine ⟨_, (pss_cons (ps_if (PW.pt (pw_or (pt_not (pt_val (pe_callB (id := "isinstance") (k_isi (K := K) rfl) (by rfl) TX.b_isinstance (by decide +kernel) (pa_cons (pv 0) (pa_cons (pe_bltn (v := .ty "tuple") (by rfl) TX.b_tuple (by decide +kernel) rfl) pa_nil))))) (pw_or1 (pt_cmpR op_ne (pe_callB (id := "len") (k_len (K := K) rfl) (by rfl) TX.b_len (by decide +kernel) (pa_cons (pv 0) pa_nil)) (pe_op op_add (pv 1) pe_int) (nomark _)))))
        (pss_one (ps_ret pe_bl))
        pss_nil)
      (pss_one (ps_ret (pe_callB (id := "all") (cr_all rfl) (by rfl) TX.b_all (by decide +kernel) (pa_cons (pe_lc (own := [("start", 2), ("row", 3)]) (by rfl) sc_has_shape.nd (pi_enumT (by rfl) TX.b_enumerate (pa_cons (pv 0) pa_nil)) (blkOk_by (own := [("start", 2), ("row", 3)]) (N := N_has_shape) (sc := defScope s_has_shape) (by decide +kernel)) (fun _ _ _ _ _ => (k_pgT2 (K := K) rfl rfl (pg_name (i := 2) sc_has_shape.nd rfl (Or.inl rfl)) (pg_name (i := 3) sc_has_shape.nd rfl (Or.inl rfl)))) (fun _ _ _ _ _ => pts_nil) (fun _ _ _ _ _ => (pe_and (pe_callB (id := "isinstance") (k_isi (K := K) rfl) (by rfl) TX.b_isinstance (by decide +kernel) (pa_cons (pv 3) (pa_cons (pe_bltn (v := .ty "tuple") (by rfl) TX.b_tuple (by decide +kernel) rfl) pa_nil))) (pe_one (pe_cmpR op_eq (pe_callB (id := "len") (k_len (K := K) rfl) (by rfl) TX.b_len (by decide +kernel) (pa_cons (pv 3) pa_nil)) (pe_op op_sub (pe_op op_add (pv 1) pe_int) (pv 2)) (nomark _)))))) pa_nil))))), ?_⟩
    obtain ⟨T, hT, hkT⟩ := tup_ty hq
    refine ⟨x, rfl, x, .ty "tuple", .type T, .type "tuple", isTup d, rfl, .ty _, hT, kit_ty hkT, isTup d, rfl, ?_⟩
    unfold shpD at q
    by_cases ht : isTup d = true
    rotate_left
    · have ht' : isTup d = false := by simpa using ht
      rw [ht'] at q ⊢
      refine iteT ?_
      exact q _ (Same.refl _)
    rw [ht] at q ⊢
    refine iteF ?_
    obtain ⟨a, xs, ds, rfl, rfl, hS, hA⟩ := isTup_inv hq ht
    have hl := hA.len
    have q' : ∀ H', Same H H' → Q (.bl (decide (ds.length = n + 1) && shpR n 0 ds)) H' := fun H' s' => q H' s'
    refine ⟨.ref a, rfl, a, _, rfl, .inr hS, _, rfl, _, _, rfl, rfl, rfl, _, rfl, ?_⟩
    by_cases hlen : ds.length = n + 1
    rotate_left
    · refine iteB1 ?_ ?_
      · simp only [Bool.not_eq_true', decide_eq_false_iff_not]
        intro z
        have := V.int.inj z
        omega
      · have := q' H (Same.refl _)
        rw [decide_eq_false hlen, Bool.false_and] at this
        exact this
    refine iteB0 (by rw [hl, hlen]; simp) ?_
    rw [decide_eq_true hlen] at q'
    refine ⟨.ref a, rfl, a, xs, rfl, hS, fun D nD => ?_⟩
    refine lc_all (K := K) (walk_enumT (xs := xs)) ((shpB n 0 ds).map PyData.bool) (by rw [List.length_map, shpB_len, hl]) (fun d h => by obtain ⟨b, _, rfl⟩ := List.mem_map.mp h; exact .bl b) (by omega) nD (fun H' s' => Same.tup s' hS) ?_ ?_ mono_pair (fun σ' H' Q Q' h => h _ _)
    · rintro i y Hx Hx' hi sx ⟨Tu, x1, x2, rfl, nT, rfl, e1, e2⟩ d hd R hR
      dsimp only at e1 e2
      cases e1
      obtain ⟨e, he, hqe⟩ := hA.at e2
      rw [List.getElem?_map, shpB_at he] at hd
      cases hd
      have t1 := same_upd (o := .tup [V.int ((i : Nat) : Int), x2]) nT
      have hqe' := Dq.same (sx.trans t1) hqe
      obtain ⟨T2, hT2, hkT2⟩ := tup_ty hqe'
      refine ⟨Tu, _, rfl, .inl (.inl upd_same), rfl, _, _, rfl, _, _, rfl, rfl, rfl, rfl, x2, rfl, x2, .ty "tuple", .type T2, .type "tuple", isTup e, rfl, .ty _, hT2, kit_ty hkT2, isTup e, rfl, ?_⟩
      by_cases ht2 : isTup e = true
      rotate_left
      · have ht3 : isTup e = false := by simpa using ht2
        rw [ht3] at hR ⊢
        exact iteF (hR _ _ t1 (.bl false))
      rw [ht2] at hR ⊢
      refine iteT ?_
      obtain ⟨c, ys, es, rfl, rfl, hS2, hA2⟩ := isTup_inv hqe' ht2
      refine ⟨.ref c, rfl, c, ys, rfl, .inr hS2, _, rfl, _, _, rfl, rfl, _, rfl, _, _, rfl, rfl, rfl, ?_⟩
      have hl2 := hA2.len
      have e3 : decide (V.int (ys.length : Int) = V.int ((n : Int) + 1 - ((i : Nat) : Int))) = decide ((itemsD (.tuple es)).length + (0 + i) = n + 1) := by
        refine decide_eq_decide.mpr ⟨fun z => ?_, fun z => ?_⟩
        · have := V.int.inj z
          show es.length + (0 + i) = n + 1
          omega
        · have z' : es.length + (0 + i) = n + 1 := z
          congr 1; omega
      rw [e3]
      exact hR _ _ t1 (.bl _)
    · intro H5 acc s5 ha hA5
      rw [dpBoolsI hA5] at ha
      refine ⟨D, shpB n 0 ds, rfl, .inl (.inl ha), ?_⟩
      rw [shpB_all]
      exact q' _ s5
end
/-! ### bound tables, of values of any kind -/
def isIntD : PyData → Bool
  | .int _ => true
  | _ => false
theorem intD_ty {K : PySem.W.Frag} {H : Hp} {x : V} {d : PyData} (h : Dq K H x d) : ∃ T b1 b2, TyX K H x (.type T) ∧ L2.kitB T "int" = some b1 ∧ L2.kitB T "bool" = some b2 ∧ (b1 && !b2) = isIntD d := by
  cases h with
  | nonq => exact ⟨"NoneType", false, false, .base .non, by decide +kernel, by decide +kernel, rfl⟩
  | blq b => exact ⟨"bool", true, true, .base (.bl b), by decide +kernel, by decide +kernel, rfl⟩
  | intq i => exact ⟨"int", true, false, .base (.int i), by decide +kernel, by decide +kernel, rfl⟩
  | strq x => exact ⟨"str", false, false, .base (.str x), by decide +kernel, by decide +kernel, rfl⟩
  | lstq hs _ _ =>
    refine ⟨"list", false, false, ?_, by decide +kernel, by decide +kernel, rfl⟩
    rcases hs with (h | ⟨o, h⟩) | ⟨o, its, n, h1, h2, _⟩
    · exact .base (.lst h)
    · exact .base (.frz h)
    · exact .kList h1 h2
  | tupq hs _ =>
    refine ⟨"tuple", false, false, ?_, by decide +kernel, by decide +kernel, rfl⟩
    rcases hs with (h | ⟨o, h⟩) | ⟨o, its, n, h1, h2, _⟩
    · exact .base (.tup h)
    · exact .fTuple h
    · exact .kTuple h1 h2
  | dctq he _ _ => exact ⟨"dict", false, false, .base (.dK he), by decide +kernel, by decide +kernel, rfl⟩
def intsR (e : PyData) : List Bool := (itemsD e).map isIntD
def intsD (d : PyData) : Bool := (itemsD d).all fun e => (itemsD e).all isIntD
def numD : PyData → Int
  | .int i => i
  | _ => 0
def tabOf (d : PyData) (i m : Nat) : Int := numD ((itemsD ((itemsD d).getD i .none)).getD m .none)
theorem shpR_at {n : Nat} : ∀ {ds : List PyData} {i j : Nat} {e : PyData}, shpR n i ds = true → ds[j]? = some e → isTup e = true ∧ (itemsD e).length + (i + j) = n + 1
  | _ :: ds, i, 0, e, h, he => by
    cases he
    simp only [shpR, Bool.and_eq_true, decide_eq_true_eq] at h
    exact ⟨h.1.1, by omega⟩
  | x :: ds, i, j + 1, e, h, he => by
    simp only [shpR, Bool.and_eq_true, decide_eq_true_eq] at h
    obtain ⟨h1, h2⟩ := shpR_at (ds := ds) (i := i + 1) (j := j) h.2 he
    exact ⟨h1, by omega⟩
theorem shp_tab {n : Nat} {d : PyData} (h : shpD n d = true) (hi : intsD d = true) : d = dTab (tabOf d) n := by
  unfold shpD at h
  simp only [Bool.and_eq_true, decide_eq_true_eq] at h
  obtain ⟨ht, hl, hr⟩ := h
  cases d with
  | tuple ds =>
    have hl' : ds.length = n + 1 := hl
    have hr' : shpR n 0 ds = true := hr
    unfold dTab
    congr 1
    refine List.ext_getElem? fun i => ?_
    by_cases hin : i < n + 1
    · obtain ⟨e, he⟩ : ∃ e, ds[i]? = some e := ⟨_, List.getElem?_eq_getElem (by omega)⟩
      obtain ⟨h1, h2⟩ := shpR_at hr' he
      rw [he, List.getElem?_map, List.getElem?_range hin]
      have hall := List.all_eq_true.mp hi e (List.mem_of_getElem? he)
      have hget : ds.getD i .none = e := by rw [List.getD_eq_getElem?_getD, he]; rfl
      cases e with
      | tuple es =>
        have h2' : es.length + (0 + i) = n + 1 := h2
        show some _ = some _
        congr 2
        refine List.ext_getElem? fun m => ?_
        by_cases hm : i + m ≤ n
        · obtain ⟨x, hx⟩ : ∃ x, es[m]? = some x := ⟨_, List.getElem?_eq_getElem (by omega)⟩
          have hxi := List.all_eq_true.mp hall x (List.mem_of_getElem? hx)
          rw [hx, List.getElem?_map, rowB_at hm]
          have hnum : tabOf (.tuple ds) i m = numD x := by
            unfold tabOf
            show numD ((itemsD (ds.getD i .none)).getD m .none) = _
            rw [hget]
            show numD (es.getD m .none) = _
            rw [List.getD_eq_getElem?_getD, hx]; rfl
          cases x with
          | int v => show some _ = some _; rw [hnum]; rfl
          | none => cases hxi
          | bool b => cases hxi
          | str s => cases hxi
          | list l => cases hxi
          | tuple l => cases hxi
          | dict l => cases hxi
        · rw [List.getElem?_eq_none (by omega), List.getElem?_eq_none (by rw [List.length_map, rowB_len]; omega)]
      | none => cases h1
      | bool b => cases h1
      | int i => cases h1
      | str s => cases h1
      | list l => cases h1
      | dict l => cases h1
    · rw [List.getElem?_eq_none (by omega), List.getElem?_eq_none (by simp; omega)]
  | none => cases ht
  | bool b => cases ht
  | int i => cases ht
  | str s => cases ht
  | list l => cases ht
  | dict l => cases ht
theorem dq_tab {K : PySem.W.Frag} {H : Hp} {x : V} {B : Nat → Nat → Int} {n : Nat} (h : Dq K H x (dTab B n)) : Dp K H x (dTab B n) := by
  unfold dTab at h ⊢
  cases h with
  | tupq hs ha =>
    refine .tup hs (dqAll_dp (fun d hd y hy => ?_) ha)
    obtain ⟨i, _, rfl⟩ := List.mem_map.mp hd
    cases hy with
    | tupq hs2 ha2 =>
      refine .tup hs2 (dqAll_dp (fun d hd y hy => ?_) ha2)
      obtain ⟨v, _, rfl⟩ := List.mem_map.mp hd
      cases hy
      exact .int _
section
variable {P : Program} {w : World} {K : PySem.W.Frag} {mg : Str → Option Value} {base : Heap}
def sp_intervals (K : PySem.W.Frag) : Sp := fun vs H Q _ => ∃ (n : Nat), vs = [.int (n : Int)] ∧ n ≤ 100 ∧ ∀ H' p us, Same H H' → H p = none → H' p = some (.lst us) → DpAll K H' us ((ivN n).map dIv) → Q (.ref p) H'
theorem ok_intervals (TX : Tx K mg) : FnOk P w K mg base CX0 1 TX.a_intervals TX.fd_intervals ["n"] (sp_intervals K) := by
  refine TX.f_intervals.ok sc_intervals (fun vs H Q E h => ?_) (fun cdv A outer s H vs Q E hr h => ?_)
  · obtain ⟨n, rfl, _⟩ := h; rfl
  · obtain ⟨n, rfl, hn, q⟩ := h
    refine ⟨_, (pss_one (ps_ret (pe_lc2 (own := [("start", 1), ("stop", 2)]) (vs1 := [2]) (by rfl) sc_intervals.nd (pi_range1 (by rfl) TX.b_range (pa_cons (pe_op op_add (pv 0) pe_int) pa_nil)) (blkOk_by (own := [("start", 1), ("stop", 2)]) (N := N_intervals) (sc := defScope s_intervals) (by decide +kernel)) (by decide) (fun _ _ _ _ _ => (pg_name (i := 1) sc_intervals.nd rfl (Or.inl rfl))) (fun _ _ _ _ _ => pts_nil) (fun _ _ _ _ _ => (pi_range2 (by rfl) TX.b_range (pa_cons (pv 1) (pa_cons (pe_op op_add (pv 0) pe_int) pa_nil)))) (fun _ _ _ _ _ => (pg_name (i := 2) sc_intervals.nd rfl (Or.inl rfl))) (fun _ _ _ _ _ => pts_nil) (fun _ _ _ _ _ => (pe_tup (pa_cons (pv 1) (pa_cons (pv 2) pa_nil))))))), ?_⟩
    have en : (((n : Int) + 1)).toNat = n + 1 := by omega
    refine ⟨_, rfl, _, _, rfl, rfl, _, rfl, by omega, by omega, fun D nD => ?_⟩
    refine lc2_out (K := K) walk_range (fun i => (List.range (n + 1 - i)).map fun m => dIv (i, m)) nD (fun _ _ => trivial) ?_ ?_
    · rintro i x Hx Hx' hi ax hy Nx hN
      obtain ⟨rfl, rfl⟩ := hy
      have hi2 : i ≤ n := by omega
      have ei : (0 : Int) + ((i : Nat) : Int) = ((i : Nat) : Int) := by omega
      dsimp only
      rw [ei]
      have en2 : ((n : Int) + 1 - ((i : Nat) : Int)).toNat = n + 1 - i := by omega
      have hbl := blks_len_le (f := fun i => (List.range (n + 1 - i)).map fun m => dIv (i, m)) (c := 101) i fun j hj => by simp; omega
      refine ⟨rfl, yesT ?_⟩
      refine ⟨_, rfl, _, rfl, _, _, rfl, rfl, _, _, rfl, ⟨by omega, by omega, by omega, by omega⟩, ?_⟩
      refine lc2_in (K := K) walk_range (blks (fun i => (List.range (n + 1 - i)).map fun m => dIv (i, m)) i) ((List.range (n + 1 - i)).map fun m => dIv (i, m)) (by simp) (fun d hd => ?_) (fun d hd => by obtain ⟨m, _, rfl⟩ := List.mem_map.mp hd; exact tf_dIv _) (by omega) nD ax (fun _ _ => trivial) ?_ hN (fun x σ' H' Q Q' h => h _ _) (fun σ' H' Q Q' h => h _ _)
      · obtain ⟨j, _, hd⟩ := mem_blks hd
        obtain ⟨m, _, rfl⟩ := List.mem_map.mp hd
        exact tf_dIv _
      · rintro m y Hy Hy' hm sy hy d hd R hR
        obtain ⟨rfl, rfl⟩ := hy
        have em : ((i : Nat) : Int) + ((m : Nat) : Int) = ((i + m : Nat) : Int) := by omega
        dsimp only
        rw [em]
        rw [List.getElem?_map, List.getElem?_range (by omega)] at hd
        cases hd
        refine ⟨rfl, rfl, _, rfl, _, rfl, sz60 (by simp), fun p np => hR _ _ (same_upd np) ?_⟩
        exact dp_dP (.inl (.inl upd_same))
    · intro H5 acc s5 ha hA5
      rw [en, ← ivN_blks] at hA5
      exact q _ D acc s5 nD ha hA5
def bndD (ss rs : List Int) (d : PyData) : Bool := shpD ss.length d && (intsD d && okTab (sm ss) (sm rs) (tabOf d) ss.length)
def sp_is_bound_table (K : PySem.W.Frag) : Sp := fun vs H Q _ => ∃ (v : V) (a b : Addr) (d : PyData) (ss rs : List Int), vs = [v, .ref a, .ref b] ∧ Dq K H v d ∧ SqT K H a (ss.map V.int) ∧ SqT K H b (rs.map V.int) ∧ ss.length = rs.length ∧ ss.length ≤ 60 ∧
  ∀ H', Same H H' → Q (.bl (bndD ss rs d)) H'
theorem ok_is_bound_table (TX : Tx K mg) : FnOk P w K mg base CX0 4 TX.a_is_bound_table TX.fd_is_bound_table ["value", "sizes", "reads"] (sp_is_bound_table K) := by
  refine TX.f_is_bound_table.ok sc_is_bound_table (fun vs H Q E h => ?_) (fun cdv A outer s H vs Q E hr h => ?_)
  · obtain ⟨v, a, b, d, ss, rs, rfl, _⟩ := h; rfl
  · obtain ⟨v, a, b, d, ss, rs, rfl, hq, hA, hB, he, h1, q⟩ := h
    refine ⟨_, (pss_cons (ps_set (i := 3) sc_is_bound_table.nd rfl (.inl rfl) (pe_callB (id := "len") (k_len (K := K) rfl) (by rfl) TX.b_len (by decide +kernel) (pa_cons (pv 1) pa_nil)))
      (pss_cons (ps_if (PW.pt (pw_or (pt_not (pt_val (pe_call (ok_has_shape TX) (hr.mono (by decide)) (by rfl) TX.g_has_shape TX.f_has_shape.kp TX.bd_has_shape .nil pass0 (pa_cons (pv 0) (pa_cons (pv 3) pa_nil))))) (pw_or1 (pt_not (pt_val (pe_callB (id := "all") (cr_all rfl) (by rfl) TX.b_all (by decide +kernel) (pa_cons (pe_lc2 (own := [("row", 7), ("bound", 8)]) (vs1 := [8]) (by rfl) sc_is_bound_table.nd (k_piT (K := K) rfl (pv 0)) (blkOk_by (own := [("row", 7), ("bound", 8)]) (N := N_is_bound_table) (sc := defScope s_is_bound_table) (by decide +kernel)) (by decide) (fun _ _ _ _ _ => (pg_name (i := 7) sc_is_bound_table.nd rfl (Or.inl rfl))) (fun _ _ _ _ _ => pts_nil) (fun _ _ _ _ _ => (k_piT (K := K) rfl (pv 7))) (fun _ _ _ _ _ => (pg_name (i := 8) sc_is_bound_table.nd rfl (Or.inl rfl))) (fun _ _ _ _ _ => pts_nil) (fun _ _ _ _ _ => (pe_call (ok_is_intD TX) (hr.mono (by decide)) (by rfl) TX.g_is_int TX.f_is_int.kp TX.bd_is_int .nil pass0 (pa_cons (pv 8) pa_nil)))) pa_nil)))))))
        (pss_one (ps_ret pe_bl))
        pss_nil)
      (pss_cons (ps_set (i := 4) sc_is_bound_table.nd rfl (.inr rfl) (pe_call (ok_load_sums TX) (hr.mono (by decide)) (by rfl) TX.g_load_sums TX.f_load_sums.kp TX.bd_load_sums .nil pass0 (pa_cons (pv 1) (pa_cons (pv 2) pa_nil))))
      (pss_one (ps_ret (pe_callB (id := "all") (cr_all rfl) (by rfl) TX.b_all (by decide +kernel) (pa_cons (pe_lc (own := [("start", 5), ("stop", 6)]) (by rfl) sc_is_bound_table.nd (k_piL (K := K) rfl (pe_call (ok_intervals TX) (hr.mono (by decide)) (by rfl) TX.g_intervals TX.f_intervals.kp TX.bd_intervals .nil pass0 (pa_cons (pv 3) pa_nil))) (blkOk_by (own := [("start", 5), ("stop", 6)]) (N := N_is_bound_table) (sc := defScope s_is_bound_table) (by decide +kernel)) (fun _ _ _ _ _ => (k_pgT2 (K := K) rfl rfl (pg_name (i := 5) sc_is_bound_table.nd rfl (Or.inl rfl)) (pg_name (i := 6) sc_is_bound_table.nd rfl (Or.inl rfl)))) (fun _ _ _ _ _ => pts_nil) (fun _ _ _ _ _ => (pe_call (ok_is_low TX) (hr.mono (by decide)) (by rfl) TX.g_is_low TX.f_is_low.kp TX.bd_is_low .nil pass0 (pa_cons (pv 0) (pa_cons (pv 0) (pa_cons (pv 0) (pa_cons (pv 4) (pa_cons (pv 5) (pa_cons (pv 6) pa_nil))))))))) pa_nil))))))), ?_⟩
    obtain ⟨n, hn⟩ : ∃ n, n = ss.length := ⟨_, rfl⟩
    have hlen : ((ss.map V.int).length : Int) = (n : Int) := by rw [List.length_map, hn]
    unfold bndD at q
    rw [← hn] at q h1
    refine ⟨.ref a, rfl, a, _, rfl, .inr hA, ?_⟩
    rw [hlen]
    refine ⟨v, rfl, _, rfl, v, d, n, rfl, hq, by omega, fun H1 s1 => ⟨shpD n d, rfl, ?_⟩⟩
    by_cases hshp : shpD n d = true
    rotate_left
    · have hs' : shpD n d = false := by simpa using hshp
      rw [hs'] at q ⊢
      refine iteT ?_
      exact q _ s1
    rw [hshp] at q ⊢
    refine iteF ?_
    have hq1 := Dq.same s1 hq
    have hshp2 := hshp
    unfold shpD at hshp2
    simp only [Bool.and_eq_true, decide_eq_true_eq] at hshp2
    obtain ⟨ht, hl0, hr0⟩ := hshp2
    obtain ⟨av, xs, ds, rfl, rfl, hS, hAl⟩ := isTup_inv hq1 ht
    have hl1 : ds.length = n + 1 := hl0
    have hl := hAl.len
    refine ⟨.ref av, rfl, av, rfl, ⟨_, hS⟩, fun D nD => ?_⟩
    have hrl : ∀ j, (((itemsD (ds.getD j .none)).map isIntD).map PyData.bool).length ≤ 101 := fun j => by
      rw [List.length_map, List.length_map]
      by_cases hj : j < ds.length
      · have he := List.getElem?_eq_getElem hj
        obtain ⟨_, h2⟩ := shpR_at (i := 0) hr0 he
        rw [List.getD_eq_getElem?_getD, he]
        show (itemsD ds[j]).length ≤ 101
        omega
      · rw [List.getD_eq_getElem?_getD, List.getElem?_eq_none (by omega)]
        exact Nat.zero_le _
    refine lc2_out (K := K) (walk_tup (xs := xs)) (fun i => ((itemsD (ds.getD i .none)).map isIntD).map PyData.bool) nD (fun H' s' => Same.tup s' hS) ?_ ?_
    · rintro i x Hx Hx' hi ax ⟨rfl, hx⟩ Nx hN
      obtain ⟨e, hee, hqe⟩ := hAl.at hx
      obtain ⟨hte, hle⟩ := shpR_at (i := 0) hr0 hee
      have hget : ds.getD i .none = e := by rw [List.getD_eq_getElem?_getD, hee]; rfl
      obtain ⟨c, ys, es, rfl, rfl, hC, hAe⟩ := isTup_inv hqe hte
      have hle' : es.length + (0 + i) = n + 1 := hle
      have hyl := hAe.len
      have hbl := blks_len_le (f := fun i => ((itemsD (ds.getD i .none)).map isIntD).map PyData.bool) (c := 101) i fun j hj => hrl j
      rw [hget] at hN
      have hN' : ∀ H, Acc K H1 H D (blks (fun i => ((itemsD (ds.getD i .none)).map isIntD).map PyData.bool) i ++ (es.map isIntD).map PyData.bool) → Nx H := hN
      refine ⟨rfl, yesT ?_⟩
      refine ⟨.ref c, rfl, c, rfl, ⟨_, Same.tup ax.1 hC⟩, ?_⟩
      refine lc2_in (K := K) (walk_tup (xs := ys)) (blks (fun i => ((itemsD (ds.getD i .none)).map isIntD).map PyData.bool) i) ((es.map isIntD).map PyData.bool) (by simp [hyl]) (fun d hd => ?_) (fun d hd => by obtain ⟨b, _, rfl⟩ := List.mem_map.mp hd; exact .bl b) (by omega) nD ax (fun H' s' => Same.tup s' hC) ?_ hN' (fun x σ' H' Q Q' h => h _ _) (fun σ' H' Q Q' h => h _ _)
      · obtain ⟨j, _, hd⟩ := mem_blks hd
        obtain ⟨b, _, rfl⟩ := List.mem_map.mp hd
        exact .bl b
      · rintro m y Hy Hy' hm sy ⟨rfl, hy⟩ d hd R hR
        obtain ⟨z, hz, hqz⟩ := hAe.at hy
        rw [List.getElem?_map, List.getElem?_map, hz] at hd
        cases hd
        obtain ⟨T, b1, b2, hT, k1, k2, hb⟩ := intD_ty (Dq.same sy hqz)
        refine ⟨rfl, rfl, y, rfl, y, T, b1, b2, rfl, hT, k1, k2, ?_⟩
        rw [hb]
        exact hR _ _ (Same.refl _) (.bl _)
    · intro H2 acc s2 ha hA2
      have eb : blks (fun i => ((itemsD (ds.getD i .none)).map isIntD).map PyData.bool) xs.length = ((List.range xs.length).flatMap fun i => (itemsD (ds.getD i .none)).map isIntD).map PyData.bool := by
        unfold blks
        rw [List.map_flatMap]
      rw [eb] at hA2
      rw [dpBoolsI hA2] at ha
      have eall : ((List.range xs.length).flatMap fun i => (itemsD (ds.getD i .none)).map isIntD).all id = intsD (.tuple ds) := by
        rw [Bool.eq_iff_iff, List.all_eq_true]
        unfold intsD
        rw [List.all_eq_true]
        constructor
        · intro hh e hme
          rw [List.all_eq_true]
          intro z hz
          obtain ⟨i, hi, hie⟩ := List.getElem_of_mem hme
          have hi' : i < ds.length := hi
          refine hh _ (List.mem_flatMap.mpr ⟨i, List.mem_range.mpr (by omega), List.mem_map.mpr ⟨z, ?_, rfl⟩⟩)
          have hg : ds.getD i .none = e := by rw [List.getD_eq_getElem?_getD, List.getElem?_eq_getElem hi']; exact hie
          rw [hg]; exact hz
        · intro hh b hb
          obtain ⟨i, hi, hb⟩ := List.mem_flatMap.mp hb
          have hi := List.mem_range.mp hi
          obtain ⟨z, hz, rfl⟩ := List.mem_map.mp hb
          have hi' : i < ds.length := by omega
          have hg : ds.getD i .none = ds[i] := by rw [List.getD_eq_getElem?_getD, List.getElem?_eq_getElem hi']; rfl
          rw [hg] at hz
          exact List.all_eq_true.mp (hh ds[i] (List.getElem_mem hi')) z hz
      refine ⟨D, _, rfl, .inl (.inl ha), ?_⟩
      rw [eall]
      by_cases hint : intsD (.tuple ds) = true
      rotate_left
      · have hi' : intsD (.tuple ds) = false := by simpa using hint
        rw [hi'] at q ⊢
        refine ⟨false, rfl, ?_⟩
        refine iteT ?_
        exact q _ (s1.trans s2)
      have etab := shp_tab hshp hint
      rw [hint] at q ⊢
      obtain ⟨B, eB⟩ : ∃ B, B = tabOf (.tuple ds) := ⟨_, rfl⟩
      rw [← eB] at etab q
      have hD1 : Dp K H1 (.ref av) (dTab B n) := dq_tab (by rw [← etab]; exact hq1)
      refine ⟨true, rfl, iteF ?_⟩
      have s12 := s1.trans s2
      refine ⟨.ref a, rfl, .ref b, rfl, a, b, ss, rs, rfl, Same.tup s12 hA, Same.tup s12 hB, by omega, by omega, fun H3 z s3 hZ => ?_⟩
      refine ⟨_, rfl, n, rfl, by omega, fun H4 p us s4 np hp hA4 => ?_⟩
      have hul := DpAll.len hA4
      rw [List.length_map] at hul
      have hil : (ivN n).length ≤ 10201 := by
        have := blks_len_le (f := fun i => (List.range (n + 1 - i)).map fun m => dIv (i, m)) (c := 101) (n + 1) fun j hj => by simp; omega
        rw [← ivN_blks, List.length_map] at this
        omega
      have s24 := s3.trans s4
      have hD4 := Dp.same (s2.trans s24) hD1
      refine ⟨p, rfl, ⟨_, .inl (.inl hp)⟩, fun D2 nD2 => ?_⟩
      refine lc_allW (K := K) (walk_list (xs := us)) (((ivN n).map (lowAt (sm ss) (sm rs) B)).map PyData.bool) (by rw [List.length_map, List.length_map, hul]) (fun d h => by obtain ⟨b, _, rfl⟩ := List.mem_map.mp h; exact .bl b) (by omega) nD2 (fun H' s' => s'.seq (.inl (.inl hp))) ?_ ?_ mono_pair (fun σ' H' Q Q' h => h _ _)
      · rintro j x Hx Hx' hj sx ⟨rfl, hx⟩ d hd R hR
        have hj2 : j < (ivN n).length := by omega
        rw [List.getElem?_map, List.getElem?_map, List.getElem?_eq_getElem hj2] at hd
        cases hd
        obtain ⟨x', hx', hD'⟩ := DpAll.get hA4 (i := j) (by rw [List.getElem?_map, List.getElem?_eq_getElem hj2]; rfl)
        rw [hx] at hx'
        cases hx'
        have hm := mem_ivN.mp (List.getElem_mem hj2)
        generalize (ivN n)[j] = pr at hD' hm hR
        obtain ⟨i, m⟩ := pr
        dsimp only at hm
        obtain ⟨t, rfl, ht⟩ := Dp.intsInv (ns := [((i : Nat) : Int), ((i + m : Nat) : Int)]) hD'
        have hDx := Dp.same sx hD4
        refine ⟨t, _, rfl, Same.tup sx ht, rfl, _, _, rfl, _, _, rfl, rfl, rfl, rfl, _, rfl, _, rfl, _, rfl, _, rfl, _, rfl, _, rfl, .ref av, .ref av, .ref av, .ref z, ss, rs, i, m, B i m, (fun k => some (B i k)), (fun k => some (B (i + k + 1) (m - 1 - k))), rfl, (hZ.same s4).same sx, by omega, by omega, by omega, tab_rd hDx (by omega), ⟨fun k hk => (tab_rd hDx (by omega)).o, fun k hk => (tab_rd hDx (by omega)).o⟩, fun H6 s6 => hR _ _ s6 ?_⟩
        have el : lowAt (sm ss) (sm rs) B (i, m) = if m = 0 then decide (B i m ≤ 0) else lowV (B i m) (wbo (fun k => some (B i k)) (fun k => some (B (i + k + 1) (m - 1 - k))) (cst (sm ss) (sm rs) i m) i m) := by
          unfold lowAt
          by_cases hm0 : m = 0
          · subst hm0; rfl
          · rw [if_neg hm0, if_neg hm0]
        rw [← el]
        exact .bl _
      · intro H5 acc5 s5 ha5 hA5
        rw [dpBoolsI hA5] at ha5
        refine ⟨D2, _, rfl, .inl (.inl ha5), ?_⟩
        rw [List.all_map]
        exact q _ ((s12.trans s24).trans s5)
end
section
variable {P : Program} {w : World} {K : PySem.W.Frag} {mg : Str → Option Value} {base : Heap}
def sp_table (K : PySem.W.Frag) : Sp := fun vs H Q _ => ∃ (a b : Addr) (ss rs : List Int), vs = [.ref a, .ref b] ∧ SqT K H a (ss.map V.int) ∧ SqT K H b (rs.map V.int) ∧ Lds ss ∧ Lds rs ∧ ss.length = rs.length ∧ ss.length ≤ 60 ∧ ∀ H' p, Same H H' → Dp K H' (.ref p) (dTab (lw (sm ss) (sm rs)) ss.length) → Q (.ref p) H'
theorem ok_table (TX : Tx K mg) : FnOk P w K mg base CX0 7 TX.a_table TX.fd_table ["sizes", "reads"] (sp_table K) := by
  refine TX.f_table.ok sc_table (fun vs H Q E h => ?_) (fun cdv A outer s H vs Q E hr h => ?_)
  · obtain ⟨a, b, ss, rs, rfl, _⟩ := h; rfl
  · obtain ⟨a, b, ss, rs, rfl, hA, hB, hs, hr', he, h1, q⟩ := h
    refine ⟨_, (pss_cons (ps_expr (pe_call (ok_check_loads TX) (hr.mono (by decide)) (by rfl) TX.g_check_loads TX.f_check_loads.kp TX.bd_check_loads .nil pass0 (pa_cons (pv 0) (pa_cons (pv 1) (pa_cons (pe_glob (v := .int (60)) (by rfl) TX.c_MOST_FLUSHES ⟨_, rfl⟩) pa_nil)))))
      (pss_one (ps_ret (pe_call (ok_least_rows TX) (hr.mono (by decide)) (by rfl) TX.g_least_rows TX.f_least_rows.kp TX.bd_least_rows .nil pass0 (pa_cons (pv 0) (pa_cons (pv 1) pa_nil)))))), ?_⟩
    refine ⟨.ref a, rfl, .ref b, rfl, a, b, ss, rs, 60, rfl, hA, hB, hs, hr', he, by omega, by omega, fun H1 s1 => ?_⟩
    exact ⟨.ref a, rfl, .ref b, rfl, a, b, ss, rs, rfl, Same.tup s1 hA, Same.tup s1 hB, he, by omega, fun H2 p s2 hD => q _ p (s1.trans s2) hD⟩
def shwD (ss rs : List Int) (dx d : PyData) : Bool := isIntD dx && (bndD ss rs d && decide (tabOf d 0 ss.length = numD dx))
def sp_shows_bound (K : PySem.W.Frag) : Sp := fun vs H Q _ => ∃ (a b : Addr) (x v : V) (dx d : PyData) (ss rs : List Int), vs = [.ref a, .ref b, x, v] ∧ SqT K H a (ss.map V.int) ∧ SqT K H b (rs.map V.int) ∧ Lds ss ∧ Lds rs ∧ ss.length = rs.length ∧ ss.length ≤ 60 ∧ Dq K H x dx ∧ Dq K H v d ∧ ∀ H', Same H H' → Q (.bl (shwD ss rs dx d)) H'
theorem ok_shows_bound (TX : Tx K mg) : FnOk P w K mg base CX0 7 TX.a_shows_bound TX.fd_shows_bound ["sizes", "reads", "bound", "value"] (sp_shows_bound K) := by
  refine TX.f_shows_bound.ok sc_shows_bound (fun vs H Q E h => ?_) (fun cdv A outer s H vs Q E hr h => ?_)
  · obtain ⟨a, b, x, v, dx, d, ss, rs, rfl, _⟩ := h; rfl
  · obtain ⟨a, b, x, v, dx, d, ss, rs, rfl, hA, hB, hs, hr', he, h1, hqx, hq, q⟩ := h
    refine ⟨_, (pss_cons (ps_expr (pe_call (ok_check_loads TX) (hr.mono (by decide)) (by rfl) TX.g_check_loads TX.f_check_loads.kp TX.bd_check_loads .nil pass0 (pa_cons (pv 0) (pa_cons (pv 1) (pa_cons (pe_glob (v := .int (60)) (by rfl) TX.c_MOST_FLUSHES ⟨_, rfl⟩) pa_nil)))))
      (pss_one (ps_ret (pe_and (pe_call (ok_is_intD TX) (hr.mono (by decide)) (by rfl) TX.g_is_int TX.f_is_int.kp TX.bd_is_int .nil pass0 (pa_cons (pv 2) pa_nil)) (pe_and (pe_call (ok_is_bound_table TX) (hr.mono (by decide)) (by rfl) TX.g_is_bound_table TX.f_is_bound_table.kp TX.bd_is_bound_table .nil pass0 (pa_cons (pv 3) (pa_cons (pv 0) (pa_cons (pv 1) pa_nil)))) (pe_one (pe_cmpR op_eq (pe_ix (k_ixT (K := K) rfl) (pe_ix (k_ixT (K := K) rfl) (pv 3) pe_int (fun _ _ => rfl)) (pe_un un_neg pe_int) (fun _ _ => rfl)) (pv 2) (nomark _)))))))), ?_⟩
    refine ⟨.ref a, rfl, .ref b, rfl, a, b, ss, rs, 60, rfl, hA, hB, hs, hr', he, by omega, by omega, fun H1 s1 => ?_⟩
    obtain ⟨T, b1, b2, g1, g2, g3, g4⟩ := intD_ty (Dq.same s1 hqx)
    refine ⟨x, rfl, x, T, b1, b2, rfl, g1, g2, g3, _, rfl, ?_⟩
    unfold shwD at q
    rw [g4]
    by_cases hix : isIntD dx = true
    rotate_left
    · have hi' : isIntD dx = false := by simpa using hix
      rw [hi'] at q ⊢
      exact iteF (q _ s1)
    obtain ⟨c, rfl⟩ : ∃ c, dx = .int c := by
      cases dx with
      | int c => exact ⟨c, rfl⟩
      | none => cases hix
      | bool b => cases hix
      | str s => cases hix
      | list l => cases hix
      | tuple l => cases hix
      | dict l => cases hix
    cases hqx
    rw [hix] at q ⊢
    refine iteT ?_
    refine ⟨v, rfl, .ref a, rfl, .ref b, rfl, v, a, b, d, ss, rs, rfl, Dq.same s1 hq, Same.tup s1 hA, Same.tup s1 hB, he, h1, fun H2 s2 => ⟨_, rfl, ?_⟩⟩
    have s12 := s1.trans s2
    cases ek : bndD ss rs d with
    | false =>
      rw [ek] at q
      exact iteF (q _ s12)
    | true =>
      rw [ek] at q
      have ek2 := ek
      unfold bndD at ek2
      simp only [Bool.and_eq_true] at ek2
      have etab := shp_tab ek2.1 ek2.2.1
      obtain ⟨B, eB⟩ : ∃ B, B = tabOf d := ⟨_, rfl⟩
      rw [← eB] at etab q
      have hD : Dp K H2 v (dTab B ss.length) := dq_tab (by rw [← etab]; exact Dq.same s12 hq)
      obtain ⟨av, xs, rfl, hS, hl, hrow⟩ := tab_row hD
      obtain ⟨r0, hr0, hR0⟩ := hrow 0 (by omega)
      have e1 : (rowB B ss.length 0).map V.int = ((List.range ss.length).map fun m => V.int (B 0 m)) ++ [V.int (B 0 ss.length)] := by
        unfold rowB
        rw [Nat.sub_zero, List.range_succ, List.map_append, List.map_append, List.map_map]; rfl
      refine iteT ⟨.ref av, rfl, av, _, 0, _, rfl, rfl, hS, atI_nat (j := 0) hr0, _, rfl, r0, _, -1, _, rfl, rfl, hR0, (by rw [e1]; exact atI_last _ _), _, rfl, rfl, ?_⟩
      have q' : Q (.bl (decide (B 0 ss.length = c))) H2 := q _ s12
      have ed : decide (V.int (B 0 ss.length) = V.int c) = decide (B 0 ss.length = c) := by
        by_cases h : B 0 ss.length = c
        · rw [decide_eq_true h, h]; simp
        · rw [decide_eq_false h]; simp [h]
      rw [ed]
      exact q'
end
section
variable {P : Program} {w : World} {K : PySem.W.Frag} {mg : Str → Option Value} {base : Heap}
def sp_L_is_int (K : PySem.W.Frag) : Sp := fun vs H Q _ => ∃ x d, vs = [x] ∧ Dq K H x d ∧ Q (.bl (isIntD d)) H
theorem ok_L_is_int (TX : Tx K mg) : FnOk P w K mg base CX0 1 TX.a_L_is_int TX.fd_L_is_int ["_law_thing"] (sp_L_is_int K) := by
  refine TX.f_L_is_int.ok sc_L_is_int (fun vs H Q E h => ?_) (fun cdv A outer s H vs Q E hr h => ?_)
  · obtain ⟨x, d, rfl, _⟩ := h; rfl
  · obtain ⟨x, d, rfl, hq, q⟩ := h
    refine ⟨_, (pss_one (ps_ret (pe_and (pe_callB (id := "isinstance") (k_isi (K := K) rfl) (by rfl) TX.b_isinstance (by decide +kernel) (pa_cons (pv 0) (pa_cons (pe_bltn (v := .ty "int") (by rfl) TX.b_int (by decide +kernel) rfl) pa_nil))) (pe_one (pe_not (pe_callB (id := "isinstance") (k_isi (K := K) rfl) (by rfl) TX.b_isinstance (by decide +kernel) (pa_cons (pv 0) (pa_cons (pe_bltn (v := .ty "bool") (by rfl) TX.b_bool (by decide +kernel) rfl) pa_nil)))))))), ?_⟩
    obtain ⟨T, b1, b2, hT, h1, h2, hb⟩ := intD_ty hq
    rw [← hb] at q
    refine ⟨x, rfl, x, .ty "int", .type T, .type "int", b1, rfl, .ty _, hT, kit_ty h1, b1, rfl, ?_⟩
    cases b1 with
    | false => exact iteF q
    | true => exact iteT ⟨x, rfl, x, .ty "bool", .type T, .type "bool", b2, rfl, .ty _, hT, kit_ty h2, b2, rfl, q⟩
end
section
variable {P : Program} {w : World} {K : PySem.W.Frag} {mg : Str → Option Value} {base : Heap}
def sp_L_has_shape (K : PySem.W.Frag) : Sp := fun vs H Q _ => ∃ (x : V) (d : PyData) (n : Nat), vs = [.int (n : Int), x] ∧ Dq K H x d ∧ n ≤ 100 ∧ ∀ H', Same H H' → Q (.bl (shpD n d)) H'
theorem ok_L_has_shape (TX : Tx K mg) : FnOk P w K mg base CX0 1 TX.a_L_has_shape TX.fd_L_has_shape ["_law_count", "_law_thing"] (sp_L_has_shape K) := by
  refine TX.f_L_has_shape.ok sc_L_has_shape (fun vs H Q E h => ?_) (fun cdv A outer s H vs Q E hr h => ?_)
  · obtain ⟨x, d, n, rfl, _⟩ := h; rfl
  · obtain ⟨x, d, n, rfl, hq, hn, q⟩ := h
    refine ⟨_, (pss_cons (ps_if (PW.pt (pw_or (pt_not (pt_val (pe_callB (id := "isinstance") (k_isi (K := K) rfl) (by rfl) TX.b_isinstance (by decide +kernel) (pa_cons (pv 1) (pa_cons (pe_bltn (v := .ty "tuple") (by rfl) TX.b_tuple (by decide +kernel) rfl) pa_nil))))) (pw_or1 (pt_cmpR op_ne (pe_callB (id := "len") (k_len (K := K) rfl) (by rfl) TX.b_len (by decide +kernel) (pa_cons (pv 1) pa_nil)) (pe_op op_add (pv 0) pe_int) (nomark _)))))
        (pss_one (ps_ret pe_bl))
        pss_nil)
      (pss_one (ps_ret (pe_callB (id := "all") (cr_all rfl) (by rfl) TX.b_all (by decide +kernel) (pa_cons (pe_lc (own := [("_law_i", 2), ("_law_row", 3)]) (by rfl) sc_L_has_shape.nd (pi_enumT (by rfl) TX.b_enumerate (pa_cons (pv 1) pa_nil)) (blkOk_by (own := [("_law_i", 2), ("_law_row", 3)]) (N := N_L_has_shape) (sc := defScope s_L_has_shape) (by decide +kernel)) (fun _ _ _ _ _ => (k_pgT2 (K := K) rfl rfl (pg_name (i := 2) sc_L_has_shape.nd rfl (Or.inl rfl)) (pg_name (i := 3) sc_L_has_shape.nd rfl (Or.inl rfl)))) (fun _ _ _ _ _ => pts_nil) (fun _ _ _ _ _ => (pe_and (pe_callB (id := "isinstance") (k_isi (K := K) rfl) (by rfl) TX.b_isinstance (by decide +kernel) (pa_cons (pv 3) (pa_cons (pe_bltn (v := .ty "tuple") (by rfl) TX.b_tuple (by decide +kernel) rfl) pa_nil))) (pe_one (pe_cmpR op_eq (pe_callB (id := "len") (k_len (K := K) rfl) (by rfl) TX.b_len (by decide +kernel) (pa_cons (pv 3) pa_nil)) (pe_op op_sub (pe_op op_add (pv 0) pe_int) (pv 2)) (nomark _)))))) pa_nil))))), ?_⟩
    obtain ⟨T, hT, hkT⟩ := tup_ty hq
    refine ⟨x, rfl, x, .ty "tuple", .type T, .type "tuple", isTup d, rfl, .ty _, hT, kit_ty hkT, isTup d, rfl, ?_⟩
    unfold shpD at q
    by_cases ht : isTup d = true
    rotate_left
    · have ht' : isTup d = false := by simpa using ht
      rw [ht'] at q ⊢
      refine iteT ?_
      exact q _ (Same.refl _)
    rw [ht] at q ⊢
    refine iteF ?_
    obtain ⟨a, xs, ds, rfl, rfl, hS, hA⟩ := isTup_inv hq ht
    have hl := hA.len
    have q' : ∀ H', Same H H' → Q (.bl (decide (ds.length = n + 1) && shpR n 0 ds)) H' := fun H' s' => q H' s'
    refine ⟨.ref a, rfl, a, _, rfl, .inr hS, _, rfl, _, _, rfl, rfl, rfl, _, rfl, ?_⟩
    by_cases hlen : ds.length = n + 1
    rotate_left
    · refine iteB1 ?_ ?_
      · simp only [Bool.not_eq_true', decide_eq_false_iff_not]
        intro z
        have := V.int.inj z
        omega
      · have := q' H (Same.refl _)
        rw [decide_eq_false hlen, Bool.false_and] at this
        exact this
    refine iteB0 (by rw [hl, hlen]; simp) ?_
    rw [decide_eq_true hlen] at q'
    refine ⟨.ref a, rfl, a, xs, rfl, hS, fun D nD => ?_⟩
    refine lc_all (K := K) (walk_enumT (xs := xs)) ((shpB n 0 ds).map PyData.bool) (by rw [List.length_map, shpB_len, hl]) (fun d h => by obtain ⟨b, _, rfl⟩ := List.mem_map.mp h; exact .bl b) (by omega) nD (fun H' s' => Same.tup s' hS) ?_ ?_ mono_pair (fun σ' H' Q Q' h => h _ _)
    · rintro i y Hx Hx' hi sx ⟨Tu, x1, x2, rfl, nT, rfl, e1, e2⟩ d hd R hR
      dsimp only at e1 e2
      cases e1
      obtain ⟨e, he, hqe⟩ := hA.at e2
      rw [List.getElem?_map, shpB_at he] at hd
      cases hd
      have t1 := same_upd (o := .tup [V.int ((i : Nat) : Int), x2]) nT
      have hqe' := Dq.same (sx.trans t1) hqe
      obtain ⟨T2, hT2, hkT2⟩ := tup_ty hqe'
      refine ⟨Tu, _, rfl, .inl (.inl upd_same), rfl, _, _, rfl, _, _, rfl, rfl, rfl, rfl, x2, rfl, x2, .ty "tuple", .type T2, .type "tuple", isTup e, rfl, .ty _, hT2, kit_ty hkT2, isTup e, rfl, ?_⟩
      by_cases ht2 : isTup e = true
      rotate_left
      · have ht3 : isTup e = false := by simpa using ht2
        rw [ht3] at hR ⊢
        exact iteF (hR _ _ t1 (.bl false))
      rw [ht2] at hR ⊢
      refine iteT ?_
      obtain ⟨c, ys, es, rfl, rfl, hS2, hA2⟩ := isTup_inv hqe' ht2
      refine ⟨.ref c, rfl, c, ys, rfl, .inr hS2, _, rfl, _, _, rfl, rfl, _, rfl, _, _, rfl, rfl, rfl, ?_⟩
      have hl2 := hA2.len
      have e3 : decide (V.int (ys.length : Int) = V.int ((n : Int) + 1 - ((i : Nat) : Int))) = decide ((itemsD (.tuple es)).length + (0 + i) = n + 1) := by
        refine decide_eq_decide.mpr ⟨fun z => ?_, fun z => ?_⟩
        · have := V.int.inj z
          show es.length + (0 + i) = n + 1
          omega
        · have z' : es.length + (0 + i) = n + 1 := z
          congr 1; omega
      rw [e3]
      exact hR _ _ t1 (.bl _)
    · intro H5 acc s5 ha hA5
      rw [dpBoolsI hA5] at ha
      refine ⟨D, shpB n 0 ds, rfl, .inl (.inl ha), ?_⟩
      rw [shpB_all]
      exact q' _ s5
end
theorem intsD_false {ds : List PyData} {j : Nat} {e : PyData} (he : ds[j]? = some e) (h : (itemsD e).all isIntD = false) : intsD (.tuple ds) = false := by
  cases hh : intsD (.tuple ds) with
  | false => rfl
  | true =>
    have := List.all_eq_true.mp hh e (List.mem_of_getElem? he)
    rw [h] at this; cases this
theorem tabOf_at {ds : List PyData} {i m : Nat} {e x : PyData} (he : ds[i]? = some e) (hx : (itemsD e)[m]? = some x) : tabOf (.tuple ds) i m = numD x := by
  unfold tabOf
  show numD ((itemsD (ds.getD i .none)).getD m .none) = _
  have e1 : ds.getD i .none = e := by rw [List.getD_eq_getElem?_getD, he]; rfl
  rw [e1, List.getD_eq_getElem?_getD, hx]; rfl
theorem okTab_false {S R : Nat → Int} {B : Nat → Nat → Int} {n i m : Nat} (hi : i + m ≤ n) (h : lowAt S R B (i, m) = false) : okTab S R B n = false := by
  cases hh : okTab S R B n with
  | false => rfl
  | true => rw [okTab_iff.mp hh i m hi] at h; cases h
section
variable {P : Program} {w : World} {K : PySem.W.Frag} {mg : Str → Option Value} {base : Heap}
def sp_L_is_bound (K : PySem.W.Frag) : Sp := fun vs H Q _ => ∃ (a b : Addr) (x : V) (d : PyData) (ss rs : List Int), vs = [.ref a, .ref b, x] ∧ SqT K H a (ss.map V.int) ∧ SqT K H b (rs.map V.int) ∧ ss.length = rs.length ∧ ss.length ≤ 60 ∧ Dq K H x d ∧ ∀ H', Same H H' → Q (.bl (bndD ss rs d)) H'
theorem ok_L_is_bound (TX : Tx K mg) : FnOk P w K mg base CX0 2 TX.a_L_is_bound TX.fd_L_is_bound ["_law_bulk", "_law_looks", "_law_thing"] (sp_L_is_bound K) := by
  refine TX.f_L_is_bound.ok sc_L_is_bound (fun vs H Q E h => ?_) (fun cdv A outer s H vs Q E hr h => ?_)
  · obtain ⟨a, b, x, d, ss, rs, rfl, _⟩ := h; rfl
  · obtain ⟨a, b, x, d, ss, rs, rfl, hA, hB, he, h1, hq, q⟩ := h
    refine ⟨_, (pss_cons (ps_par3 (i := 3) (j := 4) (l := 5) (by rfl) sc_L_is_bound.nd rfl rfl rfl (by decide) (by decide) (by decide) rfl rfl rfl (pa_cons (pe_callB (id := "len") (k_len (K := K) rfl) (by rfl) TX.b_len (by decide +kernel) (pa_cons (pv 0) pa_nil)) (pa_cons (pe_call (ok_L_sums TX) (hr.mono (by decide)) (by rfl) TX.g_L_sums TX.f_L_sums.kp TX.bd_L_sums .nil pass0 (pa_cons (pv 0) pa_nil)) (pa_cons (pe_call (ok_L_sums TX) (hr.mono (by decide)) (by rfl) TX.g_L_sums TX.f_L_sums.kp TX.bd_L_sums .nil pass0 (pa_cons (pv 1) pa_nil)) pa_nil))) (by rfl))
      (pss_cons (ps_if (pt_not (pt_val (pe_call (ok_L_has_shape TX) (hr.mono (by decide)) (by rfl) TX.g_L_has_shape TX.f_L_has_shape.kp TX.bd_L_has_shape .nil pass0 (pa_cons (pv 3) (pa_cons (pv 2) pa_nil)))))
        (pss_one (ps_ret pe_bl))
        pss_nil)
      (pss_cons (ps_for PassesOwn.never rfl (k_piT (K := K) rfl (pv 2)) (pg_name (i := 6) sc_L_is_bound.nd rfl (.inl rfl))
        (pss_one (ps_if (PW.pt (pw_or (pt_not (pt_val (pe_callB (id := "all") (cr_all rfl) (by rfl) TX.b_all (by decide +kernel) (pa_cons (pe_lc (own := [("_law_one", 12)]) (by rfl) sc_L_is_bound.nd (k_piT (K := K) rfl (pv 6)) (blkOk_by (own := [("_law_one", 12)]) (N := N_L_is_bound) (sc := defScope s_L_is_bound) (by decide +kernel)) (fun _ _ _ _ _ => (pg_name (i := 12) sc_L_is_bound.nd rfl (Or.inl rfl))) (fun _ _ _ _ _ => pts_nil) (fun _ _ _ _ _ => (pe_call (ok_L_is_int TX) (hr.mono (by decide)) (by rfl) TX.g_L_is_int TX.f_L_is_int.kp TX.bd_L_is_int .nil pass0 (pa_cons (pv 12) pa_nil)))) pa_nil)))) (pw_or1 (pt_cmpR op_gt (pe_ix (k_ixT (K := K) rfl) (pv 6) pe_int (fun _ _ => rfl)) pe_int (nomark _)))))
          (pss_one (ps_ret pe_bl))
          pss_nil)))
      (pss_cons (ps_for PassesOwn.never rfl (pi_range1 (by rfl) TX.b_range (pa_cons (pv 3) pa_nil)) (pg_name (i := 7) sc_L_is_bound.nd rfl (.inl rfl))
        (pss_one (ps_for PassesOwn.never rfl (pi_range2 (by rfl) TX.b_range (pa_cons (pe_op op_add (pv 7) pe_int) (pa_cons (pe_op op_add (pv 3) pe_int) pa_nil))) (pg_name (i := 8) sc_L_is_bound.nd rfl (.inl rfl))
          (pss_one (ps_for PassesOwn.never rfl (pi_range2 (by rfl) TX.b_range (pa_cons (pv 7) (pa_cons (pv 8) pa_nil))) (pg_name (i := 9) sc_L_is_bound.nd rfl (.inl rfl))
            (pss_cons (ps_set (i := 10) sc_L_is_bound.nd rfl (.inl rfl) (pe_op op_sub (pe_op op_add (pe_op op_sub (pe_ix (k_ixL (K := K) rfl) (pv 4) (pe_op op_add (pv 9) pe_int) (fun _ _ => rfl)) (pe_ix (k_ixL (K := K) rfl) (pv 4) (pv 7) (fun _ _ => rfl))) (pe_ix (k_ixL (K := K) rfl) (pv 5) (pv 8) (fun _ _ => rfl))) (pe_ix (k_ixL (K := K) rfl) (pv 5) (pv 9) (fun _ _ => rfl))))
            (pss_cons (ps_set (i := 11) sc_L_is_bound.nd rfl (.inl rfl) (pe_op op_add (pe_ix (k_ixT (K := K) rfl) (pe_ix (k_ixT (K := K) rfl) (pv 2) (pv 7) (fun _ _ => rfl)) (pe_op op_sub (pv 9) (pv 7)) (fun _ _ => rfl)) (pe_ix (k_ixT (K := K) rfl) (pe_ix (k_ixT (K := K) rfl) (pv 2) (pe_op op_add (pv 9) pe_int) (fun _ _ => rfl)) (pe_op op_sub (pe_op op_sub (pv 8) (pv 9)) pe_int) (fun _ _ => rfl))))
            (pss_one (ps_if (pt_cmpR op_gt (pe_ix (k_ixT (K := K) rfl) (pe_ix (k_ixT (K := K) rfl) (pv 2) (pv 7) (fun _ _ => rfl)) (pe_op op_sub (pv 8) (pv 7)) (fun _ _ => rfl)) (pe_op op_add (pv 11) (pv 10)) (nomark _))
              (pss_one (ps_ret pe_bl))
              pss_nil)))))))))
      (pss_one (ps_ret pe_bl)))))), ?_⟩
    obtain ⟨n, hn⟩ : ∃ n, n = ss.length := ⟨_, rfl⟩
    have hlen : ((ss.map V.int).length : Int) = (n : Int) := by rw [List.length_map, hn]
    unfold bndD at q
    rw [← hn] at q h1
    refine ⟨.ref a, rfl, a, _, rfl, .inr hA, ?_⟩
    refine ⟨.ref a, rfl, a, ss, rfl, hA, by omega, fun H1 u1 s1 n1 g1 => ?_⟩
    refine ⟨.ref b, rfl, b, rs, rfl, Same.tup s1 hB, by omega, fun H2 u2 s2 n2 g2 => ?_⟩
    rw [hlen]
    refine ⟨_, _, _, rfl, ?_⟩
    have g1' := s2 _ _ g1
    have s12 := s1.trans s2
    refine ⟨_, rfl, x, rfl, x, d, n, rfl, Dq.same s12 hq, by omega, fun H3 s3 => ?_⟩
    refine ⟨shpD n d, rfl, ?_⟩
    have s13 := s12.trans s3
    by_cases hshp : shpD n d = true
    rotate_left
    · have hs' : shpD n d = false := by simpa using hshp
      rw [hs'] at q ⊢
      refine iteT ?_
      exact q _ s13
    rw [hshp] at q ⊢
    refine iteF ?_
    have hq3 := Dq.same s13 hq
    have hshp2 := hshp
    unfold shpD at hshp2
    simp only [Bool.and_eq_true, decide_eq_true_eq] at hshp2
    obtain ⟨ht, hl0, hr0⟩ := hshp2
    obtain ⟨av, xs, ds, rfl, rfl, hS, hAl⟩ := isTup_inv hq3 ht
    have hl1 : ds.length = n + 1 := hl0
    have hl := hAl.len
    have G1 := s3 _ _ g1'
    have G2 := s3 _ _ g2
    have q' : ∀ H', Same H H' → Q (.bl (intsD (.tuple ds) && okTab (sm ss) (sm rs) (tabOf (.tuple ds)) n)) H' := q
    clear q
    refine ⟨.ref av, rfl, av, rfl, ⟨_, hS⟩, for_tup (K := K) (xs := xs) (fun i σ H' => ∃ y6, σ = [some (.ref a), some (.ref b), some (.ref av), some (.int (n : Int)), some (.ref u1), some (.ref u2), y6, none, none, none, none, none, none] ∧ Same H3 H' ∧ ∀ j e, j < i → ds[j]? = some e → (itemsD e).all isIntD = true ∧ tabOf (.tuple ds) j 0 ≤ 0) ⟨_, rfl, Same.refl _, by intro j e hj; omega⟩ (fun i σ H' _ ⟨_, _, h, _⟩ => Same.tup h hS) ?_ ?_⟩
    · rintro i x σ H4 hx ⟨y6, rfl, s4, hdone⟩
      obtain ⟨e, hee, hqe⟩ := hAl.at hx
      have hin : i < ds.length := (List.getElem?_eq_some_iff.mp hee).1
      obtain ⟨hte, hle⟩ := shpR_at (i := 0) hr0 hee
      obtain ⟨c, ys, es, rfl, rfl, hC, hAe⟩ := isTup_inv (Dq.same s4 hqe) hte
      have hle' : es.length + (0 + i) = n + 1 := hle
      have hyl := hAe.len
      refine ⟨.ref c, rfl, c, rfl, ⟨_, hC⟩, fun D nD => ?_⟩
      refine lc_all (K := K) (walk_tup (xs := ys)) ((es.map isIntD).map PyData.bool) (by simp [hyl]) (fun d h => by obtain ⟨b, _, rfl⟩ := List.mem_map.mp h; exact .bl b) (by omega) nD (fun H' s' => Same.tup s' hC) ?_ ?_ (fun x σ' H' Q Q' h => h _ _) (fun σ' H' Q Q' h => h _ _)
      · rintro m y Hy Hy' hm sy ⟨rfl, hy⟩ d hd R hR
        obtain ⟨z, hz, hqz⟩ := hAe.at hy
        rw [List.getElem?_map, List.getElem?_map, hz] at hd
        cases hd
        exact ⟨rfl, rfl, y, rfl, y, z, rfl, Dq.same sy hqz, hR _ _ (Same.refl _) (.bl _)⟩
      · intro H5 acc s5 ha hA5
        rw [dpBoolsI hA5] at ha
        have s35 := s4.trans s5
        refine ⟨D, es.map isIntD, rfl, .inl (.inl ha), ?_⟩
        have e1 : (es.map isIntD).all id = es.all isIntD := by rw [List.all_map]; rfl
        rw [e1]
        by_cases hint : es.all isIntD = true
        rotate_left
        · have hi' : es.all isIntD = false := by simpa using hint
          rw [hi']
          refine ⟨false, rfl, ?_⟩
          refine iteT ?_
          have := q' _ (s13.trans s35)
          rw [intsD_false hee hi', Bool.false_and] at this
          exact this
        rw [hint]
        refine ⟨true, rfl, ?_⟩
        refine iteF ?_
        obtain ⟨z, hz⟩ : ∃ z, es[0]? = some z := ⟨_, List.getElem?_eq_getElem (by omega)⟩
        have hzi := List.all_eq_true.mp hint z (List.mem_of_getElem? hz)
        obtain ⟨v, rfl⟩ : ∃ v, z = .int v := by
          cases z with
          | int c => exact ⟨c, rfl⟩
          | none => cases hzi
          | bool b => cases hzi
          | str s => cases hzi
          | list l => cases hzi
          | tuple l => cases hzi
          | dict l => cases hzi
        obtain ⟨y0, hy0, hqy⟩ := DqAll.get hAe hz
        cases hqy
        have etb : tabOf (.tuple ds) i 0 = v := tabOf_at hee hz
        refine ⟨.ref c, rfl, c, ys, 0, _, rfl, rfl, Same.tup s5 hC, atI_nat (j := 0) hy0, _, _, rfl, rfl, _, rfl, ?_⟩
        by_cases hv : 0 < v
        · refine decT hv ?_
          have := q' _ (s13.trans s35)
          rw [okTab_false (i := i) (m := 0) (by omega) (by unfold lowAt; rw [if_pos rfl]; exact decide_eq_false (by dsimp only; rw [etb]; omega)), Bool.and_false] at this
          exact this
        · refine decF hv ?_
          refine ⟨_, rfl, s35, fun j e hj hej => ?_⟩
          by_cases eji : j = i
          · subst eji
            rw [hee] at hej
            cases hej
            exact ⟨hint, by rw [etb]; omega⟩
          · exact hdone j e (by omega) hej
    rintro σ H4 ⟨y6, rfl, s4, hdone⟩
    have hint : intsD (.tuple ds) = true := List.all_eq_true.mpr fun e he => by
      obtain ⟨j, hj⟩ := List.mem_iff_getElem?.mp he
      have := (List.getElem?_eq_some_iff.mp hj).1
      exact (hdone j e (by omega) hj).1
    have etab := shp_tab hshp hint
    have h00 : ∀ j, j ≤ n → tabOf (.tuple ds) j 0 ≤ 0 := fun j hj => by
      obtain ⟨e, he⟩ : ∃ e, ds[j]? = some e := ⟨_, List.getElem?_eq_getElem (by omega)⟩
      exact (hdone j e (by omega) he).2
    rw [hint] at q'
    obtain ⟨B, eB⟩ : ∃ B, B = tabOf (.tuple ds) := ⟨_, rfl⟩
    rw [← eB] at etab q' h00
    have hD4 : Dp K H4 (.ref av) (dTab B n) := dq_tab (by rw [← etab]; exact Dq.same s4 hq3)
    have G1 := s4 _ _ G1
    have G2 := s4 _ _ G2
    have s14 := s13.trans s4
    clear hdone hshp hint etab hq3 hS hAl hl hl1 hr0 hl0 ht
    obtain ⟨av', xs', e0, hS, hxl, hrow⟩ := tab_row hD4
    cases e0
    have low0 : ∀ i, i ≤ n → lowAt (sm ss) (sm rs) B (i, 0) = true := fun i hi => by
      unfold lowAt
      rw [if_pos rfl]
      exact decide_eq_true (h00 i hi)
    refine ⟨_, rfl, _, rfl, by omega, by omega, for_range (lo := 0) (fun i σ H' => ∃ y7 y8 y9 y10 y11, σ = [some (.ref a), some (.ref b), some (.ref av), some (.int (n : Int)), some (.ref u1), some (.ref u2), y6, y7, y8, y9, y10, y11, none] ∧ Same H4 H' ∧ ∀ i' m, i' < i → i' + m ≤ n → lowAt (sm ss) (sm rs) B (i', m) = true) ⟨_, _, _, _, _, rfl, Same.refl _, by intro i' m hi; omega⟩ ?_ ?_⟩
    · rintro i σ H5 hi ⟨y7, y8, y9, y10, y11, rfl, s5, hlow⟩
      have hi' : i < n := by omega
      have ei : (0 : Int) + ((i : Nat) : Int) = ((i : Nat) : Int) := by omega
      rw [ei]
      have ei1 : ((i : Nat) : Int) + 1 = ((i + 1 : Nat) : Int) := by omega
      have en1 : ((n : Int) + 1 - (((i : Nat) : Int) + 1)).toNat = n - i := by omega
      refine ⟨_, rfl, _, _, rfl, rfl, _, rfl, _, _, rfl, rfl, _, _, rfl, ⟨by omega, by omega, by omega, by omega⟩, ?_⟩
      refine for_range (lo := ((i : Nat) : Int) + 1) (fun k σ H' => ∃ y8 y9 y10 y11, σ = [some (.ref a), some (.ref b), some (.ref av), some (.int (n : Int)), some (.ref u1), some (.ref u2), y6, some (.int (i : Int)), y8, y9, y10, y11, none] ∧ Same H4 H' ∧ ∀ m, m ≤ k → i + m ≤ n → lowAt (sm ss) (sm rs) B (i, m) = true) ⟨_, _, _, _, rfl, s5, fun m hm hmn => by rw [show m = 0 by omega]; exact low0 i (by omega)⟩ ?_ ?_
      · rintro k σ H6 hk ⟨y8, y9, y10, y11, rfl, s6, hlowi⟩
        rw [en1] at hk
        have ej : ((i : Nat) : Int) + 1 + ((k : Nat) : Int) = ((i + (k + 1) : Nat) : Int) := by omega
        rw [ej]
        have en2 : (((i + (k + 1) : Nat) : Int) - ((i : Nat) : Int)).toNat = k + 1 := by omega
        refine ⟨_, rfl, _, rfl, _, _, rfl, ⟨by omega, by omega, by omega, by omega⟩, ?_⟩
        refine for_range (lo := ((i : Nat) : Int)) (fun t σ H' => ∃ y9 y10 y11, σ = [some (.ref a), some (.ref b), some (.ref av), some (.int (n : Int)), some (.ref u1), some (.ref u2), y6, some (.int (i : Int)), some (.int ((i + (k + 1) : Nat) : Int)), y9, y10, y11, none] ∧ Same H4 H' ∧ ∀ t', t' < t → B i (k + 1) ≤ B i t' + B (i + t' + 1) (k - t') + cst (sm ss) (sm rs) i (k + 1) t') ⟨_, _, _, rfl, s6, by intro t' ht; omega⟩ ?_ ?_
        · rintro t σ H7 ht ⟨y9, y10, y11, rfl, s7, hroots⟩
          rw [en2] at ht
          have et : ((i : Nat) : Int) + ((t : Nat) : Int) = ((i + t : Nat) : Int) := by omega
          have et1 : ((i + t : Nat) : Int) + 1 = ((i + t + 1 : Nat) : Int) := by omega
          have et2 : ((i + t : Nat) : Int) - ((i : Nat) : Int) = ((t : Nat) : Int) := by omega
          have et3 : ((i + (k + 1) : Nat) : Int) - ((i + t : Nat) : Int) - 1 = ((k - t : Nat) : Int) := by omega
          have et4 : ((i + (k + 1) : Nat) : Int) - ((i : Nat) : Int) = ((k + 1 : Nat) : Int) := by omega
          rw [et]
          have C1 := s7 _ _ G1
          have C2 := s7 _ _ G2
          have hS7 := Same.tup s7 hS
          obtain ⟨ri, hri, hRi⟩ := hrow i (by omega)
          obtain ⟨rj, hrj, hRj⟩ := hrow (i + t + 1) (by omega)
          have hRi7 := Same.tup s7 hRi
          have hRj7 := Same.tup s7 hRj
          refine ⟨.ref u1, rfl, _, rfl, _, _, rfl, rfl, u1, _, _, _, rfl, rfl, .inl (.inl C1), (by rw [et1]; exact atI_nat (sms_at (by omega))), .ref u1, rfl, _, rfl, u1, _, _, _, rfl, rfl, .inl (.inl C1), atI_nat (sms_at (by omega)), _, _, rfl, rfl, ?_⟩
          refine ⟨.ref u2, rfl, _, rfl, u2, _, _, _, rfl, rfl, .inl (.inl C2), atI_nat (sms_at (by omega)), _, _, rfl, rfl, .ref u2, rfl, _, rfl, u2, _, _, _, rfl, rfl, .inl (.inl C2), atI_nat (sms_at (by omega)), _, _, rfl, rfl, ?_⟩
          refine ⟨.ref av, rfl, _, rfl, av, _, _, .ref ri, rfl, rfl, hS7, atI_nat hri, _, rfl, _, rfl, _, _, rfl, rfl, ri, _, _, .int (B i t), rfl, rfl, hRi7, (by rw [et2]; exact atI_nat (by rw [List.getElem?_map, rowB_at (by omega)]; rfl)), ?_⟩
          refine ⟨.ref av, rfl, _, rfl, _, _, rfl, rfl, av, _, _, .ref rj, rfl, rfl, hS7, (by rw [et1]; exact atI_nat hrj), _, rfl, _, rfl, _, _, rfl, rfl, _, _, rfl, rfl, rj, _, _, .int (B (i + t + 1) (k - t)), rfl, rfl, hRj7, (by rw [et3]; exact atI_nat (by rw [List.getElem?_map, rowB_at (by omega)]; rfl)), _, _, rfl, rfl, ?_⟩
          refine ⟨.ref av, rfl, _, rfl, av, _, _, .ref ri, rfl, rfl, hS7, atI_nat hri, _, rfl, _, rfl, _, _, rfl, rfl, ri, _, _, .int (B i (k + 1)), rfl, rfl, hRi7, (by rw [et4]; exact atI_nat (by rw [List.getElem?_map, rowB_at (by omega)]; rfl)), _, rfl, _, rfl, _, _, rfl, rfl, _, _, rfl, rfl, _, rfl, ?_⟩
          have ec : cst (sm ss) (sm rs) i (k + 1) t = sm ss (i + t + 1) - sm ss i + sm rs (i + (k + 1)) - sm rs (i + t) := rfl
          by_cases hv : B i t + B (i + t + 1) (k - t) + (sm ss (i + t + 1) - sm ss i + sm rs (i + (k + 1)) - sm rs (i + t)) < B i (k + 1)
          · refine decT hv ?_
            have := q' _ (s14.trans s7)
            rw [okTab_false (i := i) (m := k + 1) (by omega) (by
              cases hh : lowAt (sm ss) (sm rs) B (i, k + 1) with
              | false => rfl
              | true =>
                have := lowAt_iff.mp hh t (by omega)
                omega), Bool.and_false] at this
            exact this
          · refine decF hv ?_
            refine ⟨_, _, _, rfl, s7, fun t' ht' => ?_⟩
            by_cases e : t' = t
            · subst e; omega
            · exact hroots t' (by omega)
        · rintro σ H7 ⟨y9, y10, y11, rfl, s7, hroots⟩
          rw [en2] at hroots
          refine ⟨_, _, _, _, rfl, s7, fun m hm hmn => ?_⟩
          by_cases e : m = k + 1
          · subst e
            exact lowAt_iff.mpr fun t ht => hroots t (by omega)
          · exact hlowi m (by omega) hmn
      · rintro σ H6 ⟨y8, y9, y10, y11, rfl, s6, hlowi⟩
        rw [en1] at hlowi
        refine ⟨_, _, _, _, _, rfl, s6, fun i' m hi2 hm => ?_⟩
        by_cases e : i' = i
        · subst e; exact hlowi m (by omega) hm
        · exact hlow i' m (by omega) hm
    · rintro σ H5 ⟨y7, y8, y9, y10, y11, rfl, s5, hlow⟩
      have := q' _ (s14.trans s5)
      rw [okTab_iff.mpr fun i m hi => by
        by_cases e : i < n
        · exact hlow i m (by omega) hi
        · rw [show m = 0 by omega]; exact low0 i (by omega)] at this
      exact this
end
def updB (B : Nat → Nat → Int) (i m : Nat) (x : Int) : Nat → Nat → Int := fun i' m' => if i' = i ∧ m' = m then x else B i' m'
theorem updB_same {B : Nat → Nat → Int} {i m : Nat} {x : Int} : updB B i m x i m = x := if_pos ⟨rfl, rfl⟩
theorem updB_ne {B : Nat → Nat → Int} {i m i' m' : Nat} {x : Int} (h : ¬ (i' = i ∧ m' = m)) : updB B i m x i' m' = B i' m' := if_neg h
theorem rowB_set {B : Nat → Nat → Int} {n i m : Nat} {x : Int} (h : i + m ≤ n) : (rowB B n i).set m x = rowB (updB B i m x) n i := by
  refine List.ext_getElem? fun j => ?_
  rw [List.getElem?_set]
  by_cases hj : i + j ≤ n
  · rw [rowB_at hj]
    by_cases e : m = j
    · subst e
      rw [if_pos rfl, if_pos (by rw [rowB_len]; omega), rowB_at hj, updB_same]
    · rw [if_neg e, rowB_at hj, updB_ne (fun z => e z.2.symm)]
  · rw [if_neg (by omega), List.getElem?_eq_none (by rw [rowB_len]; omega), List.getElem?_eq_none (by rw [rowB_len]; omega)]
theorem rowB_ne {B : Nat → Nat → Int} {n i j m : Nat} {x : Int} (h : j ≠ i) : rowB (updB B i m x) n j = rowB B n j := by
  unfold rowB
  refine List.map_congr_left fun k _ => updB_ne (fun z => h z.1)
/-- lists of the rows of a table -/
def RowsB (H : Hp) (A : Addr) (as : List Addr) (B : Nat → Nat → Int) (n : Nat) : Prop :=
  H A = some (.lst (as.map V.ref)) ∧ as.length = n + 1 ∧ as.Nodup ∧ (∀ a, a ∈ as → a ≠ A) ∧ ∀ i a, as[i]? = some a → H a = some (.lst ((rowB B n i).map V.int))
theorem RowsB.same {H H' : Hp} {A : Addr} {as : List Addr} {B : Nat → Nat → Int} {n : Nat} (h : RowsB H A as B n) (e : Same H H') : RowsB H' A as B n :=
  ⟨e _ _ h.1, h.2.1, h.2.2.1, h.2.2.2.1, fun i a ha => e _ _ (h.2.2.2.2 i a ha)⟩
theorem RowsB.but {H H' : Hp} {A p : Addr} {as : List Addr} {B : Nat → Nat → Int} {n : Nat} (h : RowsB H A as B n) (e : But p H H') (h1 : A ≠ p) (h2 : ∀ a, a ∈ as → a ≠ p) : RowsB H' A as B n :=
  ⟨e _ _ h1 h.1, h.2.1, h.2.2.1, h.2.2.2.1, fun i a ha => e _ _ (h2 a (List.mem_of_getElem? ha)) (h.2.2.2.2 i a ha)⟩
theorem RowsB.set {H : Hp} {A : Addr} {as : List Addr} {B : Nat → Nat → Int} {n i m : Nat} {a : Addr} {x : Int} (h : RowsB H A as B n) (ha : as[i]? = some a) (hm : i + m ≤ n) : RowsB (upd H a (.lst (((rowB B n i).map V.int).set m (V.int x)))) A as (updB B i m x) n := by
  obtain ⟨h1, h2, h3, h4, h5⟩ := h
  have hmem : a ∈ as := List.mem_of_getElem? ha
  refine ⟨by rw [upd_ne (h4 a hmem).symm]; exact h1, h2, h3, h4, fun j b hb => ?_⟩
  by_cases e : j = i
  · subst e
    rw [ha] at hb
    cases hb
    rw [upd_same, ← List.map_set, rowB_set hm]
  · rw [rowB_ne e, upd_ne]
    · exact h5 j b hb
    · intro eb
      subst eb
      exact e ((List.getElem?_inj (List.getElem?_eq_some_iff.mp hb).1 h3).mp (hb.trans ha.symm))
theorem low_upd {S R : Nat → Int} {B : Nat → Nat → Int} {i lg i' m' : Nat} {x : Int} (h : lowAt S R B (i', m') = true) (hne : ¬ (i' = i ∧ m' = lg)) (hle : m' ≤ lg) : lowAt S R (updB B i lg x) (i', m') = true := by
  cases m' with
  | zero =>
    unfold lowAt at h ⊢
    rw [if_pos rfl] at h ⊢
    dsimp only at h ⊢
    rw [updB_ne hne]; exact h
  | succ m =>
    rw [lowAt_iff] at h ⊢
    intro k hk
    rw [updB_ne hne, updB_ne (i' := i') (m' := k) (by omega), updB_ne (i' := i' + k + 1) (m' := m - k) (by omega)]
    exact h k hk
theorem low_new {S R : Nat → Int} {B : Nat → Nat → Int} {i lg : Nat} {x : Int} (h0 : lg = 0 → x ≤ 0) (h : ∀ k, k < lg → x ≤ B i k + B (i + k + 1) (lg - 1 - k) + cst S R i lg k) : lowAt S R (updB B i lg x) (i, lg) = true := by
  cases lg with
  | zero =>
    unfold lowAt
    rw [if_pos rfl]
    dsimp only
    rw [updB_same]
    exact decide_eq_true (h0 rfl)
  | succ m =>
    rw [lowAt_iff]
    intro k hk
    rw [updB_same, updB_ne (i' := i) (m' := k) (by omega), updB_ne (i' := i + k + 1) (m' := m - k) (by omega)]
    have := h k (by omega)
    rwa [show m + 1 - 1 - k = m - k by omega] at this
theorem row0 {B : Nat → Nat → Int} {n i : Nat} {x : Int} (hi : i ≤ n) (h0 : ∀ m, 0 < m → B i m = 0) : [V.int x] ++ (List.replicate (n - i) [V.int 0]).flatten = (rowB (updB B i 0 x) n i).map V.int := by
  have e : (List.replicate (n - i) [V.int 0]).flatten = List.replicate (n - i) (V.int 0) := by
    generalize n - i = k
    induction k with
    | zero => rfl
    | succ k ih => rw [List.replicate_succ, List.flatten_cons, ih, List.replicate_succ]; rfl
  rw [e]
  refine List.ext_getElem? fun j => ?_
  rw [List.getElem?_map]
  by_cases hj : i + j ≤ n
  · rw [rowB_at hj]
    cases j with
    | zero => rw [updB_same]; rfl
    | succ j =>
      rw [updB_ne (by omega), h0 _ (by omega)]
      show (List.replicate (n - i) (V.int 0))[j]? = _
      rw [List.getElem?_replicate, if_pos (by omega)]; rfl
  · rw [List.getElem?_eq_none (by simp; omega), List.getElem?_eq_none (by rw [rowB_len]; omega)]; rfl
section
variable {P : Program} {w : World} {K : PySem.W.Frag} {mg : Str → Option Value} {base : Heap}
def sp_L_lowered (K : PySem.W.Frag) : Sp := fun vs H Q _ => ∃ (a b c : Addr) (ss rs : List Int) (N : Int), vs = [.ref a, .ref b, .ref c] ∧ Pot H a N ∧ N ≤ 800000 ∧ SqT K H b (ss.map V.int) ∧ SqT K H c (rs.map V.int) ∧ Lds ss ∧ Lds rs ∧ ss.length = rs.length ∧ ss.length ≤ 8 ∧
  ∀ H' p B, But a H H' → Pot H' a (N + 200) → okTab (sm ss) (sm rs) B ss.length = true → (∀ i m, i + m ≤ ss.length → -1000 ≤ B i m ∧ B i m ≤ 7200000000000) → Dp K H' (.ref p) (dTab B ss.length) → Q (.ref p) H'
theorem ok_L_lowered (TX : Tx K mg) : FnOk P w K mg base CX0 3 TX.a_L_lowered TX.fd_L_lowered ["_law_pot_here", "_law_bulk", "_law_looks"] (sp_L_lowered K) := by
  refine TX.f_L_lowered.ok sc_L_lowered (fun vs H Q E h => ?_) (fun cdv A outer s H vs Q E hr h => ?_)
  · obtain ⟨a, b, c, ss, rs, N, rfl, _⟩ := h; rfl
  · obtain ⟨a, b, c, ss, rs, N, rfl, hp, hN, hB, hC, dS, dR, he, h1, q⟩ := h
    refine ⟨_, (pss_cons (ps_asg (pe_tup (pa_cons (pe_callB (id := "len") (k_len (K := K) rfl) (by rfl) TX.b_len (by decide +kernel) (pa_cons (pv 1) pa_nil)) (pa_cons (pe_call (ok_L_sums TX) (hr.mono (by decide)) (by rfl) TX.g_L_sums TX.f_L_sums.kp TX.bd_L_sums .nil pass0 (pa_cons (pv 1) pa_nil)) (pa_cons (pe_call (ok_L_sums TX) (hr.mono (by decide)) (by rfl) TX.g_L_sums TX.f_L_sums.kp TX.bd_L_sums .nil pass0 (pa_cons (pv 2) pa_nil)) pa_nil)))) (pg_tup rfl (pgs_cons (pg_name (i := 3) sc_L_lowered.nd rfl (.inr rfl)) (pgs_cons (pg_name (i := 4) sc_L_lowered.nd rfl (.inl rfl)) (pgs_cons (pg_name (i := 5) sc_L_lowered.nd rfl (.inl rfl)) pgs_nil)))))
      (pss_cons (ps_setLc (i := 6) (own := [("_law_i", 8)]) (by rfl) sc_L_lowered.nd rfl rfl (sw_true rfl rfl rfl (by decide +kernel)) (pi_range1 (by rfl) TX.b_range (pa_cons (pe_op op_add (pv 3) pe_int) pa_nil)) (blkOk_by (own := [("_law_i", 8)]) (N := N_L_lowered) (sc := defScope s_L_lowered) (by decide +kernel)) (fun _ _ _ _ _ => (pg_name (i := 8) sc_L_lowered.nd rfl (Or.inl rfl))) (fun _ _ _ _ _ => pts_nil) (fun _ _ _ _ _ => (pe_op op_cat (pe_lst (pa_cons (pe_op op_sub pe_int (pe_call (ok_L_of TX) (hr.mono (by decide)) (by rfl) TX.g_L_of TX.f_L_of.kp TX.bd_L_of .nil pass0 (pa_cons (pv 0) (pa_cons (pe_lst (pa_cons pe_int (pa_cons pe_int (pa_cons pe_int (pa_cons pe_int pa_nil))))) pa_nil)))) pa_nil)) (pe_op op_rep (pe_lst (pa_cons pe_int pa_nil)) (pe_op op_sub (pv 3) (pv 8))))))
      (pss_cons (ps_for PassesOwn.never rfl (pi_range2 (by rfl) TX.b_range (pa_cons pe_int (pa_cons (pe_op op_add (pv 3) pe_int) pa_nil))) (pg_name (i := 7) sc_L_lowered.nd rfl (.inl rfl))
        (pss_one (ps_for PassesOwn.never rfl (pi_range1 (by rfl) TX.b_range (pa_cons (pe_op op_sub (pe_op op_add (pv 3) pe_int) (pv 7)) pa_nil)) (pg_name (i := 8) sc_L_lowered.nd rfl (.inl rfl))
          (pss_cons (ps_par (i := 9) (j := 10) (by rfl) sc_L_lowered.nd rfl rfl (by decide) rfl rfl (pa_cons (pe_op op_add (pv 8) (pv 7)) (pa_cons (pe_lst pa_nil) pa_nil)) (by rfl))
          (pss_cons (ps_for PassesOwn.never rfl (pi_range2 (by rfl) TX.b_range (pa_cons (pv 8) (pa_cons (pv 9) pa_nil))) (pg_name (i := 11) sc_L_lowered.nd rfl (.inl rfl))
            (pss_cons (ps_set (i := 12) sc_L_lowered.nd rfl (.inl rfl) (pe_op op_sub (pe_op op_add (pe_op op_sub (pe_ix (k_ixL (K := K) rfl) (pv 4) (pe_op op_add (pv 11) pe_int) (fun _ _ => rfl)) (pe_ix (k_ixL (K := K) rfl) (pv 4) (pv 8) (fun _ _ => rfl))) (pe_ix (k_ixL (K := K) rfl) (pv 5) (pv 9) (fun _ _ => rfl))) (pe_ix (k_ixL (K := K) rfl) (pv 5) (pv 11) (fun _ _ => rfl))))
            (pss_cons (ps_set (i := 13) sc_L_lowered.nd rfl (.inl rfl) (pe_op op_add (pe_ix (k_ixL (K := K) rfl) (pe_ix (k_ixL (K := K) rfl) (pv 6) (pv 8) (fun _ _ => rfl)) (pe_op op_sub (pv 11) (pv 8)) (fun _ _ => rfl)) (pe_ix (k_ixL (K := K) rfl) (pe_ix (k_ixL (K := K) rfl) (pv 6) (pe_op op_add (pv 11) pe_int) (fun _ _ => rfl)) (pe_op op_sub (pe_op op_sub (pv 9) (pv 11)) pe_int) (fun _ _ => rfl))))
            (pss_one (ps_expr (pe_bm PySem.F.plainAttrs_list PySem.F.slot_list_append PySem.F.type_list_append mt_append (pv 10) (pa_cons (pe_op op_add (pv 13) (pv 12)) pa_nil)))))))
          (pss_one (ps_asg (pe_op op_sub (pe_callB (id := "min") (cr_min rfl) (by rfl) TX.b_min (by decide +kernel) (pa_cons (pv 10) pa_nil)) (pe_call (ok_L_of TX) (hr.mono (by decide)) (by rfl) TX.g_L_of TX.f_L_of.kp TX.bd_L_of .nil pass0 (pa_cons (pv 0) (pa_cons (pe_lst (pa_cons pe_int (pa_cons pe_int (pa_cons pe_int (pa_cons pe_int (pa_cons pe_int pa_nil)))))) pa_nil)))) (pg_sub (pe_ix (k_ixL (K := K) rfl) (pv 6) (pv 8) (fun _ _ => rfl)) (pv 7) set_list))))))))
      (pss_one (ps_ret (pe_callTy (T := "tuple") (k_tupOf (K := K) rfl) (by rfl) TX.b_tuple (by decide +kernel) (pa_cons (pe_lc (own := [("_law_row", 14)]) (by rfl) sc_L_lowered.nd (k_piL (K := K) rfl (pv 6)) (blkOk_by (own := [("_law_row", 14)]) (N := N_L_lowered) (sc := defScope s_L_lowered) (by decide +kernel)) (fun _ _ _ _ _ => (pg_name (i := 14) sc_L_lowered.nd rfl (Or.inl rfl))) (fun _ _ _ _ _ => pts_nil) (fun _ _ _ _ _ => (pe_callTy (T := "tuple") (k_tupOf (K := K) rfl) (by rfl) TX.b_tuple (by decide +kernel) (pa_cons (pv 14) pa_nil)))) pa_nil))))))), ?_⟩
    obtain ⟨n, hn⟩ : ∃ n, n = ss.length := ⟨_, rfl⟩
    have hlen : ((ss.map V.int).length : Int) = (n : Int) := by rw [List.length_map, hn]
    have mS := lds_mono dS
    have mR := lds_mono dR
    rw [← hn] at q h1
    refine ⟨.ref b, rfl, b, _, rfl, .inr hB, ?_⟩
    refine ⟨.ref b, rfl, b, ss, rfl, hB, by omega, fun H1 u1 s1 n1 g1 => ?_⟩
    refine ⟨.ref c, rfl, c, rs, rfl, Same.tup s1 hC, by omega, fun H2' u2 s2 n2 g2 => ?_⟩
    rw [hlen]
    refine ⟨sz60 (by simp), fun o no => ?_⟩
    have s3 := same_upd (o := .tup [V.int (n : Int), V.ref u1, V.ref u2]) no
    refine ⟨o, _, rfl, .inl (.inl upd_same), rfl, _, _, rfl, _, _, rfl, _, _, rfl, rfl, ?_⟩
    have g1' := s3 _ _ (s2 _ _ g1)
    have g2' := s3 _ _ g2
    have s12 := (s1.trans s2).trans s3
    generalize upd H2' o (.tup [V.int (n : Int), V.ref u1, V.ref u2]) = H2 at *
    clear s3 no
    have p2 := hp.same s12
    have nu1 : u1 ≠ a := hp.ne n1
    have nu2 : u2 ≠ a := (hp.same s1).ne n2
    have en : (((n : Int) + 1)).toNat = n + 1 := by omega
    refine ⟨_, rfl, _, _, rfl, rfl, _, rfl, by omega, by omega, fun D nD => ?_⟩
    have nDa : D ≠ a := p2.ne nD
    refine lc_it walk_range (fun i H' => But a H2 H' ∧ Pot H' a (N + (i : Int)) ∧ ∃ (as : List Addr) (B : Nat → Nat → Int), H' D = some (.lst (as.map V.ref)) ∧ as.length = i ∧ as.Nodup ∧ (∀ z, z ∈ as → z ≠ D ∧ z ≠ a ∧ H2 z = none) ∧ (∀ j z, as[j]? = some z → H' z = some (.lst ((rowB B n j).map V.int))) ∧ (∀ j, -5 ≤ B j 0 ∧ B j 0 ≤ 0) ∧ ∀ j m, 0 < m → B j m = 0) ⟨But.of (same_upd nD), (p2.same (same_upd nD)).mono (by omega), [], fun _ _ => 0, upd_same, rfl, List.nodup_nil, (by simp), (by simp), (fun j => ⟨show (-5 : Int) ≤ 0 by decide, show (0 : Int) ≤ 0 by decide⟩), (fun _ _ _ => rfl)⟩ (fun _ _ _ _ => trivial) ?_ ?_
    · rintro i x H3 H3' hi ⟨b3, p3, as, B, f1, f2, f3, f4, f5, f6, f7⟩ hy
      obtain ⟨rfl, rfl⟩ := hy
      have hi' : i ≤ n := by omega
      refine ⟨rfl, yesT ⟨.ref a, rfl, sz60 (by simp), fun l1 nl1 => ⟨a, l1, _, _, rfl, p3.same (same_upd nl1), by omega, upd_same, p3.ne nl1, by simp, by simp, fun H4 v b4 p4 hv => ?_⟩⟩⟩
      obtain ⟨dl, rfl, hd0, hd1⟩ : ∃ x : Int, v = .int x ∧ 0 ≤ x ∧ x ≤ 5 := by
        simp only [List.mem_cons, List.not_mem_nil, or_false] at hv
        rcases hv with rfl | rfl | rfl | rfl
        all_goals exact ⟨_, rfl, by decide, by decide⟩
      refine ⟨_, _, rfl, rfl, sz60 (by simp), fun l2 nl2 => ⟨sz60 (by simp), fun l3 nl3 => ⟨_, rfl, _, rfl, _, _, rfl, rfl, l3, _, [V.int 0], rfl, rfl, upd_same, by omega, by omega, sz60 (by simp; omega), fun l4 nl4 => ?_⟩⟩⟩
      have t2 := same_upd (o := .lst [V.int (0 - dl)]) nl2
      have t3 := same_upd (o := .lst [V.int 0]) nl3
      have ek : ((n : Int) - (0 + ((i : Nat) : Int))).toNat = n - i := by omega
      rw [ek]
      have t4 := same_upd (o := .lst (List.replicate (n - i) [V.int 0]).flatten) nl4
      refine ⟨l2, l4, _, _, rfl, rfl, t4 _ _ (t3 _ _ upd_same), upd_same, sz60 (by simp; omega), fun p np => ?_⟩
      have t5 := same_upd (o := .lst ([V.int (0 - dl)] ++ (List.replicate (n - i) [V.int 0]).flatten)) np
      have hp5 := upd_same (H := upd (upd (upd H4 l2 (.lst [V.int (0 - dl)])) l3 (.lst [V.int 0])) l4 (.lst (List.replicate (n - i) [V.int 0]).flatten)) (a := p) (o := .lst ([V.int (0 - dl)] ++ (List.replicate (n - i) [V.int 0]).flatten))
      have s15 := ((t2.trans t3).trans t4).trans t5
      have b35 : But a H3' _ := ((But.of (same_upd nl1)).trans b4).trans (But.of s15)
      have p5 := p4.same s15
      have npH : H4 p = none := ((t2.trans t3).trans t4).free np
      generalize upd (upd (upd (upd H4 l2 _) l3 _) l4 _) p _ = G at *
      rw [row0 hi' (f7 i)] at hp5
      clear t2 t3 t4 t5 nl2 nl3 nl4 np
      have npa : p ≠ a := p4.ne npH
      have npH3 : H3' p = none := But.free ((But.of (same_upd nl1)).trans b4) npH npa
      have npD : p ≠ D := fun e => by rw [e, f1] at npH3; cases npH3
      have npA : ∀ z, z ∈ as → z ≠ p := fun z hz e => by
        obtain ⟨j, hj⟩ := List.mem_iff_getElem?.mp hz
        rw [← e, f5 j z hj] at npH3; cases npH3
      refine ⟨as.map V.ref, b35 _ _ nDa f1, sz61 (by rw [List.length_map]; omega), But.mut (b3.trans b35) nD, (p5.upd nDa).mono (by omega), as ++ [p], updB B i 0 (0 - dl), ?_, by simp [f2], ?_, ?_, ?_, ?_, ?_⟩
      · rw [upd_same, List.map_append]; rfl
      · rw [List.nodup_append]
        exact ⟨f3, by simp, fun c hc d hd => by rw [List.mem_singleton.mp hd]; exact npA c hc⟩
      · intro z hz
        rcases List.mem_append.mp hz with hz | hz
        · exact f4 z hz
        · rw [List.mem_singleton.mp hz]
          exact ⟨npD, npa, But.free b3 npH3 npa⟩
      · intro j z hz
        by_cases hj : j < as.length
        · rw [List.getElem?_append_left hj] at hz
          rw [upd_ne (f4 z (List.mem_of_getElem? hz)).1, rowB_ne (by omega)]
          exact b35 _ _ (f4 z (List.mem_of_getElem? hz)).2.1 (f5 j z hz)
        · rw [List.getElem?_append_right (by omega)] at hz
          have hj0 : j - as.length = 0 := by
            have := (List.getElem?_eq_some_iff.mp hz).1
            simp at this
            omega
          rw [hj0] at hz
          cases hz
          rw [upd_ne npD, show j = i by omega]
          exact hp5
      · intro j
        by_cases e : j = i
        · subst e; rw [updB_same]; omega
        · rw [updB_ne (fun z => e z.1)]; exact f6 j
      · intro j m hm
        rw [updB_ne (fun z => by omega)]; exact f7 j m hm
    rintro H3 ⟨b3, p3, as, B0, f1, f2, f3, f4, f5, f6, f7⟩
    rw [en] at f2 p3
    have hRB : RowsB H3 D as B0 n := ⟨f1, f2, f3, fun z hz => (f4 z hz).1, f5⟩
    have naa : ∀ z, z ∈ as → z ≠ a := fun z hz => (f4 z hz).2.1
    have en1 : ((n : Int) + 1 - 1).toNat = n := by omega
    clear f1 f5 f3
    refine ⟨_, rfl, _, _, rfl, rfl, _, _, rfl, ⟨by omega, by omega, by omega, by omega⟩, for_range (lo := 1) (fun lg σ H' => ∃ y7 y8 y9 y10 y11 y12 y13 B, σ = [some (.ref a), some (.ref b), some (.ref c), some (.int (n : Int)), some (.ref u1), some (.ref u2), some (.ref D), y7, y8, y9, y10, y11, y12, y13, none] ∧ But a H2 H' ∧ Pot H' a (N + 9 + 9 * (lg : Int)) ∧ RowsB H' D as B n ∧ (∀ i m, i + m ≤ n → -(12 * (m : Int) + 5) ≤ B i m) ∧ ∀ i m, i + m ≤ n → m ≤ lg → lowAt (sm ss) (sm rs) B (i, m) = true)
      ⟨_, _, _, _, _, _, _, B0, rfl, b3, p3.mono (by omega), hRB, (fun i m _ => ?_), fun i m hi hm => ?_⟩ ?_ ?_⟩
    · cases m with
      | zero => have := f6 i; omega
      | succ m => rw [f7 i (m + 1) (by omega)]; omega
    · have e0 : m = 0 := by omega
      subst e0
      unfold lowAt
      rw [if_pos rfl]
      exact decide_eq_true (f6 i).2
    · rintro lg σ H4 hlg ⟨y7, y8, y9, y10, y11, y12, y13, B, rfl, b4, p4, hB4, hge, hlow⟩
      rw [en1] at hlg
      have el : (1 : Int) + ((lg : Nat) : Int) = ((lg + 1 : Nat) : Int) := by omega
      rw [el]
      have en2 : ((n : Int) + 1 - ((lg + 1 : Nat) : Int)).toNat = n - lg := by omega
      refine ⟨_, rfl, _, _, rfl, rfl, _, rfl, _, _, rfl, rfl, _, rfl, by omega, by omega, for_range (lo := 0) (fun i σ H' => ∃ y8 y9 y10 y11 y12 y13 B, σ = [some (.ref a), some (.ref b), some (.ref c), some (.int (n : Int)), some (.ref u1), some (.ref u2), some (.ref D), some (.int ((lg + 1 : Nat) : Int)), y8, y9, y10, y11, y12, y13, none] ∧ But a H2 H' ∧ Pot H' a (N + 9 + 9 * (lg : Int) + (i : Int)) ∧ RowsB H' D as B n ∧ (∀ i m, i + m ≤ n → -(12 * (m : Int) + 5) ≤ B i m) ∧ ∀ i' m, i' + m ≤ n → (m ≤ lg ∨ (m = lg + 1 ∧ i' < i)) → lowAt (sm ss) (sm rs) B (i', m) = true)
        ⟨_, _, _, _, _, _, B, rfl, b4, p4.mono (by omega), hB4, hge, fun i m hi h => hlow i m hi (by omega)⟩ ?_ ?_⟩
      · rintro i σ H5 hi ⟨y8, y9, y10, y11, y12, y13, B, rfl, b5, p5, hB5, hge, hlow⟩
        rw [en2] at hi
        have ei : (0 : Int) + ((i : Nat) : Int) = ((i : Nat) : Int) := by omega
        have eij : ((i : Nat) : Int) + ((lg + 1 : Nat) : Int) = ((i + (lg + 1) : Nat) : Int) := by omega
        rw [ei]
        have hia : i < as.length := by omega
        have hsc := List.getElem?_eq_getElem hia
        generalize as[i] = ai at hsc
        have hmi := List.mem_of_getElem? hsc
        have hrow5 := hB5.2.2.2.2 i ai hsc
        refine ⟨_, rfl, _, rfl, _, _, rfl, rfl, ?_⟩
        dsimp only
        rw [eij]
        refine ⟨sz60 (by simp), fun l nl => ?_⟩
        have s6 := same_upd (o := .lst []) nl
        have en3 : (((i + (lg + 1) : Nat) : Int) - ((i : Nat) : Int)).toNat = lg + 1 := by omega
        refine ⟨_, _, rfl, _, rfl, _, rfl, _, _, rfl, ⟨by omega, by omega, by omega, by omega⟩, ?_⟩
        refine for_range (lo := ((i : Nat) : Int)) (fun t σ H' => ∃ y11 y12 y13, σ = [some (.ref a), some (.ref b), some (.ref c), some (.int (n : Int)), some (.ref u1), some (.ref u2), some (.ref D), some (.int ((lg + 1 : Nat) : Int)), some (.int (i : Int)), some (.int ((i + (lg + 1) : Nat) : Int)), some (.ref l), y11, y12, y13, none] ∧ Same H5 H' ∧ H' l = some (.lst (((List.range t).map fun k => B i k + B (i + k + 1) (lg - k) + cst (sm ss) (sm rs) i (lg + 1) k).map V.int))) ⟨_, _, _, rfl, s6, upd_same⟩ ?_ ?_
        · rintro t σ H7 ht ⟨y11, y12, y13, rfl, s7, hl7⟩
          rw [en3] at ht
          have et : ((i : Nat) : Int) + ((t : Nat) : Int) = ((i + t : Nat) : Int) := by omega
          have et1 : ((i + t : Nat) : Int) + 1 = ((i + t + 1 : Nat) : Int) := by omega
          have et2 : ((i + t : Nat) : Int) - ((i : Nat) : Int) = ((t : Nat) : Int) := by omega
          have et3 : ((i + (lg + 1) : Nat) : Int) - ((i + t : Nat) : Int) - 1 = ((lg - t : Nat) : Int) := by omega
          rw [et]
          have C1 := s7 _ _ (b5 _ _ nu1 g1')
          have C2 := s7 _ _ (b5 _ _ nu2 g2')
          have hB7 := hB5.same s7
          have hjt : i + t + 1 < as.length := by omega
          have hst := List.getElem?_eq_getElem hjt
          generalize as[i + t + 1] = aj at hst
          have hrowj := hB7.2.2.2.2 (i + t + 1) aj hst
          refine ⟨.ref u1, rfl, _, rfl, _, _, rfl, rfl, u1, _, _, _, rfl, rfl, .inl (.inl C1), (by rw [et1]; exact atI_nat (sms_at (by omega))), .ref u1, rfl, _, rfl, u1, _, _, _, rfl, rfl, .inl (.inl C1), atI_nat (sms_at (by omega)), _, _, rfl, rfl, ?_⟩
          refine ⟨.ref u2, rfl, _, rfl, u2, _, _, _, rfl, rfl, .inl (.inl C2), atI_nat (sms_at (by omega)), _, _, rfl, rfl, .ref u2, rfl, _, rfl, u2, _, _, _, rfl, rfl, .inl (.inl C2), atI_nat (sms_at (by omega)), _, _, rfl, rfl, ?_⟩
          refine ⟨.ref D, rfl, _, rfl, D, _, _, .ref ai, rfl, rfl, .inl (.inl hB7.1), atI_nat (by rw [List.getElem?_map, hsc]; rfl), _, rfl, _, rfl, _, _, rfl, rfl, ai, _, _, .int (B i t), rfl, rfl, .inl (.inl (s7 _ _ hrow5)), (by rw [et2]; exact atI_nat (by rw [List.getElem?_map, rowB_at (by omega)]; rfl)), ?_⟩
          refine ⟨.ref D, rfl, _, rfl, _, _, rfl, rfl, D, _, _, .ref aj, rfl, rfl, .inl (.inl hB7.1), (by rw [et1]; exact atI_nat (by rw [List.getElem?_map, hst]; rfl)), _, rfl, _, rfl, _, _, rfl, rfl, _, _, rfl, rfl, aj, _, _, .int (B (i + t + 1) (lg - t)), rfl, rfl, .inl (.inl hrowj), (by rw [et3]; exact atI_nat (by rw [List.getElem?_map, rowB_at (by omega)]; rfl)), _, _, rfl, rfl, ?_⟩
          refine ⟨.ref l, rfl, .inl ⟨rfl, _, .inl (.inl hl7)⟩, _, rfl, _, rfl, _, _, rfl, rfl, l, _, _, rfl, rfl, hl7, sz61 (by simp; omega), ?_⟩
          refine ⟨_, _, _, rfl, Same.mut s7 nl, ?_⟩
          rw [upd_same, List.range_succ, List.map_append, List.map_append]
          rfl
        · rintro σ H7 ⟨y11, y12, y13, rfl, s7, hl7⟩
          rw [en3] at hl7
          refine ⟨.ref l, rfl, l, _, rfl, .inl (.inl hl7), by simp, fun mn hmn hmn2 => ?_⟩
          refine ⟨.ref a, rfl, sz60 (by simp), fun l2 nl2 => ?_⟩
          have s8 := same_upd (o := .lst [V.int 0, V.int 0, V.int 0, V.int 1, V.int 7]) nl2
          have p8 := (p5.same s7).same s8
          refine ⟨a, l2, _, _, rfl, p8, by omega, upd_same, (p5.same s7).ne nl2, by simp, by simp, fun H9 v9 b9 p9 hv => ?_⟩
          obtain ⟨dl, rfl, hdl, hdl2⟩ : ∃ x : Int, v9 = .int x ∧ 0 ≤ x ∧ x ≤ 7 := by
            simp only [List.mem_cons, List.not_mem_nil, or_false] at hv
            rcases hv with rfl | rfl | rfl | rfl | rfl
            all_goals exact ⟨_, rfl, by decide, by decide⟩
          have b59 : But a H5 H9 := ((But.of (s7.trans s8)).trans b9)
          have hB9 := hB5.but b59 nDa naa
          have hrow9 := hB9.2.2.2.2 i ai hsc
          refine ⟨_, _, rfl, rfl, .ref D, rfl, _, rfl, D, _, _, .ref ai, rfl, rfl, .inl (.inl hB9.1), atI_nat (by rw [List.getElem?_map, hsc]; rfl), _, rfl, ai, _, _, lg + 1, rfl, rfl, hrow9, ixN_of (by rw [List.length_map, rowB_len]; omega), ?_⟩
          have hB10 := hB9.set (m := lg + 1) (x := mn - dl) hsc (by omega)
          have nai : ai ≠ a := naa ai hmi
          have hx2 : ∀ k, k < lg + 1 → mn ≤ B i k + B (i + k + 1) (lg - k) + cst (sm ss) (sm rs) i (lg + 1) k := fun k hk => hmn2 _ (List.mem_map.mpr ⟨k, List.mem_range.mpr hk, rfl⟩)
          have hx3 : -(12 * ((lg + 1 : Nat) : Int) + 5) ≤ mn - dl := by
            obtain ⟨k, hk, hke⟩ := List.mem_map.mp hmn
            have hk := List.mem_range.mp hk
            have a1 := hge i k (by omega)
            have a2 := hge (i + k + 1) (lg - k) (by omega)
            have a3 := mS i (i + k + 1) (by omega)
            have a4 := mR (i + k) (i + (lg + 1)) (by omega)
            have ec : cst (sm ss) (sm rs) i (lg + 1) k = sm ss (i + k + 1) - sm ss i + sm rs (i + (lg + 1)) - sm rs (i + k) := rfl
            have ek : ((lg - k : Nat) : Int) = (lg : Int) - (k : Int) := by omega
            rw [ek] at a2
            omega
          refine ⟨_, _, _, _, _, _, updB B i (lg + 1) (mn - dl), rfl, But.mut (b5.trans b59) (f4 ai hmi).2.2, (p9.upd nai).mono (by omega), hB10, fun i' m' him => ?_, fun i' m' him hm' => ?_⟩
          · by_cases e : i' = i ∧ m' = lg + 1
            · obtain ⟨rfl, rfl⟩ := e
              rw [updB_same]
              exact hx3
            · rw [updB_ne e]
              exact hge i' m' him
          · by_cases e : i' = i ∧ m' = lg + 1
            · obtain ⟨rfl, rfl⟩ := e
              refine low_new (fun h0 => absurd h0 (by omega)) fun k hk => ?_
              have := hx2 k hk
              rw [show lg + 1 - 1 - k = lg - k by omega]
              omega
            · exact low_upd (hlow i' m' him (by omega)) e (by omega)
      · rintro σ H5 ⟨y8, y9, y10, y11, y12, y13, B, rfl, b5, p5, hB5, hge, hlow⟩
        rw [en2] at p5 hlow
        exact ⟨_, _, _, _, _, _, _, B, rfl, b5, p5.mono (by omega), hB5, hge, fun i m hi h => hlow i m hi (by omega)⟩
    · rintro σ H4 ⟨y7, y8, y9, y10, y11, y12, y13, B, rfl, b4, p4, hB4, hge, hlow⟩
      rw [en1] at p4 hlow
      have hok : okTab (sm ss) (sm rs) B n = true := okTab_iff.mpr fun i m hi => hlow i m hi (by omega)
      refine ⟨.ref D, rfl, D, rfl, ⟨_, .inl (.inl hB4.1)⟩, fun D2 nD2 => ?_⟩
      refine lc_all (K := K) (walk_list (xs := as.map V.ref)) ((List.range (n + 1)).map fun i => .tuple ((rowB B n i).map PyData.int)) (by simp [f2]) (fun d h => by obtain ⟨i, _, rfl⟩ := List.mem_map.mp h; exact .tup (tf_ints _)) (by rw [List.length_map]; omega) nD2 (fun H' s' => s'.seq (.inl (.inl hB4.1))) ?_ ?_ (fun x σ' H' Q Q' h => h _ _) (fun σ' H' Q Q' h => h _ _)
      · rintro i x Hx Hx' hi sx ⟨rfl, hx⟩ d hd R hR
        rw [List.getElem?_map, Option.map_eq_some_iff] at hx
        obtain ⟨z, hz, rfl⟩ := hx
        rw [List.length_map] at hi
        rw [List.getElem?_map, List.getElem?_range (by omega)] at hd
        cases hd
        have hz3 := sx _ _ (hB4.2.2.2.2 i z hz)
        exact ⟨rfl, rfl, .ref z, rfl, z, _, rfl, .inl ⟨.inl (.inl hz3), fun l nl => hR _ _ (same_upd nl) (dp_tup (.inl (.inl upd_same)))⟩⟩
      · intro H5 acc s5 ha hA5
        refine ⟨D2, _, rfl, .inl ⟨.inl (.inl ha), fun o no => ?_⟩⟩
        have s6 := same_upd (o := .tup acc) no
        refine q _ o B ((But.of s12).trans (b4.trans (But.of (s5.trans s6)))) (((p4.same s5).same s6).mono (by omega)) hok (fun i m hi => ?_) (.tup (.inl (.inl upd_same)) (DpAll.same s6 hA5))
        have a1 := hge i m hi
        have a2 := low_le hok m i hi
        have a3 := (lw_bdI dS dR (i := i) (k := m) (by omega)).2
        omega
end
theorem DpAll.drop {K : PySem.W.Frag} {H : Hp} : ∀ {vs : List V} {ds : List PyData} (n : Nat), DpAll K H vs ds → DpAll K H (vs.drop n) (ds.drop n)
  | _, _, 0, h => h
  | _, _, _ + 1, .nil => .nil
  | _, _, n + 1, .cons a b => DpAll.drop n b
theorem take_set_drop {α : Type} {l : List α} {i : Nat} {x : α} (h : i < l.length) : l.take i ++ [x] ++ l.drop (i + 1) = l.set i x := by
  rw [List.set_eq_take_append_cons_drop, if_pos h]; simp
/-- a row of a table replaced -/
theorem tab_put {K : PySem.W.Frag} {H : Hp} {xs : List V} {B B' : Nat → Nat → Int} {n i : Nat} {r : Addr} (hA : DpAll K H xs ((List.range (n + 1)).map fun i => .tuple ((rowB B n i).map PyData.int))) (hi : i ≤ n) (hr : SqT K H r ((rowB B' n i).map V.int)) (he : ∀ j, j ≠ i → rowB B' n j = rowB B n j) :
    DpAll K H (xs.take i ++ [.ref r] ++ xs.drop (i + 1)) ((List.range (n + 1)).map fun i => .tuple ((rowB B' n i).map PyData.int)) := by
  have e : ((List.range (n + 1)).map fun i => PyData.tuple ((rowB B' n i).map PyData.int)) = ((List.range (n + 1)).map fun i => PyData.tuple ((rowB B n i).map PyData.int)).take i ++ [.tuple ((rowB B' n i).map PyData.int)] ++ ((List.range (n + 1)).map fun i => PyData.tuple ((rowB B n i).map PyData.int)).drop (i + 1) := by
    rw [take_set_drop (by simp; omega)]
    refine List.ext_getElem? fun j => ?_
    rw [List.getElem?_set]
    by_cases hj : j < n + 1
    · rw [List.getElem?_map, List.getElem?_range hj]
      by_cases ej : i = j
      · subst ej
        rw [if_pos rfl, if_pos (by simp; omega)]; rfl
      · rw [if_neg ej, List.getElem?_map, List.getElem?_range hj, Option.map_some, Option.map_some, he j (fun z => ej z.symm)]
    · rw [if_neg (by omega), List.getElem?_eq_none (by simp; omega), List.getElem?_eq_none (by simp; omega)]
  rw [e]
  exact DpAll.append (DpAll.append (DpAll.take i hA) (.cons (dp_tup hr) .nil)) (DpAll.drop (i + 1) hA)
theorem tabAll_row {K : PySem.W.Frag} {H : Hp} {xs : List V} {B : Nat → Nat → Int} {n : Nat} (hA : DpAll K H xs ((List.range (n + 1)).map fun i => .tuple ((rowB B n i).map PyData.int))) : xs.length = n + 1 ∧ ∀ i, i ≤ n → ∃ b, xs[i]? = some (.ref b) ∧ SqT K H b ((rowB B n i).map V.int) := by
  refine ⟨by rw [DpAll.len hA]; simp, fun i hi => ?_⟩
  obtain ⟨x, hx, hD⟩ := DpAll.get hA (i := i) (d := .tuple ((rowB B n i).map PyData.int)) (by rw [List.getElem?_map, List.getElem?_range (by omega)]; rfl)
  obtain ⟨b, rfl, hB⟩ := Dp.intsInv hD
  exact ⟨b, hx, hB⟩
theorem Dp.tabInv {K : PySem.W.Frag} {H : Hp} {v : V} {B : Nat → Nat → Int} {n : Nat} (h : Dp K H v (dTab B n)) : ∃ a xs, v = .ref a ∧ SqT K H a xs ∧ DpAll K H xs ((List.range (n + 1)).map fun i => .tuple ((rowB B n i).map PyData.int)) := Dp.tupInv h
theorem rowB_upd {B : Nat → Nat → Int} {n i m : Nat} {x : Int} (h : i + m ≤ n) : (rowB B n i).take m ++ [x] ++ (rowB B n i).drop (m + 1) = rowB (updB B i m x) n i := by
  rw [take_set_drop (by rw [rowB_len]; omega), rowB_set h]
section
variable {P : Program} {w : World} {K : PySem.W.Frag} {mg : Str → Option Value} {base : Heap}
def sp_L_raised (K : PySem.W.Frag) : Sp := fun vs H Q _ => ∃ (a : Addr) (p : V) (B : Nat → Nat → Int) (n : Nat) (N : Int), vs = [.ref a, p] ∧ Pot H a N ∧ N ≤ 800000 ∧ Dp K H p (dTab B n) ∧ n ≤ 60 ∧
  ∀ H' r i m, i + m ≤ n → But a H H' → Pot H' a (N + 2) → Dp K H' (.ref r) (dTab (updB B i m (B i m + 1)) n) → Q (.ref r) H'
theorem ok_L_raised (TX : Tx K mg) : FnOk P w K mg base CX0 2 TX.a_L_raised TX.fd_L_raised ["_law_pot_here", "_law_rows"] (sp_L_raised K) := by
  refine TX.f_L_raised.ok sc_L_raised (fun vs H Q E h => ?_) (fun cdv A outer s H vs Q E hr h => ?_)
  · obtain ⟨a, p, B, n, N, rfl, _⟩ := h; rfl
  · obtain ⟨a, x0, B, n, N, rfl, hp, hN, hD, hn, q⟩ := h
    refine ⟨_, (pss_cons (ps_set (i := 2) sc_L_raised.nd rfl (.inl rfl) (pe_call (ok_L_take TX) (hr.mono (by decide)) (by rfl) TX.g_L_take TX.f_L_take.kp TX.bd_L_take .nil pass0 (pa_cons (pv 0) (pa_cons (pe_callB (id := "len") (k_len (K := K) rfl) (by rfl) TX.b_len (by decide +kernel) (pa_cons (pv 1) pa_nil)) pa_nil))))
      (pss_cons (ps_set (i := 3) sc_L_raised.nd rfl (.inl rfl) (pe_call (ok_L_take TX) (hr.mono (by decide)) (by rfl) TX.g_L_take TX.f_L_take.kp TX.bd_L_take .nil pass0 (pa_cons (pv 0) (pa_cons (pe_callB (id := "len") (k_len (K := K) rfl) (by rfl) TX.b_len (by decide +kernel) (pa_cons (pe_ix (k_ixT (K := K) rfl) (pv 1) (pv 2) (fun _ _ => rfl)) pa_nil)) pa_nil))))
      (pss_cons (ps_set (i := 4) sc_L_raised.nd rfl (.inl rfl) (pe_op (k_catT (K := K) rfl) (pe_op (k_catT (K := K) rfl) (pe_slice (k_slT (K := K) rfl) (pe_ix (k_ixT (K := K) rfl) (pv 1) (pv 2) (fun _ _ => rfl)) po_none (po_some (pv 3))) (pe_tup (pa_cons (pe_op op_add (pe_ix (k_ixT (K := K) rfl) (pe_ix (k_ixT (K := K) rfl) (pv 1) (pv 2) (fun _ _ => rfl)) (pv 3) (fun _ _ => rfl)) pe_int) pa_nil))) (pe_slice (k_slT (K := K) rfl) (pe_ix (k_ixT (K := K) rfl) (pv 1) (pv 2) (fun _ _ => rfl)) (po_some (pe_op op_add (pv 3) pe_int)) po_none)))
      (pss_one (ps_ret (pe_op (k_catT (K := K) rfl) (pe_op (k_catT (K := K) rfl) (pe_slice (k_slT (K := K) rfl) (pv 1) po_none (po_some (pv 2))) (pe_tup (pa_cons (pv 4) pa_nil))) (pe_slice (k_slT (K := K) rfl) (pv 1) (po_some (pe_op op_add (pv 2) pe_int)) po_none))))))), ?_⟩
    obtain ⟨p, xs, rfl, hS, hA⟩ := Dp.tabInv hD
    obtain ⟨hxl, hrow⟩ := tabAll_row hA
    refine ⟨.ref a, rfl, .ref p, rfl, p, xs, rfl, .inr hS, a, _, _, rfl, hp, by omega, by omega, by omega, fun H1 r1 b1 p1 r10 r11 => ?_⟩
    obtain ⟨i, rfl⟩ : ∃ i : Nat, r1 = (i : Int) := ⟨r1.toNat, by omega⟩
    have hi : i ≤ n := by omega
    obtain ⟨bi, hbi, hRi⟩ := hrow i hi
    have k1 := hp.keep (K := K) b1
    have hS1 := k1 _ _ hS
    have hR1 := k1 _ _ hRi
    have hrl : ((rowB B n i).map V.int).length = n + 1 - i := by rw [List.length_map, rowB_len]
    refine ⟨.ref a, rfl, .ref p, rfl, _, rfl, p, xs, _, .ref bi, rfl, rfl, hS1, atI_nat hbi, bi, _, rfl, .inr hR1, a, _, _, rfl, p1, by omega, by omega, by omega, fun H2 r2 b2 p2 r20 r21 => ?_⟩
    obtain ⟨m, rfl⟩ : ∃ m : Nat, r2 = (m : Int) := ⟨r2.toNat, by omega⟩
    have hm : i + m ≤ n := by omega
    have k2 := p1.keep (K := K) b2
    have hS2 := k2 _ _ hS1
    have hR2 := k2 _ _ hR1
    have hA2 : DpAll K H2 xs ((List.range (n + 1)).map fun i => .tuple ((rowB B n i).map PyData.int)) := DpAll.keep k2 (fun d hd => by obtain ⟨i, _, rfl⟩ := List.mem_map.mp hd; exact .tup (tf_ints _)) (DpAll.keep k1 (fun d hd => by obtain ⟨i, _, rfl⟩ := List.mem_map.mp hd; exact .tup (tf_ints _)) hA)
    refine ⟨.ref p, rfl, _, rfl, p, xs, _, .ref bi, rfl, rfl, hS2, atI_nat hbi, ?_⟩
    dsimp only [tNoPart]
    refine ⟨_, rfl, _, rfl, sl_read hR2 fun c1 H3 s3 hc1 => ?_⟩
    rw [cut_to (by omega)] at hc1
    have hv : ((rowB B n i).map V.int)[m]? = some (.int (B i m)) := by rw [List.getElem?_map, rowB_at hm]; rfl
    refine ⟨.ref p, rfl, _, rfl, p, xs, _, .ref bi, rfl, rfl, Same.tup s3 hS2, atI_nat hbi, _, rfl, bi, _, _, _, rfl, rfl, Same.tup s3 hR2, atI_nat hv, _, _, rfl, rfl, sz60 (by simp), fun t nt => ?_⟩
    have s4 := same_upd (o := .tup [V.int (B i m + 1)]) nt
    refine cat_read (Same.tup s4 hc1) (.inl (.inl upd_same)) (by simp [rowB_len]; omega) fun p5 H5 s5 h5 => ?_
    have s25 := s3.trans (s4.trans s5)
    refine ⟨.ref p, rfl, _, rfl, p, xs, _, .ref bi, rfl, rfl, Same.tup s25 hS2, atI_nat hbi, _, rfl, _, _, rfl, rfl, _, rfl, ?_⟩
    dsimp only [tNoPart]
    refine sl_read (Same.tup s25 hR2) fun c2 H6 s6 hc2 => ?_
    have ec : ((m : Int) + 1) = ((m + 1 : Nat) : Int) := by omega
    rw [ec, cut_from (by omega)] at hc2
    refine cat_read (Same.tup s6 h5) hc2 (by simp [rowB_len]; omega) fun p7 H7 s7 h7 => ?_
    have er : ((rowB B n i).map V.int).take m ++ [V.int (B i m + 1)] ++ ((rowB B n i).map V.int).drop (m + 1) = (rowB (updB B i m (B i m + 1)) n i).map V.int := by
      rw [← rowB_upd hm, List.map_append, List.map_append, List.map_take, List.map_drop]; rfl
    rw [er] at h7
    have s27 := s25.trans (s6.trans s7)
    refine ⟨.ref p, rfl, ?_⟩
    dsimp only [tNoPart]
    refine ⟨_, rfl, _, rfl, sl_read (Same.tup s27 hS2) fun c3 H8 s8 hc3 => ?_⟩
    rw [cut_to (by omega)] at hc3
    refine ⟨.ref p7, rfl, sz60 (by simp), fun t9 nt9 => ?_⟩
    have s9 := same_upd (o := .tup [V.ref p7]) nt9
    refine cat_read (Same.tup s9 hc3) (.inl (.inl upd_same)) (by simp [rowB_len]; omega) fun p10 H10 s10 h10 => ?_
    have s210 := s27.trans (s8.trans (s9.trans s10))
    refine ⟨.ref p, rfl, _, rfl, _, _, rfl, rfl, _, rfl, ?_⟩
    dsimp only [tNoPart]
    refine sl_read (Same.tup s210 hS2) fun c4 H11 s11 hc4 => ?_
    have ec2 : ((i : Int) + 1) = ((i + 1 : Nat) : Int) := by omega
    rw [ec2, cut_from (by omega)] at hc4
    refine cat_read (Same.tup s11 h10) hc4 (by simp [rowB_len]; omega) fun p12 H12 s12 h12 => ?_
    have s712 := s8.trans (s9.trans (s10.trans (s11.trans s12)))
    have s212 := s27.trans s712
    refine q H12 p12 i m hm (b1.trans (b2.trans (But.of s212))) ((p2.same s212).mono (by omega)) ?_
    exact .tup h12 (tab_put (DpAll.same s212 hA2) hi (Same.tup s712 h7) fun j hj => rowB_ne hj)
end
/-! ### what a comprehension's list D and the draws' list a leave as it is -/
def B2 (D a : Addr) (H H' : Hp) : Prop := ∀ b o, b ≠ D → b ≠ a → H b = some o → H' b = some o
theorem B2.off {D a : Addr} {H H' : Hp} (h : B2 D a H H') : Same (off D (off a H)) (off D (off a H')) := fun b o e => by
  by_cases h1 : b = D
  · unfold MB.off at e; rw [if_pos h1] at e; cases e
  · rw [off_at h1] at e ⊢
    by_cases h2 : b = a
    · unfold MB.off at e; rw [if_pos h2] at e; cases e
    · rw [off_at h2] at e ⊢
      exact h b o h1 h2 e
theorem B2.of {D a : Addr} {H H' : Hp} (h : But a H H') : B2 D a H H' := fun b o _ h2 e => h b o h2 e
theorem B2.trans {D a : Addr} {H H1 H2 : Hp} (h : B2 D a H H1) (h' : B2 D a H1 H2) : B2 D a H H2 := fun b o h1 h2 e => h' b o h1 h2 (h b o h1 h2 e)
theorem B2.upd {D a : Addr} {H : Hp} {o : HO} : B2 D a H (L2.upd H D o) := fun b u h1 _ e => by rw [upd_ne h1]; exact e
theorem B2.but {D a : Addr} {H H' : Hp} (h : B2 D a H H') (n : H D = none) : But a H H' := fun b o h2 e => h b o (fun z => by rw [z, n] at e; cases e) h2 e
theorem off_free {D a : Addr} {H : Hp} (n : H D = none) : Same (off a H) (off D (off a H)) := fun b o e => by
  have : b ≠ D := fun z => by
    by_cases h : b = a
    · unfold off at e; rw [if_pos h] at e; cases e
    · rw [off_at h, z, n] at e; cases e
  rw [off_at this]; exact e
theorem off_tup1 {K : PySem.W.Frag} {H : Hp} {a p : Addr} {la xs : List V} (ha : H a = some (.lst la)) (h : SqT K H p xs) : SqT K (off a H) p xs := by
  have at' : ∀ u, H p = some u → (∀ l, u ≠ .lst l) → (off a H) p = some u := fun u e n => by
    rw [off_at fun z => n la (by rw [z, ha] at e; exact (Option.some.inj e).symm)]; exact e
  rcases h with (h | ⟨o, h⟩) | h
  · exact .inl (.inl (at' _ h fun _ z => nomatch z))
  · exact .inl (.inr ⟨o, at' _ h fun _ z => nomatch z⟩)
  · exact .inr h
theorem dpAll_dq {K : PySem.W.Frag} {H H2 : Hp} : ∀ {ds : List PyData} {xs : List V}, (∀ d, d ∈ ds → ∀ x, Dp K H x d → Dq K H2 x d) → DpAll K H xs ds → DqAll K H2 xs ds
  | _, _, _, .nil => .nil
  | _, _, h, .cons a b => .cons (h _ (List.mem_cons_self ..) _ a) (dpAll_dq (fun d hd => h d (List.mem_cons_of_mem _ hd)) b)
theorem dp_dq {K : PySem.W.Frag} {H H2 : Hp} (e : ∀ p xs, SqT K H p xs → SqT K H2 p xs) {d : PyData} (h : Tb d) : ∀ x, Dp K H x d → Dq K H2 x d := by
  induction h with
  | int hi => intro x hp; cases hp; exact .intq _
  | tup h ih => intro x hp; cases hp with | tup hs ha => exact .tupq (e _ _ hs) (dpAll_dq ih ha)
theorem Dq.offPot {K : PySem.W.Frag} {H : Hp} {a : Addr} {n : Int} {x : V} {d : PyData} (hp : Pot H a n) (ht : Tb d) (h : Dp K H x d) : Dq K (MB.off a H) x d := by
  obtain ⟨_, _, _, ha, _⟩ := hp
  exact dp_dq (fun p xs hs => off_tup1 ha hs) ht _ h
/-- a value of any kind beside the draws' list -/
def AV (K : PySem.W.Frag) (a : Addr) (H : Hp) (x : V) : Prop := ∃ d, Dq K (off a H) x d ∧ Sn 30 30000 d
theorem AV.but {K : PySem.W.Frag} {a : Addr} {H H' : Hp} {x : V} (h : AV K a H x) (b : But a H H') : AV K a H' x := by
  obtain ⟨d, h1, h2⟩ := h
  exact ⟨d, Dq.same (off_but b) h1, h2⟩
theorem Anyv.av {K : PySem.W.Frag} {D a : Addr} {H : Hp} {x : V} {k n : Nat} (h : Anyv K D a H x k n) (hk : k ≤ 30) (hn : n ≤ 30000) : AV K a H x := by
  obtain ⟨d, h1, h2⟩ := h
  exact ⟨d, Dq.same off_sub h1, h2.mono hk hn⟩
theorem Anyv.b2 {K : PySem.W.Frag} {D a : Addr} {H H' : Hp} {x : V} {k n : Nat} (h : Anyv K D a H x k n) (b : B2 D a H H') : Anyv K D a H' x k n := by
  obtain ⟨d, h1, h2⟩ := h
  exact ⟨d, Dq.same b.off h1, h2⟩
/-- a value made of tuples of whole numbers alone, beside the draws' list -/
def TV (K : PySem.W.Frag) (a : Addr) (H : Hp) (b : Nat) (x : V) : Prop := ∃ d, Dq K (off a H) x d ∧ Tb d ∧ d.depth ≤ 6 ∧ d.bulk ≤ b
theorem TV.but {K : PySem.W.Frag} {a : Addr} {H H' : Hp} {b : Nat} {x : V} (h : TV K a H b x) (e : But a H H') : TV K a H' b x := by
  obtain ⟨d, h1, h2⟩ := h
  exact ⟨d, Dq.same (off_but e) h1, h2⟩
theorem TV.av {K : PySem.W.Frag} {a : Addr} {H : Hp} {b : Nat} {x : V} (h : TV K a H b x) (hb : b ≤ 30000) : AV K a H x := by
  obtain ⟨d, h1, h2, h3, h4⟩ := h
  exact ⟨d, h1, (tb_sn h2).mono (by omega) (by omega)⟩
theorem tb_tab {B : Nat → Nat → Int} {n : Nat} (h : ∀ i m, i + m ≤ n → (B i m).natAbs < 10 ^ 40) : Tb (dTab B n) := by
  unfold dTab
  refine .tup fun d hd => ?_
  obtain ⟨i, hi, rfl⟩ := List.mem_map.mp hd
  refine .tup fun e he => ?_
  obtain ⟨z, hz, rfl⟩ := List.mem_map.mp he
  unfold rowB at hz
  obtain ⟨m, hm, rfl⟩ := List.mem_map.mp hz
  have := List.mem_range.mp hi
  have := List.mem_range.mp hm
  exact .int (h i m (by omega))
theorem bulk_ints : ∀ ns : List Int, PyData.bulkAll (ns.map PyData.int) = ns.length
  | [] => by simp [PyData.bulkAll]
  | n :: ns => by simp [PyData.bulkAll, PyData.bulk, bulk_ints ns]; omega
theorem bAll_le {c : Nat} : ∀ {ds : List PyData}, (∀ d, d ∈ ds → d.bulk ≤ c) → PyData.bulkAll ds ≤ (c + 1) * ds.length
  | [], _ => by simp [PyData.bulkAll]
  | e :: ds, h => by
    have h1 := h e (List.mem_cons_self ..)
    have h2 := bAll_le (ds := ds) fun d hd => h d (List.mem_cons_of_mem _ hd)
    simp only [PyData.bulkAll, List.length_cons, Nat.mul_add, Nat.mul_one]
    omega
theorem tab_dep {B : Nat → Nat → Int} {n : Nat} : (dTab B n).depth ≤ 2 := by
  unfold dTab
  simp only [PyData.depth]
  have := dAll_le (k := 1) (ds := (List.range (n + 1)).map fun i => .tuple ((rowB B n i).map PyData.int)) fun d hd => by
    obtain ⟨i, _, rfl⟩ := List.mem_map.mp hd
    simp only [PyData.depth]
    have := dAll_le (k := 0) (ds := (rowB B n i).map PyData.int) fun d hd => by
      obtain ⟨z, _, rfl⟩ := List.mem_map.mp hd
      simp [PyData.depth]
    omega
  omega
theorem tab_bulk {B : Nat → Nat → Int} {n : Nat} : (dTab B n).bulk ≤ (n + 2) * (n + 1) := by
  unfold dTab
  simp only [PyData.bulk]
  have := bAll_le (c := n + 1) (ds := (List.range (n + 1)).map fun i => .tuple ((rowB B n i).map PyData.int)) fun d hd => by
    obtain ⟨i, _, rfl⟩ := List.mem_map.mp hd
    simp only [PyData.bulk]
    rw [bulk_ints, rowB_len]
    omega
  simpa using this
theorem tv_tab {K : PySem.W.Frag} {H : Hp} {a : Addr} {N : Int} {x : V} {B : Nat → Nat → Int} {n : Nat} (hp : Pot H a N) (hn : n ≤ 8) (hB : ∀ i m, i + m ≤ n → -2000 ≤ B i m ∧ B i m ≤ 8000000000000) (h : Dp K H x (dTab B n)) : TV K a H 100 x := by
  have ht := tb_tab (B := B) (n := n) fun i m hi => by have := hB i m hi; omega
  refine ⟨_, Dq.offPot hp ht h, ht, Nat.le_trans tab_dep (by decide), Nat.le_trans tab_bulk ?_⟩
  have : (n + 2) * (n + 1) ≤ 10 * 9 := Nat.mul_le_mul (by omega) (by omega)
  omega
theorem Sn.mem {k n : Nat} {ds : List PyData} (h : Sn k n (.tuple ds)) {d : PyData} (hd : d ∈ ds) : Sn k n d := by
  obtain ⟨a, b, c, e⟩ := h
  simp only [PyData.depth, PyData.showable, PyData.leavesShort, PyData.bulk] at a b c e
  have key : ∀ ds : List PyData, d ∈ ds → PyData.showableAll ds = true → PyData.leavesShortAll 60 ds = true → d.showable = true ∧ d.leavesShort 60 = true ∧ d.bulk ≤ PyData.bulkAll ds ∧ d.depth ≤ PyData.depthAll ds := fun ds => by
    induction ds with
    | nil => intro h; cases h
    | cons x xs ih =>
      intro h h1 h2
      simp only [PyData.showableAll, PyData.leavesShortAll, Bool.and_eq_true] at h1 h2
      simp only [PyData.bulkAll, PyData.depthAll]
      rcases List.mem_cons.mp h with rfl | h
      · exact ⟨h1.1, h2.1, by omega, by omega⟩
      · obtain ⟨q1, q2, q3, q4⟩ := ih h h1.2 h2.2
        exact ⟨q1, q2, by omega, by omega⟩
  obtain ⟨q1, q2, q3, q4⟩ := key ds hd b c
  exact ⟨by omega, q1, q2, by omega⟩
theorem Sn.intB {k n : Nat} {i : Int} (h : i.natAbs < 10 ^ 59) : Sn k n (.int i) := by
  refine ⟨by simp [PyData.depth], ?_, ?_, by simp [PyData.bulk]⟩
  · simp only [PyData.showable]
    refine decide_eq_true ?_
    by_cases h0 : i.natAbs = 0
    · rw [h0]; decide
    · exact Nat.lt_trans ((Nat.log2_lt h0).mpr (show i.natAbs < 2 ^ 200 from Nat.lt_trans h (by decide +kernel))) (by decide)
  · simp only [PyData.leavesShort]
    refine decide_eq_true ?_
    have e := int_text_length_le10 (a := i) (k := 59) (by decide) h
    have e2 : (PyData.shown (.int i)).length = (toString i).length := by
      simp only [PyData.shown]
      exact PySem.ofString_length _
    omega
theorem Sn.neg {k n : Nat} {i : Int} (h : Sn k n (.int i)) (hi : i < 0) : i.natAbs < 10 ^ 59 := by
  have h1 := h.short
  simp only [PyData.leavesShort] at h1
  have h1 := of_decide_eq_true h1
  have e2 : (PyData.shown (.int i)).length = (toString i).length := by
    simp only [PyData.shown]
    exact PySem.ofString_length _
  rw [e2] at h1
  cases i with
  | ofNat m => exact absurd hi (by simp)
  | negSucc m =>
    have e : toString (Int.negSucc m) = "-" ++ Nat.repr (m + 1) := rfl
    rw [e, String.length_append] at h1
    have e1 : "-".length = 1 := rfl
    exact (Nat.length_repr_le_iff (n := m + 1) (k := 59) (by decide)).mp (by omega)
section
variable {P : Program} {w : World} {K : PySem.W.Frag} {mg : Str → Option Value} {base : Heap}
def sp_L_right (K : PySem.W.Frag) : Sp := fun vs H Q _ => ∃ (a : Addr) (o : HO), vs = [.ref a] ∧ Pot H a 0 ∧ H sysModules = some o ∧ a ≠ sysModules ∧ ∀ H', But a H H' → Q (.bl true) H'
set_option maxHeartbeats 8000000 in
theorem ok_L_right (TX : Tx K mg) : FnG P w K mg base CX0 65 TX.a_L_right TX.fd_L_right ["_law_pot_here"] (sp_L_right K) := by
  refine Fun.okG TX.f_L_right sc_L_right (fun vs H Q E h => ?_) (fun cdv A hgd outer s H vs Q E hr h => ?_)
  · obtain ⟨a, o, rfl, _⟩ := h; rfl
  · obtain ⟨a, o, rfl, hp, hsys, nas, q⟩ := h
    refine ⟨_, (pss_cons (ps_par (i := 1) (j := 2) (by rfl) sc_L_right.nd rfl rfl (by decide) rfl rfl (pa_cons (pe_call (ok_L_take TX) (hr.mono (by decide)) (by rfl) TX.g_L_take TX.f_L_take.kp TX.bd_L_take .nil pass0 (pa_cons (pv 0) (pa_cons pe_int pa_nil))) (pa_cons (pe_call (ok_L_of TX) (hr.mono (by decide)) (by rfl) TX.g_L_of TX.f_L_of.kp TX.bd_L_of .nil pass0 (pa_cons (pv 0) (pa_cons (pe_lst (pa_cons pe_int (pa_cons pe_int (pa_cons (pe_op op_powW pe_int pe_int) pa_nil)))) pa_nil))) pa_nil)) (by rfl))
      (pss_cons (ps_par (i := 3) (j := 4) (by rfl) sc_L_right.nd rfl rfl (by decide) rfl rfl (pa_cons (pe_call (ok_L_load TX) (hr.mono (by decide)) (by rfl) TX.g_L_load TX.f_L_load.kp TX.bd_L_load .nil pass0 (pa_cons (pv 0) (pa_cons (pv 1) (pa_cons (pv 2) pa_nil)))) (pa_cons (pe_call (ok_L_load TX) (hr.mono (by decide)) (by rfl) TX.g_L_load TX.f_L_load.kp TX.bd_L_load .nil pass0 (pa_cons (pv 0) (pa_cons (pv 1) (pa_cons (pv 2) pa_nil)))) pa_nil)) (by rfl))
      (pss_cons (ps_set (i := 5) sc_L_right.nd rfl (.inr rfl) (pe_lst (pa_cons (pe_call (ok_table TX) (hr.mono (by decide)) (by rfl) TX.g_table TX.f_table.kp TX.bd_table .nil pass0 (pa_cons (pv 3) (pa_cons (pv 4) pa_nil))) (pa_cons (pe_call (ok_L_lowered TX) (hr.mono (by decide)) (by rfl) TX.g_L_lowered TX.f_L_lowered.kp TX.bd_L_lowered .nil pass0 (pa_cons (pv 0) (pa_cons (pv 3) (pa_cons (pv 4) pa_nil)))) (pa_cons (pe_call (ok_L_lowered TX) (hr.mono (by decide)) (by rfl) TX.g_L_lowered TX.f_L_lowered.kp TX.bd_L_lowered .nil pass0 (pa_cons (pv 0) (pa_cons (pv 3) (pa_cons (pv 4) pa_nil)))) pa_nil)))))
      (pss_cons (ps_set (i := 5) sc_L_right.nd rfl (.inr rfl) (pe_op op_cat (pv 5) (pe_lc (own := [("_law_rows", 13)]) (by rfl) sc_L_right.nd (k_piL (K := K) rfl (pv 5)) (blkOk_by (own := [("_law_rows", 13)]) (N := N_L_right) (sc := defScope s_L_right) (by decide +kernel)) (fun _ _ _ _ _ => (pg_name (i := 13) sc_L_right.nd rfl (Or.inl rfl))) (fun _ _ _ _ _ => pts_nil) (fun _ _ _ _ _ => (pe_call (ok_L_raised TX) (hr.mono (by decide)) (by rfl) TX.g_L_raised TX.f_L_raised.kp TX.bd_L_raised .nil pass0 (pa_cons (pv 0) (pa_cons (pv 13) pa_nil)))))))
      (pss_cons (ps_set (i := 5) sc_L_right.nd rfl (.inr rfl) (pe_op op_cat (pv 5) (pe_lc (own := [("_law_turn", 14)]) (by rfl) sc_L_right.nd (pi_range1 (by rfl) TX.b_range (pa_cons pe_int pa_nil)) (blkOk_by (own := [("_law_turn", 14)]) (N := N_L_right) (sc := defScope s_L_right) (by decide +kernel)) (fun _ _ _ _ _ => (pg_name (i := 14) sc_L_right.nd rfl (Or.inl rfl))) (fun _ _ _ _ _ => pts_nil) (fun _ _ _ _ _ => (pe_call (ok_L_bent TX) (hr.mono (by decide)) (by rfl) TX.g_L_bent TX.f_L_bent.kp TX.bd_L_bent .nil pass0 (pa_cons (pv 0) (pa_cons (pe_call (ok_L_of TX) (hr.mono (by decide)) (by rfl) TX.g_L_of TX.f_L_of.kp TX.bd_L_of .nil pass0 (pa_cons (pv 0) (pa_cons (pv 5) pa_nil))) pa_nil)))))))
      (pss_cons (ps_for PassesOwn.never rfl (k_piL (K := K) rfl (pe_op op_cat (pv 5) (pe_lst (pa_cons (pe_call (ok_L_odd TX) (hr.mono (by decide)) (by rfl) TX.g_L_odd TX.f_L_odd.kp TX.bd_L_odd .nil pass0 (pa_cons (pv 0) pa_nil)) (pa_cons pe_non (pa_cons (pe_tup pa_nil) (pa_cons (pe_tup (pa_cons (pe_tup pa_nil) pa_nil)) (pa_cons (pe_tup (pa_cons (pe_tup (pa_cons pe_int pa_nil)) pa_nil)) pa_nil)))))))) (pg_name (i := 6) sc_L_right.nd rfl (.inl rfl))
        (pss_cons (ps_set (i := 7) sc_L_right.nd rfl (.inl rfl) (pe_call (ok_L_is_bound TX) (hr.mono (by decide)) (by rfl) TX.g_L_is_bound TX.f_L_is_bound.kp TX.bd_L_is_bound .nil pass0 (pa_cons (pv 3) (pa_cons (pv 4) (pa_cons (pv 6) pa_nil)))))
        (pss_cons (ps_set (i := 8) sc_L_right.nd rfl (.inl rfl) (pe_ifExp (pt_val (pv 7)) (pe_ix (k_ixT (K := K) rfl) (pe_ix (k_ixT (K := K) rfl) (pv 6) pe_int (fun _ _ => rfl)) (pv 1) (fun _ _ => rfl)) (pe_call (ok_L_take TX) (hr.mono (by decide)) (by rfl) TX.g_L_take TX.f_L_take.kp TX.bd_L_take .nil pass0 (pa_cons (pv 0) (pa_cons pe_int pa_nil)))))
        (pss_one (ps_for PassesOwn.never rfl (k_piT (K := K) rfl (pe_tup (pa_cons (pv 8) (pa_cons (pe_op op_add (pv 8) pe_int) (pa_cons (pe_call (ok_L_odd TX) (hr.mono (by decide)) (by rfl) TX.g_L_odd TX.f_L_odd.kp TX.bd_L_odd .nil pass0 (pa_cons (pv 0) pa_nil)) pa_nil))))) (pg_name (i := 9) sc_L_right.nd rfl (.inl rfl))
          (pss_cons (ps_set (i := 10) sc_L_right.nd rfl (.inl rfl) (pe_callB (id := "repr") (k_reprQ (K := K) rfl hgd hr.units) (by rfl) TX.b_repr (by decide +kernel) (pa_cons (pe_tup (pa_cons (pv 6) (pa_cons (pv 9) pa_nil))) pa_nil)))
          (pss_cons (ps_set (i := 11) sc_L_right.nd rfl (.inl rfl) (pe_and (pv 7) (pe_and (pe_call (ok_L_is_int TX) (hr.mono (by decide)) (by rfl) TX.g_L_is_int TX.f_L_is_int.kp TX.bd_L_is_int .nil pass0 (pa_cons (pv 9) pa_nil)) (pe_one (pe_cmpR op_eq (pv 9) (pv 8) (nomark _))))))
          (pss_cons (ps_set (i := 12) sc_L_right.nd rfl (.inl rfl) (pe_call (ok_shows_bound TX) (hr.mono (by decide)) (by rfl) TX.g_shows_bound TX.f_shows_bound.kp TX.bd_shows_bound .nil pass0 (pa_cons (pv 3) (pa_cons (pv 4) (pa_cons (pv 9) (pa_cons (pv 6) pa_nil))))))
          (pss_one (ps_if (PW.pt (pw_or (pt_cmpR op_ne (pe_callB (id := "repr") (k_reprQ (K := K) rfl hgd hr.units) (by rfl) TX.b_repr (by decide +kernel) (pa_cons (pv 12) pa_nil)) (pe_callB (id := "repr") (k_reprQ (K := K) rfl hgd hr.units) (by rfl) TX.b_repr (by decide +kernel) (pa_cons (pv 11) pa_nil)) (nomark _)) (pw_or1 (pt_cmpR op_ne (pe_callB (id := "repr") (k_reprQ (K := K) rfl hgd hr.units) (by rfl) TX.b_repr (by decide +kernel) (pa_cons (pe_tup (pa_cons (pv 6) (pa_cons (pv 9) pa_nil))) pa_nil)) (pv 10) (nomark _)))))
            (pss_one (ps_ret pe_bl))
            pss_nil))))))))))
      (pss_one (ps_ret pe_bl)))))))), ?_⟩
    refine ⟨.ref a, rfl, a, 6, _, rfl, hp, by decide, by decide, by decide, fun H1 r1 b1 p1 r10 r11 => ?_⟩
    refine ⟨.ref a, rfl, _, _, rfl, rfl, ⟨by decide, by decide +kernel⟩, sz60 (by simp), fun l nl => ?_⟩
    have s2 := same_upd (o := .lst [V.int 1, V.int 4, V.int (10 ^ (9 : Int).toNat)]) nl
    refine ⟨a, l, _, _, rfl, p1.same s2, by decide, upd_same, p1.ne nl, by simp, by simp, fun H3 v b3 p3 hv => ?_⟩
    obtain ⟨wd, rfl, hw1, hw2⟩ : ∃ x : Int, v = .int x ∧ 1 ≤ x ∧ x ≤ 1000000000 := by
      simp only [List.mem_cons, List.not_mem_nil, or_false] at hv
      rcases hv with rfl | rfl | rfl
      · exact ⟨1, rfl, by decide, by decide⟩
      · exact ⟨4, rfl, by decide, by decide⟩
      · exact ⟨_, rfl, by decide, by decide⟩
    have b03 : But a H H3 := (b1.trans (But.of s2)).trans b3
    obtain ⟨k, rfl⟩ : ∃ k : Nat, r1 = (k : Int) := ⟨r1.toNat, by omega⟩
    have hk : k ≤ 5 := by omega
    refine ⟨_, _, rfl, ?_⟩
    refine ⟨.ref a, rfl, _, rfl, _, rfl, a, k, wd, _, rfl, p3, by decide, by omega, hw1, by omega, fun H4 u1 ss b4 p4 l1 c1 h1 => ?_⟩
    refine ⟨.ref a, rfl, _, rfl, _, rfl, a, k, wd, _, rfl, p4, by decide, by omega, hw1, by omega, fun H5 u2 rs b5 p5 l2 c2 h2 => ?_⟩
    refine ⟨_, _, rfl, ?_⟩
    have k1 := (p4.keep (K := K) b5) _ _ h1
    have dS : Lds ss := lds_of (b := 0) c1 (by omega)
    have dR : Lds rs := lds_of (b := 0) c2 (by omega)
    have b05 := (b03.trans b4).trans b5
    clear h1 p1 p3 p4 b1 b3 s2 hv c1 c2 b03 b4 b5
    have tfT : ∀ B : Nat → Nat → Int, Tf (dTab B k) := fun B => .tup fun d hd => by obtain ⟨i, _, rfl⟩ := List.mem_map.mp hd; exact .tup (tf_ints _)
    -- the three tables
    refine ⟨.ref u1, rfl, .ref u2, rfl, u1, u2, ss, rs, rfl, k1, h2, dS, dR, by omega, by omega, fun H6 t1 s6 hT1 => ?_⟩
    have p6 := p5.same s6
    refine ⟨.ref a, rfl, .ref u1, rfl, .ref u2, rfl, a, u1, u2, ss, rs, _, rfl, p6, by omega, Same.tup s6 k1, Same.tup s6 h2, dS, dR, by omega, by omega, fun H7 t2 B2' b7 p7 ok2 bd2 hT2 => ?_⟩
    have kp7 := p6.keep (K := K) b7
    refine ⟨.ref a, rfl, .ref u1, rfl, .ref u2, rfl, a, u1, u2, ss, rs, _, rfl, p7, by omega, kp7 _ _ (Same.tup s6 k1), kp7 _ _ (Same.tup s6 h2), dS, dR, by omega, by omega, fun H8 t3 B3 b8 p8 ok3 bd3 hT3 => ?_⟩
    rw [l1] at ok2 bd2 hT2 ok3 bd3 hT3 hT1
    refine ⟨sz60 (by simp), fun l3 nl3 => ?_⟩
    have nl3a0 : l3 ≠ a := p8.ne nl3
    have s9 := same_upd (o := .lst [V.ref t1, V.ref t2, V.ref t3]) nl3
    have hl3 := upd_same (H := H8) (a := l3) (o := .lst [V.ref t1, V.ref t2, V.ref t3])
    have kp8 := p7.keep (K := K) b8
    have bdl : ∀ i m, i + m ≤ k → -2000 ≤ lw (sm ss) (sm rs) i m ∧ lw (sm ss) (sm rs) i m ≤ 8000000000000 := fun i m hi => by
      have := lw_bdI dS dR (i := i) (k := m) (by omega)
      omega
    have v1 : TV K a H8 100 (.ref t1) := ((tv_tab p6 (by omega) bdl hT1).but b7).but b8
    have v2 : TV K a H8 100 (.ref t2) := (tv_tab p7 (by omega) (fun i m hi => by have := bd2 i m hi; omega) hT2).but b8
    have v3 : TV K a H8 100 (.ref t3) := tv_tab p8 (by omega) (fun i m hi => by have := bd3 i m hi; omega) hT3
    have T1 : ∃ B, Dp K H8 (.ref t1) (dTab B k) ∧ ∀ i m, i + m ≤ k → -1000 ≤ B i m ∧ B i m ≤ 7200000000000 := ⟨_, Dp.keep kp8 (tfT _) (Dp.keep kp7 (tfT _) hT1), fun i m hi => by have := lw_bdI dS dR (i := i) (k := m) (by omega); omega⟩
    have T2 : ∃ B, Dp K H8 (.ref t2) (dTab B k) ∧ ∀ i m, i + m ≤ k → -1000 ≤ B i m ∧ B i m ≤ 7200000000000 := ⟨_, Dp.keep kp8 (tfT _) hT2, bd2⟩
    have T3 : ∃ B, Dp K H8 (.ref t3) (dTab B k) ∧ ∀ i m, i + m ≤ k → -1000 ≤ B i m ∧ B i m ≤ 7200000000000 := ⟨_, hT3, bd3⟩
    have K1 := Same.tup s9 (kp8 _ _ (kp7 _ _ (Same.tup s6 k1)))
    have K2 := Same.tup s9 (kp8 _ _ (kp7 _ _ (Same.tup s6 h2)))
    have b09 : But a H _ := ((b05.trans (But.of s6)).trans (b7.trans b8)).trans (But.of s9)
    have p9 := p8.same s9
    have TT : ∀ x, x ∈ [V.ref t1, V.ref t2, V.ref t3] → TV K a (upd H8 l3 (.lst [V.ref t1, V.ref t2, V.ref t3])) 100 x ∧ ∃ B, Dp K (upd H8 l3 (.lst [V.ref t1, V.ref t2, V.ref t3])) x (dTab B k) ∧ ∀ i m, i + m ≤ k → -1000 ≤ B i m ∧ B i m ≤ 7200000000000 := fun x hx => by
      have up : ∀ {x : V}, (TV K a H8 100 x) → (∃ B, Dp K H8 x (dTab B k) ∧ ∀ i m, i + m ≤ k → -1000 ≤ B i m ∧ B i m ≤ 7200000000000) → TV K a (upd H8 l3 (.lst [V.ref t1, V.ref t2, V.ref t3])) 100 x ∧ ∃ B, Dp K (upd H8 l3 (.lst [V.ref t1, V.ref t2, V.ref t3])) x (dTab B k) ∧ ∀ i m, i + m ≤ k → -1000 ≤ B i m ∧ B i m ≤ 7200000000000 := fun h1 h2 => by
        obtain ⟨B, e1, e2⟩ := h2
        exact ⟨h1.but (But.of s9), B, Dp.same s9 e1, e2⟩
      simp only [List.mem_cons, List.not_mem_nil, or_false] at hx
      rcases hx with rfl | rfl | rfl
      · exact up v1 T1
      · exact up v2 T2
      · exact up v3 T3
    obtain ⟨M, hM⟩ : ∃ M : Int, M = 2000 := ⟨_, rfl⟩
    have p9 : Pot (upd H8 l3 (.lst [V.ref t1, V.ref t2, V.ref t3])) a M := p9.mono (by omega)
    generalize upd H8 l3 (.lst [V.ref t1, V.ref t2, V.ref t3]) = H9 at *
    have nl3a : l3 ≠ a := nl3a0
    clear v1 v2 v3 T1 T2 T3 hT1 hT2 hT3 ok2 ok3 bd2 bd3 bdl kp7 kp8 p5 p6 p7 p8 b7 b8 b05 s6 s9 k1 h2 nl3 nl
    -- the raised ones
    refine ⟨.ref l3, rfl, .ref l3, rfl, l3, rfl, ⟨_, .inl (.inl hl3)⟩, fun D nD => ?_⟩
    have nDa : D ≠ a := p9.ne nD
    have nl3D : l3 ≠ D := fun e => by rw [← e, hl3] at nD; cases nD
    refine lc_it (walk_list (xs := [V.ref t1, V.ref t2, V.ref t3])) (fun i H' => B2 D a H9 H' ∧ Pot H' a (M + 2 * (i : Int)) ∧ ∃ acc : List V, H' D = some (.lst acc) ∧ acc.length = i ∧ ∀ x, x ∈ acc → ∃ d, Dq K (off D (off a H')) x d ∧ Tb d ∧ d.depth ≤ 6 ∧ d.bulk ≤ 100) ⟨B2.upd, p9.upd nDa |>.mono (by omega), [], upd_same, rfl, by simp⟩ (fun i H' _ h => .inl (.inl (h.1 _ _ nl3D nl3a hl3))) ?_ ?_
    · rintro i x H10 H10' hi ⟨b10, p10, acc, ha, hal, hacc⟩ ⟨rfl, hx⟩
      obtain ⟨hv1, B, hB, hbd⟩ := TT x (List.mem_of_getElem? hx)
      have hi3 : i < 3 := hi
      obtain ⟨dx, q1, q2, q3, q4⟩ := hv1
      have hD10 : Dp K H10' x (dTab B k) := by
        have e1 : Dq K (off a H9) x (dTab B k) := Dq.offPot p9 (tb_tab fun i m hi => by have := hbd i m hi; omega) hB
        exact dq_tab (Dq.same (off_sub.trans off_sub) (Dq.same b10.off (Dq.same (off_free nD) e1)))
      refine ⟨rfl, yesT ⟨.ref a, rfl, x, rfl, a, x, B, k, _, rfl, p10, by omega, hD10, by omega, fun H11 r i' m him b11 p11 hr11 => ?_⟩⟩
      have ha11 := b11 _ _ nDa ha
      refine ⟨acc, ha11, sz61 (by omega), (b10.trans (B2.of b11)).trans B2.upd, (p11.upd nDa).mono (by omega), acc ++ [.ref r], upd_same, by simp [hal], fun y hy => ?_⟩
      have bu : B2 D a H10' (upd H11 D (.lst (acc ++ [.ref r]))) := (B2.of b11).trans B2.upd
      rcases List.mem_append.mp hy with hy | hy
      · obtain ⟨d, e1, e2⟩ := hacc y hy
        exact ⟨d, Dq.same bu.off e1, e2⟩
      · rw [List.mem_singleton.mp hy]
        obtain ⟨d, e1, e2, e3, e4⟩ := tv_tab (p11.mono (Int.le_refl _)) (by omega) (fun i2 m2 hi2 => by
          by_cases e : i2 = i' ∧ m2 = m
          · rw [e.1, e.2, updB_same]; have := hbd i' m him; omega
          · rw [updB_ne e]; have := hbd i2 m2 hi2; omega) hr11
        have ht := tb_tab (B := updB B i' m (B i' m + 1)) (n := k) fun i2 m2 hi2 => by
          by_cases e : i2 = i' ∧ m2 = m
          · rw [e.1, e.2, updB_same]; have := hbd i' m him; omega
          · rw [updB_ne e]; have := hbd i2 m2 hi2; omega
        obtain ⟨la, hla⟩ : ∃ l, H11 a = some (.lst l) := by obtain ⟨_, _, _, h, _⟩ := p11; exact ⟨_, h⟩
        refine ⟨_, Dq.same (B2.off (D := D) (a := a) B2.upd) (dp_dq (fun p xs hs => off_tup hla ha11 hs) ht _ hr11), ht, Nat.le_trans tab_dep (by decide), Nat.le_trans tab_bulk ?_⟩
        have : (k + 2) * (k + 1) ≤ 10 * 9 := Nat.mul_le_mul (by omega) (by omega)
        omega
    rintro H10 ⟨b10, p10, acc, ha, hal, hacc⟩
    have hal : acc.length = 3 := hal
    have bb10 : But a H9 H10 := b10.but nD
    refine ⟨l3, D, _, acc, rfl, rfl, bb10 _ _ nl3a hl3, ha, sz60 (by simp; omega), fun l4 nl4 => ?_⟩
    have s11 := same_upd (o := .lst ([V.ref t1, V.ref t2, V.ref t3] ++ acc)) nl4
    have hl4 := upd_same (H := H10) (a := l4) (o := .lst ([V.ref t1, V.ref t2, V.ref t3] ++ acc))
    have nl4a : l4 ≠ a := p10.ne nl4
    have TT2 : ∀ x, x ∈ [V.ref t1, V.ref t2, V.ref t3] ++ acc → TV K a (upd H10 l4 (.lst ([V.ref t1, V.ref t2, V.ref t3] ++ acc))) 100 x := fun x hx => by
      rcases List.mem_append.mp hx with hx | hx
      · exact ((TT x hx).1.but bb10).but (But.of s11)
      · obtain ⟨d, e1, e2⟩ := hacc x hx
        exact TV.but ⟨d, Dq.same off_sub e1, e2⟩ (But.of s11)
    have kp9 := p9.keep (K := K) bb10
    have K1 := Same.tup s11 (kp9 _ _ K1)
    have K2 := Same.tup s11 (kp9 _ _ K2)
    have b011 := (b09.trans bb10).trans (But.of s11)
    have p11 : Pot (upd H10 l4 (.lst ([V.ref t1, V.ref t2, V.ref t3] ++ acc))) a (M + 10) := (p10.same s11).mono (by omega)
    obtain ⟨L4, hL4⟩ : ∃ L4, L4 = [V.ref t1, V.ref t2, V.ref t3] ++ acc := ⟨_, rfl⟩
    have hL4n : L4.length = 6 := by rw [hL4]; simp [hal]
    rw [← hL4] at TT2 hl4 K1 K2 b011 p11 ⊢
    generalize upd H10 l4 (.lst L4) = H11 at *
    clear hacc ha hal b10 p10 bb10 s11 nl4 TT hl3 p9 kp9 b09 hL4 nD nDa nl3D
    -- the bent ones
    refine ⟨.ref l4, rfl, _, rfl, by decide, by decide, fun D nD => ?_⟩
    have nDa : D ≠ a := p11.ne nD
    have nl4D : l4 ≠ D := fun e => by rw [← e, hl4] at nD; cases nD
    refine lc_it walk_range (fun i H' => B2 D a H11 H' ∧ Pot H' a (M + 10 + 4000 * (i : Int)) ∧ ∃ acc : List V, H' D = some (.lst acc) ∧ acc.length = i ∧ ∀ x, x ∈ acc → Anyv K D a H' x 30 600) ⟨B2.upd, (p11.upd nDa).mono (by omega), [], upd_same, rfl, by simp⟩ (fun _ _ _ _ => trivial) ?_ ?_
    · rintro i x H10 H10' hi ⟨b10, p10, acc, ha, hal, hacc⟩ hy
      obtain ⟨rfl, rfl⟩ := hy
      have hi3 : i < 10 := hi
      refine ⟨rfl, yesT ⟨.ref a, rfl, .ref a, rfl, .ref l4, rfl, a, l4, L4, _, rfl, p10, by omega, b10 _ _ nl4D nl4a hl4, nl4a, (by intro z; rw [z] at hL4n; cases hL4n), by omega, fun H12 v b12 p12 hv => ?_⟩⟩
      obtain ⟨d, q1, q2, q3, q4⟩ := TT2 v hv
      have ha12 := b12 _ _ nDa ha
      have bx : B2 D a H11 H12 := b10.trans (B2.of b12)
      have hs12 : H12 sysModules = some o := by
        have h11 : H11 sysModules = some o := b011 _ _ (Ne.symm nas) hsys
        exact bx _ _ (fun e => by rw [e, nD] at h11; cases h11) (Ne.symm nas) h11
      refine ⟨a, D, v, d, 6, 100, _, o, acc, rfl, p12, by omega, by omega, hs12, nas, ha12, Dq.same bx.off (Dq.same (off_free nD) q1), q2, q3, q4, by omega, by omega, by omega, fun H13 y b13 p13 hy => ?_⟩
      have ha13 := b13 _ _ nDa ha12
      refine ⟨acc, ha13, sz61 (by omega), ((bx.trans (B2.of b13))).trans B2.upd, (p13.upd nDa).mono (by omega), acc ++ [y], upd_same, by simp [hal], fun z hz => ?_⟩
      have bu : B2 D a H10' (upd H13 D (.lst (acc ++ [y]))) := ((B2.of b12).trans (B2.of b13)).trans B2.upd
      rcases List.mem_append.mp hz with hz | hz
      · exact (hacc z hz).b2 bu
      · rw [List.mem_singleton.mp hz]
        exact (hy.b2 (B2.upd (D := D))).mono (by omega) (by omega)
    rintro H12 ⟨b12, p12, acc, ha, hal, hacc⟩
    have hal : acc.length = 10 := hal
    have bb12 : But a H11 H12 := b12.but nD
    refine ⟨l4, D, _, acc, rfl, rfl, bb12 _ _ nl4a hl4, ha, sz60 (by omega), fun l5 nl5 => ?_⟩
    have s13 := same_upd (o := .lst (L4 ++ acc)) nl5
    have hl5 := upd_same (H := H12) (a := l5) (o := .lst (L4 ++ acc))
    have nl5a : l5 ≠ a := p12.ne nl5
    have AA : ∀ x, x ∈ L4 ++ acc → AV K a (upd H12 l5 (.lst (L4 ++ acc))) x := fun x hx => by
      rcases List.mem_append.mp hx with hx | hx
      · exact (((TT2 x hx).but bb12).but (But.of s13)).av (by omega)
      · exact ((hacc x hx).av (by omega) (by omega)).but (But.of s13)
    have kp11 := p11.keep (K := K) bb12
    have K1 := Same.tup s13 (kp11 _ _ K1)
    have K2 := Same.tup s13 (kp11 _ _ K2)
    have b013 := (b011.trans bb12).trans (But.of s13)
    have p13 : Pot (upd H12 l5 (.lst (L4 ++ acc))) a (M + 50000) := (p12.same s13).mono (by omega)
    obtain ⟨L5, hL5⟩ : ∃ L5, L5 = L4 ++ acc := ⟨_, rfl⟩
    have hL5n : L5.length = 16 := by rw [hL5]; simp [hal, hL4n]
    rw [← hL5] at AA hl5 K1 K2 b013 p13 ⊢
    generalize upd H12 l5 (.lst L5) = H13 at *
    clear hacc ha hal b12 p12 bb12 s13 nl5 TT2 hl4 p11 kp11 b011 hL5 nD nDa nl4D hL4n nl4a
    -- all things
    have hs13 : H13 sysModules = some o := b013 _ _ (Ne.symm nas) hsys
    have ha13 : ∃ u, H13 a = some u := by obtain ⟨_, _, _, h, _⟩ := p13; exact ⟨_, h⟩
    refine ⟨.ref l5, rfl, .ref a, rfl, a, a, _, o, rfl, p13, by omega, by omega, hs13, nas, ha13, fun H14 x1 b14 p14 hx1 => ?_⟩
    have av1 : AV K a H14 x1 := hx1.av (by omega) (by omega)
    refine ⟨sz60 (by simp), fun e1 ne1 => ?_⟩
    refine ⟨sz60 (by simp), fun e2 ne2 => ?_⟩
    refine ⟨sz60 (by simp), fun e3 ne3 => ?_⟩
    refine ⟨sz60 (by simp), fun e4 ne4 => ?_⟩
    refine ⟨sz60 (by simp), fun e5 ne5 => ?_⟩
    refine ⟨sz60 (by simp), fun l6 nl6 => ?_⟩
    have z1 := same_upd (o := .tup []) ne1
    have z2 := same_upd (o := .tup []) ne2
    have z3 := same_upd (o := .tup [V.ref e2]) ne3
    have z4 := same_upd (o := .tup [V.int 0]) ne4
    have z5 := same_upd (o := .tup [V.ref e4]) ne5
    have z6 := same_upd (o := .lst [x1, V.non, V.ref e1, V.ref e3, V.ref e5]) nl6
    have w5 := z5.trans z6
    have w4 := z4.trans w5
    have w3 := z3.trans w4
    have w2 := z2.trans w3
    have w1 := z1.trans w2
    have f1 := w2 _ _ (upd_same (H := H14) (a := e1) (o := .tup []))
    have f2 := w3 _ _ (upd_same (a := e2) (o := .tup []))
    have f3 := w4 _ _ (upd_same (a := e3) (o := .tup [V.ref e2]))
    have f4 := w5 _ _ (upd_same (a := e4) (o := .tup [V.int 0]))
    have f5 := z6 _ _ (upd_same (a := e5) (o := .tup [V.ref e4]))
    have hl6 := upd_same (H := upd (upd (upd (upd (upd H14 e1 (.tup [])) e2 (.tup [])) e3 (.tup [V.ref e2])) e4 (.tup [V.int 0])) e5 (.tup [V.ref e4])) (a := l6) (o := .lst [x1, V.non, V.ref e1, V.ref e3, V.ref e5])
    have b1416 : But a H13 _ := b14.trans (But.of w1)
    refine ⟨l5, l6, _, _, rfl, rfl, b1416 _ _ nl5a hl5, hl6, sz60 (by simp; omega), fun l7 nl7 => ?_⟩
    have z7 := same_upd (o := .lst (L5 ++ [x1, V.non, V.ref e1, V.ref e3, V.ref e5])) nl7
    have p14' := p14.same w1
    have nl7a : l7 ≠ a := p14'.ne nl7
    have g1 := z7 _ _ f1
    have g2 := z7 _ _ f2
    have g3 := z7 _ _ f3
    have g4 := z7 _ _ f4
    have g5 := z7 _ _ f5
    have b15 := b1416.trans (But.of z7)
    have p15 := p14'.same z7
    have nea : ∀ {e : Addr} {G : Hp}, Pot G a (M + 50000 + 30) → G e = none → e ≠ a := fun pp ne => pp.ne ne
    have na1 : e1 ≠ a := p14.ne ne1
    have na2 : e2 ≠ a := (p14.same z1).ne ne2
    have na3 : e3 ≠ a := ((p14.same z1).same z2).ne ne3
    have na4 : e4 ≠ a := (((p14.same z1).same z2).same z3).ne ne4
    have na5 : e5 ≠ a := ((((p14.same z1).same z2).same z3).same z4).ne ne5
    have hl7 := upd_same (H := upd (upd (upd (upd (upd (upd H14 e1 (.tup [])) e2 (.tup [])) e3 (.tup [V.ref e2])) e4 (.tup [V.int 0])) e5 (.tup [V.ref e4])) l6 (.lst [x1, V.non, V.ref e1, V.ref e3, V.ref e5])) (a := l7) (o := .lst (L5 ++ [x1, V.non, V.ref e1, V.ref e3, V.ref e5]))
    have AV7 : ∀ x, x ∈ L5 ++ [x1, V.non, V.ref e1, V.ref e3, V.ref e5] → AV K a (upd (upd (upd (upd (upd (upd (upd H14 e1 (.tup [])) e2 (.tup [])) e3 (.tup [V.ref e2])) e4 (.tup [V.int 0])) e5 (.tup [V.ref e4])) l6 (.lst [x1, V.non, V.ref e1, V.ref e3, V.ref e5])) l7 (.lst (L5 ++ [x1, V.non, V.ref e1, V.ref e3, V.ref e5]))) x := fun x hx => by
      rcases List.mem_append.mp hx with hx | hx
      · exact (AA x hx).but b15
      · simp only [List.mem_cons, List.not_mem_nil, or_false] at hx
        have at' : ∀ {e : Addr} {u : HO} {G : Hp}, G e = some u → e ≠ a → (off a G) e = some u := fun h n => by rw [off_at n]; exact h
        rcases hx with rfl | rfl | rfl | rfl | rfl
        · exact (av1.but (But.of w1)).but (But.of z7)
        · exact ⟨_, .nonq, .none⟩
        · exact ⟨.tuple [], .tupq (.inl (.inl (at' g1 na1))) .nil, by constructor <;> decide +kernel⟩
        · exact ⟨.tuple [.tuple []], .tupq (.inl (.inl (at' g3 na3))) (.cons (.tupq (.inl (.inl (at' g2 na2))) .nil) .nil), by constructor <;> decide +kernel⟩
        · exact ⟨.tuple [.tuple [.int 0]], .tupq (.inl (.inl (at' g5 na5))) (.cons (.tupq (.inl (.inl (at' g4 na4))) (.cons (.intq _) .nil)) .nil), by constructor <;> decide +kernel⟩
    have kp13 := p13.keep (K := K) b15
    have K1 := kp13 _ _ K1
    have K2 := kp13 _ _ K2
    have b015 := b013.trans b15
    have p15 : Pot (upd (upd (upd (upd (upd (upd (upd H14 e1 (.tup [])) e2 (.tup [])) e3 (.tup [V.ref e2])) e4 (.tup [V.int 0])) e5 (.tup [V.ref e4])) l6 (.lst [x1, V.non, V.ref e1, V.ref e3, V.ref e5])) l7 (.lst (L5 ++ [x1, V.non, V.ref e1, V.ref e3, V.ref e5]))) a 60000 := p15.mono (by omega)
    obtain ⟨L7, hL7⟩ : ∃ L7, L7 = L5 ++ [x1, V.non, V.ref e1, V.ref e3, V.ref e5] := ⟨_, rfl⟩
    have hL7n : L7.length = 21 := by rw [hL7]; simp [hL5n]
    rw [← hL7] at AV7 hl7 K1 K2 b015 p15 ⊢
    generalize upd (upd (upd (upd (upd (upd (upd H14 e1 (.tup [])) e2 (.tup [])) e3 (.tup [V.ref e2])) e4 (.tup [V.int 0])) e5 (.tup [V.ref e4])) l6 (.lst [x1, V.non, V.ref e1, V.ref e3, V.ref e5])) l7 (.lst L7) = G0 at *
    clear z1 z2 z3 z4 z5 z6 z7 w1 w2 w3 w4 w5 f1 f2 f3 f4 f5 g1 g2 g3 g4 g5 hl6 hl5 AA hL7 p14 p14' p13 b1416 b14 b15 b013 kp13 nl6 nl7 ne1 ne2 ne3 ne4 ne5 av1 hx1 hs13 ha13 na1 na2 na3 na4 na5 nea
    refine ⟨l7, rfl, ⟨_, .inl (.inl hl7)⟩, for_list (K := K) (xs := L7) (fun i σ H' => ∃ y6 y7 y8 y9 y10 y11 y12, σ = [some (.ref a), some (.int (k : Int)), some (.int wd), some (.ref u1), some (.ref u2), some (.ref l5), y6, y7, y8, y9, y10, y11, y12, none, none] ∧ But a G0 H' ∧ Pot H' a (60000 + 100 * (i : Int))) ⟨_, _, _, _, _, _, _, rfl, But.refl, p15.mono (by omega)⟩ (fun i σ H' _ h => by obtain ⟨_, _, _, _, _, _, _, _, b, _⟩ := h; exact .inl (.inl (b _ _ nl7a hl7))) ?_ ?_⟩
    rotate_left
    · rintro σ H' ⟨y6, y7, y8, y9, y10, y11, y12, rfl, b, _⟩
      exact q _ (b015.trans b)
    rintro i x σ G1 hx ⟨y6, y7, y8, y9, y10, y11, y12, rfl, b1, p1⟩
    have hi : i < 21 := by have := (List.getElem?_eq_some_iff.mp hx).1; omega
    obtain ⟨d, hq0, hsn⟩ := AV7 x (List.mem_of_getElem? hx)
    have hq1 := Dq.same off_sub (Dq.same (off_but b1) hq0)
    have kp1 := p15.keep (K := K) b1
    have M1 := kp1 _ _ K1
    have M2 := kp1 _ _ K2
    refine ⟨.ref u1, rfl, .ref u2, rfl, x, rfl, u1, u2, x, d, ss, rs, rfl, M1, M2, by omega, by omega, hq1, fun G2 s2 => ?_⟩
    have p2 := p1.same s2
    have b02 := b1.trans (But.of s2)
    have hq2 := Dq.same s2 hq1
    have M1 := Same.tup s2 M1
    have M2 := Same.tup s2 M2
    refine ⟨_, rfl, bndD ss rs d, rfl, ?_⟩
    obtain ⟨MM, hMM⟩ : ∃ MM : Int, MM = 60000 + 100 * (i : Int) := ⟨_, rfl⟩
    rw [← hMM] at p2
    by_cases hisb : bndD ss rs d = true
    case' pos =>
      refine iteB1 hisb ?_
      have ek := hisb
      unfold bndD at ek
      simp only [Bool.and_eq_true] at ek
      rw [l1] at ek
      have etab := shp_tab ek.1 ek.2.1
      have hD : Dp K G2 x (dTab (tabOf d) k) := dq_tab (by rw [← etab]; exact hq2)
      have hup := low_le ek.2.2 k 0 (by omega)
      have hlw := (lw_bdI dS dR (i := 0) (k := k) (by omega)).2
      have hsn' : Sn 30 30000 (dTab (tabOf d) k) := by rw [← etab]; exact hsn
      have hsni : Sn 30 30000 (.int (tabOf d 0 k)) := by
        unfold dTab at hsn'
        have h0 := hsn'.mem (List.mem_map.mpr ⟨0, List.mem_range.mpr (by omega), rfl⟩)
        refine h0.mem (List.mem_map.mpr ⟨_, ?_, rfl⟩)
        unfold rowB
        exact List.mem_map.mpr ⟨k, List.mem_range.mpr (by omega), rfl⟩
      obtain ⟨av, xs, ex, hS, hl, hrow⟩ := tab_row hD
      obtain ⟨r0, hr0, hR0⟩ := hrow 0 (by omega)
      refine ⟨.ref av, ?_⟩
      subst ex
      refine ⟨rfl, av, _, 0, _, rfl, rfl, hS, atI_nat (j := 0) hr0, _, rfl, r0, _, _, _, rfl, rfl, hR0, atI_nat (by rw [List.getElem?_map, rowB_at (by omega)]; rfl), ?_⟩
      have b3 : But a G2 G2 := But.refl
      have p3 : Pot G2 a (MM + 1) := p2.mono (by omega)
      have hbest : bndD ss rs d = true → tabOf d 0 k = tabOf d 0 k := fun _ => rfl
      have hb1 : (tabOf d 0 k).natAbs < 10 ^ 59 := by
        by_cases hneg : tabOf d 0 k < 0
        · exact hsni.neg hneg
        · omega
      have hb2 : (tabOf d 0 k + 1).natAbs < 10 ^ 59 := by omega
      clear etab hD hup hlw hsn' hsni hS hl hrow hR0 hr0 ek
      generalize hbb : tabOf d 0 k = best at hb1 hb2 hbest ⊢
      have hbest : bndD ss rs d = true → best = tabOf d 0 k := fun _ => hbb.symm
      generalize hxx : V.ref av = x at *
      clear hxx
    case' neg =>
      refine iteB0 (by simpa using hisb) ?_
      refine ⟨.ref a, rfl, a, 20, _, rfl, p2, by omega, by decide, by decide, fun G3 best b3 p3 r0 r1 => ?_⟩
      have hb1 : best.natAbs < 10 ^ 59 := by omega
      have hb2 : (best + 1).natAbs < 10 ^ 59 := by omega
      have hbest : bndD ss rs d = true → best = tabOf d 0 k := fun z => absurd z hisb
    all_goals (
      have hs4 := (b015.trans (b02.trans b3)) _ _ (Ne.symm nas) hsys
      have ha4 : ∃ u, (_ : Hp) a = some u := (by obtain ⟨_, _, _, hh, _⟩ := id p3; exact ⟨_, hh⟩)
      refine ⟨_, rfl, _, rfl, _, _, rfl, rfl, .ref a, rfl, a, a, _, o, rfl, p3, by omega, by omega, hs4, nas, ha4, fun G4 y b4 p4 hy => ⟨sz60 (by simp), fun t nt => ?_⟩⟩
      have s5 := same_upd (o := .tup [V.int best, V.int (best + 1), y]) nt
      have ht5 := upd_same (H := G4) (a := t) (o := .tup [V.int best, V.int (best + 1), y])
      have b25 := (b3.trans b4).trans (But.of s5)
      have N1 := (p2.keep (K := K) b25) _ _ M1
      have N2 := (p2.keep (K := K) b25) _ _ M2
      have hq5 := Dq.same off_sub (Dq.same (off_but ((b02).trans b25)) hq0)
      have p5 := p4.same s5
      have hyA := (hy.av (by omega) (by omega)).but (But.of s5)
      have b05 := b02.trans b25
      generalize upd G4 t (.tup [V.int best, V.int (best + 1), y]) = G5 at *
      refine ⟨t, rfl, ⟨_, .inl (.inl ht5)⟩, for_tup (K := K) (xs := [V.int best, V.int (best + 1), y]) (fun j σ H' => ∃ y9 y10 y11 y12, σ = [some (.ref a), some (.int (k : Int)), some (.int wd), some (.ref u1), some (.ref u2), some (.ref l5), some x, some (.bl (bndD ss rs d)), some (.int best), y9, y10, y11, y12, none, none] ∧ Same G5 H') ⟨_, _, _, _, rfl, Same.refl _⟩ (fun i σ H' _ h => by obtain ⟨_, _, _, _, _, s⟩ := h; exact Same.tup s (.inl (.inl ht5))) ?_ ?_⟩
      rotate_left
      · rintro σ H' ⟨y9, y10, y11, y12, rfl, s⟩
        exact ⟨_, _, _, _, _, _, _, rfl, b05.trans (But.of s), (p5.same s).mono (by omega)⟩
      rintro j bv σ H6 hj ⟨y9, y10, y11, y12, rfl, s6⟩
      obtain ⟨dx, hqx, hsx⟩ : ∃ dx, Dq K H6 bv dx ∧ Sn 30 30000 dx := by
        have hm := List.mem_of_getElem? hj
        simp only [List.mem_cons, List.not_mem_nil, or_false] at hm
        rcases hm with rfl | rfl | rfl
        · exact ⟨_, .intq _, .intB hb1⟩
        · exact ⟨_, .intq _, .intB hb2⟩
        · obtain ⟨dx, e1, e2⟩ := hyA.but (But.of s6)
          exact ⟨dx, Dq.same off_sub e1, e2⟩
      have hq6 := Dq.same s6 hq5
      obtain ⟨R1, R2, R3⟩ := (hsn.t2 hsx).repr (by omega) (by omega)
      refine ⟨x, rfl, bv, rfl, sz60 (by simp), fun tp np => ⟨.ref tp, .tuple [d, dx], rfl, .tupq (.inl (.inl upd_same)) (.cons (Dq.same (same_upd np) hq6) (.cons (Dq.same (same_upd np) hqx) .nil)), R1, R2, R3, ?_⟩⟩
      have s67 := same_upd (o := .tup [x, bv]) np
      generalize upd H6 tp (.tup [x, bv]) = H7 at *
      have s7 := s6.trans s67
      have hq7 := Dq.same s7 hq5
      have hqx7 := Dq.same s67 hqx
      refine ⟨_, rfl, bndD ss rs d, rfl, ?_⟩
      have hlb : ss.length = k := l1
      have SB : ∀ b : Bool, (PyData.bool b).showable = true ∧ (PyData.bool b).depth ≤ 60 ∧ (PyData.bool b).shown.length ≤ sizeLine := fun b => (Sn.bool (k := 0) (n := 0) (b := b)).repr (by decide) (by decide)
      have N1' := Same.tup s7 N1
      have N2' := Same.tup s7 N2
      by_cases hz : bndD ss rs d = true
      case' neg =>
        refine iteB0 (by simpa using hz) ?_
        have hdue : shwD ss rs dx d = false := by
          unfold shwD
          rw [show bndD ss rs d = false by simpa using hz]; simp
      case' pos =>
        refine iteB1 hz ?_
        refine ⟨bv, rfl, bv, dx, rfl, hqx7, isIntD dx, rfl, ?_⟩
        by_cases hi : isIntD dx = true
        case' neg =>
          refine iteB0 (by simpa using hi) ?_
          have hdue : shwD ss rs dx d = false := by
            unfold shwD
            rw [show isIntD dx = false by simpa using hi]; rfl
        case' pos =>
          refine iteB1 hi ?_
          obtain ⟨c, rfl⟩ : ∃ c, dx = .int c := by
            cases dx with
            | int c => exact ⟨c, rfl⟩
            | none => cases hi
            | bool b => cases hi
            | str s => cases hi
            | list l => cases hi
            | tuple l => cases hi
            | dict l => cases hi
          cases hqx7
          have hqx7 : Dq K H7 (.int c) (.int c) := .intq c
          refine ⟨_, rfl, _, rfl, rfl, ?_⟩
          have hdue : shwD ss rs (.int c) d = decide (V.int c = V.int best) := by
            unfold shwD
            rw [hz, hlb, ← hbest hz]
            show (true && (true && decide (best = c))) = _
            rw [Bool.true_and, Bool.true_and]
            by_cases e : best = c
            · rw [e]; simp
            · rw [decide_eq_false e, decide_eq_false (fun z => e (V.int.inj z).symm)]
      all_goals (
        refine ⟨.ref u1, rfl, .ref u2, rfl, _, rfl, x, rfl, u1, u2, _, x, _, d, ss, rs, rfl, N1', N2', dS, dR, by omega, by omega, hqx7, hq7, fun H8 s8 => ?_⟩
        rw [hdue]
        refine ⟨_, rfl, _, .bool _, rfl, .blq _, (SB _).1, (SB _).2.1, (SB _).2.2, _, rfl, _, .bool _, rfl, .blq _, (SB _).1, (SB _).2.1, (SB _).2.2, rfl, _, rfl, iteB0 (by simp) ?_⟩
        refine ⟨x, rfl, _, rfl, sz60 (by simp), fun tp2 np2 => ⟨.ref tp2, .tuple [d, _], rfl, .tupq (.inl (.inl upd_same)) (.cons (Dq.same (s8.trans (same_upd np2)) hq7) (.cons (Dq.same (s8.trans (same_upd np2)) hqx7) .nil)), R1, R2, R3, _, rfl, rfl, _, rfl, iteB0 (by simp) ?_⟩⟩
        exact ⟨_, _, _, _, rfl, s7.trans (s8.trans (same_upd np2))⟩))
end
section
variable {P : Program} {w : World} {K : PySem.W.Frag} {mg : Str → Option Value} {base : Heap}
def sp_law (K : PySem.W.Frag) : Sp := fun vs H Q _ => ∃ (a : Addr) (ns : List Int) (o : HO), vs = [.ref a] ∧ SqL K H a (ns.map V.int) ∧ ns.length ≤ 63 ∧ H sysModules = some o ∧ ∀ H', Q (.bl true) H'
theorem ok_law (TX : Tx K mg) : FnG P w K mg base CX0 66 TX.a_law TX.fd_law ["_law_script"] (sp_law K) := by
  refine Fun.okG TX.f_law sc_law (fun vs H Q E h => ?_) (fun cdv A hgd outer s H vs Q E hr h => ?_)
  · obtain ⟨a, ns, o, rfl, _⟩ := h; rfl
  · obtain ⟨a, ns, o, rfl, hS, hlen, hsys, q⟩ := h
    refine ⟨_, (pss_one (ps_ret (pe_callB (id := "all") (cr_all rfl) (by rfl) TX.b_all (by decide +kernel) (pa_cons (pe_lc (own := [("_law_k", 1)]) (by rfl) sc_law.nd (pi_range1 (by rfl) TX.b_range (pa_cons (pe_op op_add pe_int (pe_callB (id := "min") (call_min2 rfl) (by rfl) TX.b_min (by decide +kernel) (pa_cons pe_int (pa_cons (pe_callB (id := "len") (k_len (K := K) rfl) (by rfl) TX.b_len (by decide +kernel) (pa_cons (pv 0) pa_nil)) pa_nil)))) pa_nil)) (blkOk_by (own := [("_law_k", 1)]) (N := N_law) (sc := defScope s_law) (by decide +kernel)) (fun _ _ _ _ _ => (pg_name (i := 1) sc_law.nd rfl (Or.inl rfl))) (fun _ _ _ _ _ => pts_nil) (fun _ _ _ _ _ => (pe_callG (ok_L_right TX) hgd (hr.mono (by decide)) (by rfl) TX.g_L_right TX.f_L_right.kp TX.bd_L_right .nil pass0 (pa_cons (pe_call (ok_L_pot TX) (hr.mono (by decide)) (by rfl) TX.g_L_pot TX.f_L_pot.kp TX.bd_L_pot .nil pass0 (pa_cons (pv 0) (pa_cons (pv 1) pa_nil))) pa_nil)))) pa_nil)))), ?_⟩
    refine ⟨.ref a, rfl, a, _, rfl, .inl hS, _, _, rfl, _, _, rfl, rfl, ?_⟩
    obtain ⟨m, hm⟩ : ∃ m : Nat, m = (1 + (if ((ns.map V.int).length : Int) < 3 then ((ns.map V.int).length : Int) else 3)).toNat := ⟨_, rfl⟩
    have hm2 : m ≤ 4 := by rw [hm]; split <;> omega
    refine ⟨_, rfl, by split <;> omega, by split <;> omega, fun D nD => ?_⟩
    refine lc_all (K := K) walk_range ((List.replicate m true).map PyData.bool) (by rw [List.length_map, List.length_replicate, hm]) (fun d h => by obtain ⟨b, _, rfl⟩ := List.mem_map.mp h; exact .bl b) (by split <;> omega) nD (fun _ _ => trivial) ?_ ?_ (fun x σ' H' Q Q' h => h _ _) (fun σ' H' Q Q' h => h _ _)
    · rintro i x Hx Hx' hi sx hy d hd R hR
      obtain ⟨rfl, rfl⟩ := hy
      have hi2 : i < m := by rw [hm]; exact hi
      have ei : (0 : Int) + ((i : Nat) : Int) = ((i : Nat) : Int) := by omega
      dsimp only
      rw [ei]
      rw [List.getElem?_map, List.getElem?_replicate, if_pos hi2] at hd
      cases hd
      refine ⟨rfl, rfl, .ref a, rfl, _, rfl, a, ns, i, rfl, sx.seq hS, by omega, fun H2 p s2 np pp => ?_⟩
      have hs2 := s2 _ _ (sx _ _ hsys)
      have nps : p ≠ sysModules := fun z => by rw [z, sx _ _ hsys] at np; cases np
      exact ⟨p, o, rfl, pp, hs2, nps, fun H3 b3 => hR _ _ (But.same s2 b3 np) (.bl true)⟩
    · intro H2 acc s2 ha hA
      rw [dpBoolsI hA] at ha
      refine ⟨D, List.replicate m true, rfl, .inl (.inl ha), ?_⟩
      rw [show (List.replicate m true).all id = true by simp]
      exact q _
end
theorem all_mk {l : PySem.W.OpenLaw} {w : World} {K : PySem.W.Frag} {h : Heap} {mg : Str → Option Value} {fa : Addr} (X : K.In h) (G : h.Ns mainGlobals mg) (hfa : mg "law" = some (.ref fa))
    {f_is_int : Addr} {od_is_int an_is_int : Option Addr} {sl_is_int : Array (Option Value)} {oc_is_int kV_is_int dc_is_int pm_is_int cd_is_int ct_is_int : Value}
    (a_is_int : PySem.W.nsIn K mainGlobals "is_int" = some (some (.ref f_is_int))) (l_is_int : K.lookup f_is_int = some ⟨oc_is_int, od_is_int, .func (PySem.W.fnOf "is_int" "is_int" (defArgs s_is_int) (defBody s_is_int) (defScope s_is_int) .none kV_is_int dc_is_int pm_is_int an_is_int cd_is_int ct_is_int), sl_is_int⟩) (c_is_int : PySem.W.codeIn K cd_is_int "is_int" = true) (k_is_int : PySem.W.keepIn K (.ref f_is_int) = true)
    {f_is_count : Addr} {od_is_count an_is_count : Option Addr} {sl_is_count : Array (Option Value)} {oc_is_count kV_is_count dc_is_count pm_is_count cd_is_count ct_is_count : Value}
    (a_is_count : PySem.W.nsIn K mainGlobals "is_count" = some (some (.ref f_is_count))) (l_is_count : K.lookup f_is_count = some ⟨oc_is_count, od_is_count, .func (PySem.W.fnOf "is_count" "is_count" (defArgs s_is_count) (defBody s_is_count) (defScope s_is_count) .none kV_is_count dc_is_count pm_is_count an_is_count cd_is_count ct_is_count), sl_is_count⟩) (c_is_count : PySem.W.codeIn K cd_is_count "is_count" = true) (k_is_count : PySem.W.keepIn K (.ref f_is_count) = true)
    {f_is_count_up_to : Addr} {od_is_count_up_to an_is_count_up_to : Option Addr} {sl_is_count_up_to : Array (Option Value)} {oc_is_count_up_to kV_is_count_up_to dc_is_count_up_to pm_is_count_up_to cd_is_count_up_to ct_is_count_up_to : Value}
    (a_is_count_up_to : PySem.W.nsIn K mainGlobals "is_count_up_to" = some (some (.ref f_is_count_up_to))) (l_is_count_up_to : K.lookup f_is_count_up_to = some ⟨oc_is_count_up_to, od_is_count_up_to, .func (PySem.W.fnOf "is_count_up_to" "is_count_up_to" (defArgs s_is_count_up_to) (defBody s_is_count_up_to) (defScope s_is_count_up_to) .none kV_is_count_up_to dc_is_count_up_to pm_is_count_up_to an_is_count_up_to cd_is_count_up_to ct_is_count_up_to), sl_is_count_up_to⟩) (c_is_count_up_to : PySem.W.codeIn K cd_is_count_up_to "is_count_up_to" = true) (k_is_count_up_to : PySem.W.keepIn K (.ref f_is_count_up_to) = true)
    {f_are_loads : Addr} {od_are_loads an_are_loads : Option Addr} {sl_are_loads : Array (Option Value)} {oc_are_loads kV_are_loads dc_are_loads pm_are_loads cd_are_loads ct_are_loads : Value}
    (a_are_loads : PySem.W.nsIn K mainGlobals "are_loads" = some (some (.ref f_are_loads))) (l_are_loads : K.lookup f_are_loads = some ⟨oc_are_loads, od_are_loads, .func (PySem.W.fnOf "are_loads" "are_loads" (defArgs s_are_loads) (defBody s_are_loads) (defScope s_are_loads) .none kV_are_loads dc_are_loads pm_are_loads an_are_loads cd_are_loads ct_are_loads), sl_are_loads⟩) (c_are_loads : PySem.W.codeIn K cd_are_loads "are_loads" = true) (k_are_loads : PySem.W.keepIn K (.ref f_are_loads) = true)
    {f_check_sizes : Addr} {od_check_sizes an_check_sizes : Option Addr} {sl_check_sizes : Array (Option Value)} {oc_check_sizes kV_check_sizes dc_check_sizes pm_check_sizes cd_check_sizes ct_check_sizes : Value}
    (a_check_sizes : PySem.W.nsIn K mainGlobals "check_sizes" = some (some (.ref f_check_sizes))) (l_check_sizes : K.lookup f_check_sizes = some ⟨oc_check_sizes, od_check_sizes, .func (PySem.W.fnOf "check_sizes" "check_sizes" (defArgs s_check_sizes) (defBody s_check_sizes) (defScope s_check_sizes) .none kV_check_sizes dc_check_sizes pm_check_sizes an_check_sizes cd_check_sizes ct_check_sizes), sl_check_sizes⟩) (c_check_sizes : PySem.W.codeIn K cd_check_sizes "check_sizes" = true) (k_check_sizes : PySem.W.keepIn K (.ref f_check_sizes) = true)
    {f_check_reads : Addr} {od_check_reads an_check_reads : Option Addr} {sl_check_reads : Array (Option Value)} {oc_check_reads kV_check_reads dc_check_reads pm_check_reads cd_check_reads ct_check_reads : Value}
    (a_check_reads : PySem.W.nsIn K mainGlobals "check_reads" = some (some (.ref f_check_reads))) (l_check_reads : K.lookup f_check_reads = some ⟨oc_check_reads, od_check_reads, .func (PySem.W.fnOf "check_reads" "check_reads" (defArgs s_check_reads) (defBody s_check_reads) (defScope s_check_reads) .none kV_check_reads dc_check_reads pm_check_reads an_check_reads cd_check_reads ct_check_reads), sl_check_reads⟩) (c_check_reads : PySem.W.codeIn K cd_check_reads "check_reads" = true) (k_check_reads : PySem.W.keepIn K (.ref f_check_reads) = true)
    {f_check_loads : Addr} {od_check_loads an_check_loads : Option Addr} {sl_check_loads : Array (Option Value)} {oc_check_loads kV_check_loads dc_check_loads pm_check_loads cd_check_loads ct_check_loads : Value}
    (a_check_loads : PySem.W.nsIn K mainGlobals "check_loads" = some (some (.ref f_check_loads))) (l_check_loads : K.lookup f_check_loads = some ⟨oc_check_loads, od_check_loads, .func (PySem.W.fnOf "check_loads" "check_loads" (defArgs s_check_loads) (defBody s_check_loads) (defScope s_check_loads) .none kV_check_loads dc_check_loads pm_check_loads an_check_loads cd_check_loads ct_check_loads), sl_check_loads⟩) (c_check_loads : PySem.W.codeIn K cd_check_loads "check_loads" = true) (k_check_loads : PySem.W.keepIn K (.ref f_check_loads) = true)
    {f_least_rows : Addr} {od_least_rows an_least_rows : Option Addr} {sl_least_rows : Array (Option Value)} {oc_least_rows kV_least_rows dc_least_rows pm_least_rows cd_least_rows ct_least_rows : Value}
    (a_least_rows : PySem.W.nsIn K mainGlobals "least_rows" = some (some (.ref f_least_rows))) (l_least_rows : K.lookup f_least_rows = some ⟨oc_least_rows, od_least_rows, .func (PySem.W.fnOf "least_rows" "least_rows" (defArgs s_least_rows) (defBody s_least_rows) (defScope s_least_rows) .none kV_least_rows dc_least_rows pm_least_rows an_least_rows cd_least_rows ct_least_rows), sl_least_rows⟩) (c_least_rows : PySem.W.codeIn K cd_least_rows "least_rows" = true) (k_least_rows : PySem.W.keepIn K (.ref f_least_rows) = true)
    {f_load_sums : Addr} {od_load_sums an_load_sums : Option Addr} {sl_load_sums : Array (Option Value)} {oc_load_sums kV_load_sums dc_load_sums pm_load_sums cd_load_sums ct_load_sums : Value}
    (a_load_sums : PySem.W.nsIn K mainGlobals "load_sums" = some (some (.ref f_load_sums))) (l_load_sums : K.lookup f_load_sums = some ⟨oc_load_sums, od_load_sums, .func (PySem.W.fnOf "load_sums" "load_sums" (defArgs s_load_sums) (defBody s_load_sums) (defScope s_load_sums) .none kV_load_sums dc_load_sums pm_load_sums an_load_sums cd_load_sums ct_load_sums), sl_load_sums⟩) (c_load_sums : PySem.W.codeIn K cd_load_sums "load_sums" = true) (k_load_sums : PySem.W.keepIn K (.ref f_load_sums) = true)
    {f_running_sums : Addr} {od_running_sums an_running_sums : Option Addr} {sl_running_sums : Array (Option Value)} {oc_running_sums kV_running_sums dc_running_sums pm_running_sums cd_running_sums ct_running_sums : Value}
    (a_running_sums : PySem.W.nsIn K mainGlobals "running_sums" = some (some (.ref f_running_sums))) (l_running_sums : K.lookup f_running_sums = some ⟨oc_running_sums, od_running_sums, .func (PySem.W.fnOf "running_sums" "running_sums" (defArgs s_running_sums) (defBody s_running_sums) (defScope s_running_sums) .none kV_running_sums dc_running_sums pm_running_sums an_running_sums cd_running_sums ct_running_sums), sl_running_sums⟩) (c_running_sums : PySem.W.codeIn K cd_running_sums "running_sums" = true) (k_running_sums : PySem.W.keepIn K (.ref f_running_sums) = true)
    {f_works_by_root : Addr} {od_works_by_root an_works_by_root : Option Addr} {sl_works_by_root : Array (Option Value)} {oc_works_by_root kV_works_by_root dc_works_by_root pm_works_by_root cd_works_by_root ct_works_by_root : Value}
    (a_works_by_root : PySem.W.nsIn K mainGlobals "works_by_root" = some (some (.ref f_works_by_root))) (l_works_by_root : K.lookup f_works_by_root = some ⟨oc_works_by_root, od_works_by_root, .func (PySem.W.fnOf "works_by_root" "works_by_root" (defArgs s_works_by_root) (defBody s_works_by_root) (defScope s_works_by_root) .none kV_works_by_root dc_works_by_root pm_works_by_root an_works_by_root cd_works_by_root ct_works_by_root), sl_works_by_root⟩) (c_works_by_root : PySem.W.codeIn K cd_works_by_root "works_by_root" = true) (k_works_by_root : PySem.W.keepIn K (.ref f_works_by_root) = true)
    {f_root_cost : Addr} {od_root_cost an_root_cost : Option Addr} {sl_root_cost : Array (Option Value)} {oc_root_cost kV_root_cost dc_root_cost pm_root_cost cd_root_cost ct_root_cost : Value}
    (a_root_cost : PySem.W.nsIn K mainGlobals "root_cost" = some (some (.ref f_root_cost))) (l_root_cost : K.lookup f_root_cost = some ⟨oc_root_cost, od_root_cost, .func (PySem.W.fnOf "root_cost" "root_cost" (defArgs s_root_cost) (defBody s_root_cost) (defScope s_root_cost) .none kV_root_cost dc_root_cost pm_root_cost an_root_cost cd_root_cost ct_root_cost), sl_root_cost⟩) (c_root_cost : PySem.W.codeIn K cd_root_cost "root_cost" = true) (k_root_cost : PySem.W.keepIn K (.ref f_root_cost) = true)
    {f_table : Addr} {od_table an_table : Option Addr} {sl_table : Array (Option Value)} {oc_table kV_table dc_table pm_table cd_table ct_table : Value}
    (a_table : PySem.W.nsIn K mainGlobals "table" = some (some (.ref f_table))) (l_table : K.lookup f_table = some ⟨oc_table, od_table, .func (PySem.W.fnOf "table" "table" (defArgs s_table) (defBody s_table) (defScope s_table) .none kV_table dc_table pm_table an_table cd_table ct_table), sl_table⟩) (c_table : PySem.W.codeIn K cd_table "table" = true) (k_table : PySem.W.keepIn K (.ref f_table) = true)
    {f_shows_bound : Addr} {od_shows_bound an_shows_bound : Option Addr} {sl_shows_bound : Array (Option Value)} {oc_shows_bound kV_shows_bound dc_shows_bound pm_shows_bound cd_shows_bound ct_shows_bound : Value}
    (a_shows_bound : PySem.W.nsIn K mainGlobals "shows_bound" = some (some (.ref f_shows_bound))) (l_shows_bound : K.lookup f_shows_bound = some ⟨oc_shows_bound, od_shows_bound, .func (PySem.W.fnOf "shows_bound" "shows_bound" (defArgs s_shows_bound) (defBody s_shows_bound) (defScope s_shows_bound) .none kV_shows_bound dc_shows_bound pm_shows_bound an_shows_bound cd_shows_bound ct_shows_bound), sl_shows_bound⟩) (c_shows_bound : PySem.W.codeIn K cd_shows_bound "shows_bound" = true) (k_shows_bound : PySem.W.keepIn K (.ref f_shows_bound) = true)
    {f_is_bound_table : Addr} {od_is_bound_table an_is_bound_table : Option Addr} {sl_is_bound_table : Array (Option Value)} {oc_is_bound_table kV_is_bound_table dc_is_bound_table pm_is_bound_table cd_is_bound_table ct_is_bound_table : Value}
    (a_is_bound_table : PySem.W.nsIn K mainGlobals "is_bound_table" = some (some (.ref f_is_bound_table))) (l_is_bound_table : K.lookup f_is_bound_table = some ⟨oc_is_bound_table, od_is_bound_table, .func (PySem.W.fnOf "is_bound_table" "is_bound_table" (defArgs s_is_bound_table) (defBody s_is_bound_table) (defScope s_is_bound_table) .none kV_is_bound_table dc_is_bound_table pm_is_bound_table an_is_bound_table cd_is_bound_table ct_is_bound_table), sl_is_bound_table⟩) (c_is_bound_table : PySem.W.codeIn K cd_is_bound_table "is_bound_table" = true) (k_is_bound_table : PySem.W.keepIn K (.ref f_is_bound_table) = true)
    {f_has_shape : Addr} {od_has_shape an_has_shape : Option Addr} {sl_has_shape : Array (Option Value)} {oc_has_shape kV_has_shape dc_has_shape pm_has_shape cd_has_shape ct_has_shape : Value}
    (a_has_shape : PySem.W.nsIn K mainGlobals "has_shape" = some (some (.ref f_has_shape))) (l_has_shape : K.lookup f_has_shape = some ⟨oc_has_shape, od_has_shape, .func (PySem.W.fnOf "has_shape" "has_shape" (defArgs s_has_shape) (defBody s_has_shape) (defScope s_has_shape) .none kV_has_shape dc_has_shape pm_has_shape an_has_shape cd_has_shape ct_has_shape), sl_has_shape⟩) (c_has_shape : PySem.W.codeIn K cd_has_shape "has_shape" = true) (k_has_shape : PySem.W.keepIn K (.ref f_has_shape) = true)
    {f_intervals : Addr} {od_intervals an_intervals : Option Addr} {sl_intervals : Array (Option Value)} {oc_intervals kV_intervals dc_intervals pm_intervals cd_intervals ct_intervals : Value}
    (a_intervals : PySem.W.nsIn K mainGlobals "intervals" = some (some (.ref f_intervals))) (l_intervals : K.lookup f_intervals = some ⟨oc_intervals, od_intervals, .func (PySem.W.fnOf "intervals" "intervals" (defArgs s_intervals) (defBody s_intervals) (defScope s_intervals) .none kV_intervals dc_intervals pm_intervals an_intervals cd_intervals ct_intervals), sl_intervals⟩) (c_intervals : PySem.W.codeIn K cd_intervals "intervals" = true) (k_intervals : PySem.W.keepIn K (.ref f_intervals) = true)
    {f_is_low : Addr} {od_is_low an_is_low : Option Addr} {sl_is_low : Array (Option Value)} {oc_is_low kV_is_low dc_is_low pm_is_low cd_is_low ct_is_low : Value}
    (a_is_low : PySem.W.nsIn K mainGlobals "is_low" = some (some (.ref f_is_low))) (l_is_low : K.lookup f_is_low = some ⟨oc_is_low, od_is_low, .func (PySem.W.fnOf "is_low" "is_low" (defArgs s_is_low) (defBody s_is_low) (defScope s_is_low) .none kV_is_low dc_is_low pm_is_low an_is_low cd_is_low ct_is_low), sl_is_low⟩) (c_is_low : PySem.W.codeIn K cd_is_low "is_low" = true) (k_is_low : PySem.W.keepIn K (.ref f_is_low) = true)
    {f_L_pot : Addr} {od_L_pot an_L_pot : Option Addr} {sl_L_pot : Array (Option Value)} {oc_L_pot kV_L_pot dc_L_pot pm_L_pot cd_L_pot ct_L_pot : Value}
    (a_L_pot : PySem.W.nsIn K mainGlobals "_law_pot" = some (some (.ref f_L_pot))) (l_L_pot : K.lookup f_L_pot = some ⟨oc_L_pot, od_L_pot, .func (PySem.W.fnOf "_law_pot" "_law_pot" (defArgs s_L_pot) (defBody s_L_pot) (defScope s_L_pot) .none kV_L_pot dc_L_pot pm_L_pot an_L_pot cd_L_pot ct_L_pot), sl_L_pot⟩) (c_L_pot : PySem.W.codeIn K cd_L_pot "_law_pot" = true) (k_L_pot : PySem.W.keepIn K (.ref f_L_pot) = true)
    {f_L_take : Addr} {od_L_take an_L_take : Option Addr} {sl_L_take : Array (Option Value)} {oc_L_take kV_L_take dc_L_take pm_L_take cd_L_take ct_L_take : Value}
    (a_L_take : PySem.W.nsIn K mainGlobals "_law_take" = some (some (.ref f_L_take))) (l_L_take : K.lookup f_L_take = some ⟨oc_L_take, od_L_take, .func (PySem.W.fnOf "_law_take" "_law_take" (defArgs s_L_take) (defBody s_L_take) (defScope s_L_take) .none kV_L_take dc_L_take pm_L_take an_L_take cd_L_take ct_L_take), sl_L_take⟩) (c_L_take : PySem.W.codeIn K cd_L_take "_law_take" = true) (k_L_take : PySem.W.keepIn K (.ref f_L_take) = true)
    {f_L_of : Addr} {od_L_of an_L_of : Option Addr} {sl_L_of : Array (Option Value)} {oc_L_of kV_L_of dc_L_of pm_L_of cd_L_of ct_L_of : Value}
    (a_L_of : PySem.W.nsIn K mainGlobals "_law_of" = some (some (.ref f_L_of))) (l_L_of : K.lookup f_L_of = some ⟨oc_L_of, od_L_of, .func (PySem.W.fnOf "_law_of" "_law_of" (defArgs s_L_of) (defBody s_L_of) (defScope s_L_of) .none kV_L_of dc_L_of pm_L_of an_L_of cd_L_of ct_L_of), sl_L_of⟩) (c_L_of : PySem.W.codeIn K cd_L_of "_law_of" = true) (k_L_of : PySem.W.keepIn K (.ref f_L_of) = true)
    {f_L_load : Addr} {od_L_load an_L_load : Option Addr} {sl_L_load : Array (Option Value)} {oc_L_load kV_L_load dc_L_load pm_L_load cd_L_load ct_L_load : Value}
    (a_L_load : PySem.W.nsIn K mainGlobals "_law_load" = some (some (.ref f_L_load))) (l_L_load : K.lookup f_L_load = some ⟨oc_L_load, od_L_load, .func (PySem.W.fnOf "_law_load" "_law_load" (defArgs s_L_load) (defBody s_L_load) (defScope s_L_load) .none kV_L_load dc_L_load pm_L_load an_L_load cd_L_load ct_L_load), sl_L_load⟩) (c_L_load : PySem.W.codeIn K cd_L_load "_law_load" = true) (k_L_load : PySem.W.keepIn K (.ref f_L_load) = true)
    {f_L_sums : Addr} {od_L_sums an_L_sums : Option Addr} {sl_L_sums : Array (Option Value)} {oc_L_sums kV_L_sums dc_L_sums pm_L_sums cd_L_sums ct_L_sums : Value}
    (a_L_sums : PySem.W.nsIn K mainGlobals "_law_sums" = some (some (.ref f_L_sums))) (l_L_sums : K.lookup f_L_sums = some ⟨oc_L_sums, od_L_sums, .func (PySem.W.fnOf "_law_sums" "_law_sums" (defArgs s_L_sums) (defBody s_L_sums) (defScope s_L_sums) .none kV_L_sums dc_L_sums pm_L_sums an_L_sums cd_L_sums ct_L_sums), sl_L_sums⟩) (c_L_sums : PySem.W.codeIn K cd_L_sums "_law_sums" = true) (k_L_sums : PySem.W.keepIn K (.ref f_L_sums) = true)
    {f_L_odd : Addr} {od_L_odd an_L_odd : Option Addr} {sl_L_odd : Array (Option Value)} {oc_L_odd kV_L_odd dc_L_odd pm_L_odd cd_L_odd ct_L_odd : Value}
    (a_L_odd : PySem.W.nsIn K mainGlobals "_law_odd" = some (some (.ref f_L_odd))) (l_L_odd : K.lookup f_L_odd = some ⟨oc_L_odd, od_L_odd, .func (PySem.W.fnOf "_law_odd" "_law_odd" (defArgs s_L_odd) (defBody s_L_odd) (defScope s_L_odd) .none kV_L_odd dc_L_odd pm_L_odd an_L_odd cd_L_odd ct_L_odd), sl_L_odd⟩) (c_L_odd : PySem.W.codeIn K cd_L_odd "_law_odd" = true) (k_L_odd : PySem.W.keepIn K (.ref f_L_odd) = true)
    {f_L_bent : Addr} {od_L_bent an_L_bent : Option Addr} {sl_L_bent : Array (Option Value)} {oc_L_bent kV_L_bent dc_L_bent pm_L_bent cd_L_bent ct_L_bent : Value}
    (a_L_bent : PySem.W.nsIn K mainGlobals "_law_bent" = some (some (.ref f_L_bent))) (l_L_bent : K.lookup f_L_bent = some ⟨oc_L_bent, od_L_bent, .func (PySem.W.fnOf "_law_bent" "_law_bent" (defArgs s_L_bent) (defBody s_L_bent) (defScope s_L_bent) .none kV_L_bent dc_L_bent pm_L_bent an_L_bent cd_L_bent ct_L_bent), sl_L_bent⟩) (c_L_bent : PySem.W.codeIn K cd_L_bent "_law_bent" = true) (k_L_bent : PySem.W.keepIn K (.ref f_L_bent) = true)
    {f_L_is_int : Addr} {od_L_is_int an_L_is_int : Option Addr} {sl_L_is_int : Array (Option Value)} {oc_L_is_int kV_L_is_int dc_L_is_int pm_L_is_int cd_L_is_int ct_L_is_int : Value}
    (a_L_is_int : PySem.W.nsIn K mainGlobals "_law_is_int" = some (some (.ref f_L_is_int))) (l_L_is_int : K.lookup f_L_is_int = some ⟨oc_L_is_int, od_L_is_int, .func (PySem.W.fnOf "_law_is_int" "_law_is_int" (defArgs s_L_is_int) (defBody s_L_is_int) (defScope s_L_is_int) .none kV_L_is_int dc_L_is_int pm_L_is_int an_L_is_int cd_L_is_int ct_L_is_int), sl_L_is_int⟩) (c_L_is_int : PySem.W.codeIn K cd_L_is_int "_law_is_int" = true) (k_L_is_int : PySem.W.keepIn K (.ref f_L_is_int) = true)
    {f_L_has_shape : Addr} {od_L_has_shape an_L_has_shape : Option Addr} {sl_L_has_shape : Array (Option Value)} {oc_L_has_shape kV_L_has_shape dc_L_has_shape pm_L_has_shape cd_L_has_shape ct_L_has_shape : Value}
    (a_L_has_shape : PySem.W.nsIn K mainGlobals "_law_has_shape" = some (some (.ref f_L_has_shape))) (l_L_has_shape : K.lookup f_L_has_shape = some ⟨oc_L_has_shape, od_L_has_shape, .func (PySem.W.fnOf "_law_has_shape" "_law_has_shape" (defArgs s_L_has_shape) (defBody s_L_has_shape) (defScope s_L_has_shape) .none kV_L_has_shape dc_L_has_shape pm_L_has_shape an_L_has_shape cd_L_has_shape ct_L_has_shape), sl_L_has_shape⟩) (c_L_has_shape : PySem.W.codeIn K cd_L_has_shape "_law_has_shape" = true) (k_L_has_shape : PySem.W.keepIn K (.ref f_L_has_shape) = true)
    {f_L_is_bound : Addr} {od_L_is_bound an_L_is_bound : Option Addr} {sl_L_is_bound : Array (Option Value)} {oc_L_is_bound kV_L_is_bound dc_L_is_bound pm_L_is_bound cd_L_is_bound ct_L_is_bound : Value}
    (a_L_is_bound : PySem.W.nsIn K mainGlobals "_law_is_bound" = some (some (.ref f_L_is_bound))) (l_L_is_bound : K.lookup f_L_is_bound = some ⟨oc_L_is_bound, od_L_is_bound, .func (PySem.W.fnOf "_law_is_bound" "_law_is_bound" (defArgs s_L_is_bound) (defBody s_L_is_bound) (defScope s_L_is_bound) .none kV_L_is_bound dc_L_is_bound pm_L_is_bound an_L_is_bound cd_L_is_bound ct_L_is_bound), sl_L_is_bound⟩) (c_L_is_bound : PySem.W.codeIn K cd_L_is_bound "_law_is_bound" = true) (k_L_is_bound : PySem.W.keepIn K (.ref f_L_is_bound) = true)
    {f_L_lowered : Addr} {od_L_lowered an_L_lowered : Option Addr} {sl_L_lowered : Array (Option Value)} {oc_L_lowered kV_L_lowered dc_L_lowered pm_L_lowered cd_L_lowered ct_L_lowered : Value}
    (a_L_lowered : PySem.W.nsIn K mainGlobals "_law_lowered" = some (some (.ref f_L_lowered))) (l_L_lowered : K.lookup f_L_lowered = some ⟨oc_L_lowered, od_L_lowered, .func (PySem.W.fnOf "_law_lowered" "_law_lowered" (defArgs s_L_lowered) (defBody s_L_lowered) (defScope s_L_lowered) .none kV_L_lowered dc_L_lowered pm_L_lowered an_L_lowered cd_L_lowered ct_L_lowered), sl_L_lowered⟩) (c_L_lowered : PySem.W.codeIn K cd_L_lowered "_law_lowered" = true) (k_L_lowered : PySem.W.keepIn K (.ref f_L_lowered) = true)
    {f_L_raised : Addr} {od_L_raised an_L_raised : Option Addr} {sl_L_raised : Array (Option Value)} {oc_L_raised kV_L_raised dc_L_raised pm_L_raised cd_L_raised ct_L_raised : Value}
    (a_L_raised : PySem.W.nsIn K mainGlobals "_law_raised" = some (some (.ref f_L_raised))) (l_L_raised : K.lookup f_L_raised = some ⟨oc_L_raised, od_L_raised, .func (PySem.W.fnOf "_law_raised" "_law_raised" (defArgs s_L_raised) (defBody s_L_raised) (defScope s_L_raised) .none kV_L_raised dc_L_raised pm_L_raised an_L_raised cd_L_raised ct_L_raised), sl_L_raised⟩) (c_L_raised : PySem.W.codeIn K cd_L_raised "_law_raised" = true) (k_L_raised : PySem.W.keepIn K (.ref f_L_raised) = true)
    {f_L_right : Addr} {od_L_right an_L_right : Option Addr} {sl_L_right : Array (Option Value)} {oc_L_right kV_L_right dc_L_right pm_L_right cd_L_right ct_L_right : Value}
    (a_L_right : PySem.W.nsIn K mainGlobals "_law_right" = some (some (.ref f_L_right))) (l_L_right : K.lookup f_L_right = some ⟨oc_L_right, od_L_right, .func (PySem.W.fnOf "_law_right" "_law_right" (defArgs s_L_right) (defBody s_L_right) (defScope s_L_right) .none kV_L_right dc_L_right pm_L_right an_L_right cd_L_right ct_L_right), sl_L_right⟩) (c_L_right : PySem.W.codeIn K cd_L_right "_law_right" = true) (k_L_right : PySem.W.keepIn K (.ref f_L_right) = true)
    {f_law : Addr} {od_law an_law : Option Addr} {sl_law : Array (Option Value)} {oc_law kV_law dc_law pm_law cd_law ct_law : Value}
    (a_law : PySem.W.nsIn K mainGlobals "law" = some (some (.ref f_law))) (l_law : K.lookup f_law = some ⟨oc_law, od_law, .func (PySem.W.fnOf "law" "law" (defArgs s_law) (defBody s_law) (defScope s_law) .none kV_law dc_law pm_law an_law cd_law ct_law), sl_law⟩) (c_law : PySem.W.codeIn K cd_law "law" = true) (k_law : PySem.W.keepIn K (.ref f_law) = true)
    (z_isinstance : PySem.W.nsIn K mainGlobals "isinstance" = some none)
    (z_int : PySem.W.nsIn K mainGlobals "int" = some none)
    (z_bool : PySem.W.nsIn K mainGlobals "bool" = some none)
    (z_all : PySem.W.nsIn K mainGlobals "all" = some none)
    (z_tuple : PySem.W.nsIn K mainGlobals "tuple" = some none)
    (z_len : PySem.W.nsIn K mainGlobals "len" = some none)
    (z_reversed : PySem.W.nsIn K mainGlobals "reversed" = some none)
    (z_range : PySem.W.nsIn K mainGlobals "range" = some none)
    (z_min : PySem.W.nsIn K mainGlobals "min" = some none)
    (z_enumerate : PySem.W.nsIn K mainGlobals "enumerate" = some none)
    (z_abs : PySem.W.nsIn K mainGlobals "abs" = some none)
    (z_list : PySem.W.nsIn K mainGlobals "list" = some none)
    (z_str : PySem.W.nsIn K mainGlobals "str" = some none)
    (z_repr : PySem.W.nsIn K mainGlobals "repr" = some none)
    {t_MOST_LOAD : Tok} (y_MOST_LOAD : PySem.W.nsIn K mainGlobals "MOST_LOAD" = some (some (.int (1000000000) t_MOST_LOAD)))
    {t_MOST_FLUSHES : Tok} (y_MOST_FLUSHES : PySem.W.nsIn K mainGlobals "MOST_FLUSHES" = some (some (.int (60) t_MOST_FLUSHES)))
    : ∃ fd : FuncData, (∀ (s : Shared) (v : Value), BindsTo s fd ⟨[v], []⟩ [("_law_script", v)]) ∧ ∀ base : Heap, K.In base → base.Ns mainGlobals mg → FnG l.prog w K mg base CX0 66 fa fd ["_law_script"] (sp_law K) := by
  have e := hfa.symm.trans (PySem.W.mg_of X G a_law)
  cases e
  have F_is_int := fun_mk (st := s_is_int) l_is_int c_is_int k_is_int
  have B_is_int := F_is_int.binds (ps := ["value"]) fun _ _ _ _ _ _ us hl => match us, hl with | [_], _ => rfl
  have F_is_count := fun_mk (st := s_is_count) l_is_count c_is_count k_is_count
  have B_is_count := F_is_count.binds (ps := ["value"]) fun _ _ _ _ _ _ us hl => match us, hl with | [_], _ => rfl
  have F_is_count_up_to := fun_mk (st := s_is_count_up_to) l_is_count_up_to c_is_count_up_to k_is_count_up_to
  have B_is_count_up_to := F_is_count_up_to.binds (ps := ["value", "most"]) fun _ _ _ _ _ _ us hl => match us, hl with | [_, _], _ => rfl
  have F_are_loads := fun_mk (st := s_are_loads) l_are_loads c_are_loads k_are_loads
  have B_are_loads := F_are_loads.binds (ps := ["value", "fewest", "most"]) fun _ _ _ _ _ _ us hl => match us, hl with | [_, _, _], _ => rfl
  have F_check_sizes := fun_mk (st := s_check_sizes) l_check_sizes c_check_sizes k_check_sizes
  have B_check_sizes := F_check_sizes.binds (ps := ["sizes", "fewest", "most"]) fun _ _ _ _ _ _ us hl => match us, hl with | [_, _, _], _ => rfl
  have F_check_reads := fun_mk (st := s_check_reads) l_check_reads c_check_reads k_check_reads
  have B_check_reads := F_check_reads.binds (ps := ["reads", "flushes"]) fun _ _ _ _ _ _ us hl => match us, hl with | [_, _], _ => rfl
  have F_check_loads := fun_mk (st := s_check_loads) l_check_loads c_check_loads k_check_loads
  have B_check_loads := F_check_loads.binds (ps := ["sizes", "reads", "most"]) fun _ _ _ _ _ _ us hl => match us, hl with | [_, _, _], _ => rfl
  have F_least_rows := fun_mk (st := s_least_rows) l_least_rows c_least_rows k_least_rows
  have B_least_rows := F_least_rows.binds (ps := ["sizes", "reads"]) fun _ _ _ _ _ _ us hl => match us, hl with | [_, _], _ => rfl
  have F_load_sums := fun_mk (st := s_load_sums) l_load_sums c_load_sums k_load_sums
  have B_load_sums := F_load_sums.binds (ps := ["sizes", "reads"]) fun _ _ _ _ _ _ us hl => match us, hl with | [_, _], _ => rfl
  have F_running_sums := fun_mk (st := s_running_sums) l_running_sums c_running_sums k_running_sums
  have B_running_sums := F_running_sums.binds (ps := ["loads"]) fun _ _ _ _ _ _ us hl => match us, hl with | [_], _ => rfl
  have F_works_by_root := fun_mk (st := s_works_by_root) l_works_by_root c_works_by_root k_works_by_root
  have B_works_by_root := F_works_by_root.binds (ps := ["lefts", "rights", "sums", "start", "stop"]) fun _ _ _ _ _ _ us hl => match us, hl with | [_, _, _, _, _], _ => rfl
  have F_root_cost := fun_mk (st := s_root_cost) l_root_cost c_root_cost k_root_cost
  have B_root_cost := F_root_cost.binds (ps := ["sums", "start", "stop", "root"]) fun _ _ _ _ _ _ us hl => match us, hl with | [_, _, _, _], _ => rfl
  have F_table := fun_mk (st := s_table) l_table c_table k_table
  have B_table := F_table.binds (ps := ["sizes", "reads"]) fun _ _ _ _ _ _ us hl => match us, hl with | [_, _], _ => rfl
  have F_shows_bound := fun_mk (st := s_shows_bound) l_shows_bound c_shows_bound k_shows_bound
  have B_shows_bound := F_shows_bound.binds (ps := ["sizes", "reads", "bound", "value"]) fun _ _ _ _ _ _ us hl => match us, hl with | [_, _, _, _], _ => rfl
  have F_is_bound_table := fun_mk (st := s_is_bound_table) l_is_bound_table c_is_bound_table k_is_bound_table
  have B_is_bound_table := F_is_bound_table.binds (ps := ["value", "sizes", "reads"]) fun _ _ _ _ _ _ us hl => match us, hl with | [_, _, _], _ => rfl
  have F_has_shape := fun_mk (st := s_has_shape) l_has_shape c_has_shape k_has_shape
  have B_has_shape := F_has_shape.binds (ps := ["value", "n"]) fun _ _ _ _ _ _ us hl => match us, hl with | [_, _], _ => rfl
  have F_intervals := fun_mk (st := s_intervals) l_intervals c_intervals k_intervals
  have B_intervals := F_intervals.binds (ps := ["n"]) fun _ _ _ _ _ _ us hl => match us, hl with | [_], _ => rfl
  have F_is_low := fun_mk (st := s_is_low) l_is_low c_is_low k_is_low
  have B_is_low := F_is_low.binds (ps := ["rows", "lefts", "rights", "sums", "start", "stop"]) fun _ _ _ _ _ _ us hl => match us, hl with | [_, _, _, _, _, _], _ => rfl
  have F_L_pot := fun_mk (st := s_L_pot) l_L_pot c_L_pot k_L_pot
  have B_L_pot := F_L_pot.binds (ps := ["_law_script", "_law_k"]) fun _ _ _ _ _ _ us hl => match us, hl with | [_, _], _ => rfl
  have F_L_take := fun_mk (st := s_L_take) l_L_take c_L_take k_L_take
  have B_L_take := F_L_take.binds (ps := ["_law_pot_here", "_law_wide"]) fun _ _ _ _ _ _ us hl => match us, hl with | [_, _], _ => rfl
  have F_L_of := fun_mk (st := s_L_of) l_L_of c_L_of k_L_of
  have B_L_of := F_L_of.binds (ps := ["_law_pot_here", "_law_some"]) fun _ _ _ _ _ _ us hl => match us, hl with | [_, _], _ => rfl
  have F_L_load := fun_mk (st := s_L_load) l_L_load c_L_load k_L_load
  have B_L_load := F_L_load.binds (ps := ["_law_pot_here", "_law_count", "_law_wide"]) fun _ _ _ _ _ _ us hl => match us, hl with | [_, _, _], _ => rfl
  have F_L_sums := fun_mk (st := s_L_sums) l_L_sums c_L_sums k_L_sums
  have B_L_sums := F_L_sums.binds (ps := ["_law_some"]) fun _ _ _ _ _ _ us hl => match us, hl with | [_], _ => rfl
  have F_L_odd := fun_mk (st := s_L_odd) l_L_odd c_L_odd k_L_odd
  have B_L_odd := F_L_odd.binds (ps := ["_law_pot_here"]) fun _ _ _ _ _ _ us hl => match us, hl with | [_], _ => rfl
  have F_L_bent := fun_mk (st := s_L_bent) l_L_bent c_L_bent k_L_bent
  have B_L_bent := F_L_bent.binds (ps := ["_law_pot_here", "_law_thing"]) fun _ _ _ _ _ _ us hl => match us, hl with | [_, _], _ => rfl
  have F_L_is_int := fun_mk (st := s_L_is_int) l_L_is_int c_L_is_int k_L_is_int
  have B_L_is_int := F_L_is_int.binds (ps := ["_law_thing"]) fun _ _ _ _ _ _ us hl => match us, hl with | [_], _ => rfl
  have F_L_has_shape := fun_mk (st := s_L_has_shape) l_L_has_shape c_L_has_shape k_L_has_shape
  have B_L_has_shape := F_L_has_shape.binds (ps := ["_law_count", "_law_thing"]) fun _ _ _ _ _ _ us hl => match us, hl with | [_, _], _ => rfl
  have F_L_is_bound := fun_mk (st := s_L_is_bound) l_L_is_bound c_L_is_bound k_L_is_bound
  have B_L_is_bound := F_L_is_bound.binds (ps := ["_law_bulk", "_law_looks", "_law_thing"]) fun _ _ _ _ _ _ us hl => match us, hl with | [_, _, _], _ => rfl
  have F_L_lowered := fun_mk (st := s_L_lowered) l_L_lowered c_L_lowered k_L_lowered
  have B_L_lowered := F_L_lowered.binds (ps := ["_law_pot_here", "_law_bulk", "_law_looks"]) fun _ _ _ _ _ _ us hl => match us, hl with | [_, _, _], _ => rfl
  have F_L_raised := fun_mk (st := s_L_raised) l_L_raised c_L_raised k_L_raised
  have B_L_raised := F_L_raised.binds (ps := ["_law_pot_here", "_law_rows"]) fun _ _ _ _ _ _ us hl => match us, hl with | [_, _], _ => rfl
  have F_L_right := fun_mk (st := s_L_right) l_L_right c_L_right k_L_right
  have B_L_right := F_L_right.binds (ps := ["_law_pot_here"]) fun _ _ _ _ _ _ us hl => match us, hl with | [_], _ => rfl
  have F_law := fun_mk (st := s_law) l_law c_law k_law
  have B_law := F_law.binds (ps := ["_law_script"]) fun _ _ _ _ _ _ us hl => match us, hl with | [_], _ => rfl
  let TX : Tx K mg := ⟨_, _, F_is_int, PySem.W.mg_of X G a_is_int, B_is_int, _, _, F_is_count, PySem.W.mg_of X G a_is_count, B_is_count, _, _, F_is_count_up_to, PySem.W.mg_of X G a_is_count_up_to, B_is_count_up_to, _, _, F_are_loads, PySem.W.mg_of X G a_are_loads, B_are_loads, _, _, F_check_sizes, PySem.W.mg_of X G a_check_sizes, B_check_sizes, _, _, F_check_reads, PySem.W.mg_of X G a_check_reads, B_check_reads, _, _, F_check_loads, PySem.W.mg_of X G a_check_loads, B_check_loads, _, _, F_least_rows, PySem.W.mg_of X G a_least_rows, B_least_rows, _, _, F_load_sums, PySem.W.mg_of X G a_load_sums, B_load_sums, _, _, F_running_sums, PySem.W.mg_of X G a_running_sums, B_running_sums, _, _, F_works_by_root, PySem.W.mg_of X G a_works_by_root, B_works_by_root, _, _, F_root_cost, PySem.W.mg_of X G a_root_cost, B_root_cost, _, _, F_table, PySem.W.mg_of X G a_table, B_table, _, _, F_shows_bound, PySem.W.mg_of X G a_shows_bound, B_shows_bound, _, _, F_is_bound_table, PySem.W.mg_of X G a_is_bound_table, B_is_bound_table, _, _, F_has_shape, PySem.W.mg_of X G a_has_shape, B_has_shape, _, _, F_intervals, PySem.W.mg_of X G a_intervals, B_intervals, _, _, F_is_low, PySem.W.mg_of X G a_is_low, B_is_low, _, _, F_L_pot, PySem.W.mg_of X G a_L_pot, B_L_pot, _, _, F_L_take, PySem.W.mg_of X G a_L_take, B_L_take, _, _, F_L_of, PySem.W.mg_of X G a_L_of, B_L_of, _, _, F_L_load, PySem.W.mg_of X G a_L_load, B_L_load, _, _, F_L_sums, PySem.W.mg_of X G a_L_sums, B_L_sums, _, _, F_L_odd, PySem.W.mg_of X G a_L_odd, B_L_odd, _, _, F_L_bent, PySem.W.mg_of X G a_L_bent, B_L_bent, _, _, F_L_is_int, PySem.W.mg_of X G a_L_is_int, B_L_is_int, _, _, F_L_has_shape, PySem.W.mg_of X G a_L_has_shape, B_L_has_shape, _, _, F_L_is_bound, PySem.W.mg_of X G a_L_is_bound, B_L_is_bound, _, _, F_L_lowered, PySem.W.mg_of X G a_L_lowered, B_L_lowered, _, _, F_L_raised, PySem.W.mg_of X G a_L_raised, B_L_raised, _, _, F_L_right, PySem.W.mg_of X G a_L_right, B_L_right, _, _, F_law, PySem.W.mg_of X G a_law, B_law, PySem.W.mg_none_of X G z_isinstance, PySem.W.mg_none_of X G z_int, PySem.W.mg_none_of X G z_bool, PySem.W.mg_none_of X G z_all, PySem.W.mg_none_of X G z_tuple, PySem.W.mg_none_of X G z_len, PySem.W.mg_none_of X G z_reversed, PySem.W.mg_none_of X G z_range, PySem.W.mg_none_of X G z_min, PySem.W.mg_none_of X G z_enumerate, PySem.W.mg_none_of X G z_abs, PySem.W.mg_none_of X G z_list, PySem.W.mg_none_of X G z_str, PySem.W.mg_none_of X G z_repr, _, PySem.W.mg_of X G y_MOST_LOAD, _, PySem.W.mg_of X G y_MOST_FLUSHES⟩
  exact ⟨TX.fd_law, fun s v => .of_eq rfl, fun base _ _ => ok_law TX⟩
end MB
open PySem PySem.W PyProof.Rows
set_option maxHeartbeats 0 in
theorem PySem.Challenge.cw_mergebudget_k37_bound_tables_of_any_kind_holds : PySem.Challenge.rw_mergebudget_k37_bound_tables_of_any_kind.Holds := by
  w_on; o_law; k_head; (case hw => w_witness2)
  k_fill
  refine MB.walk_ofS (l := PySem.Challenge.rw_mergebudget_k37_bound_tables_of_any_kind) (n := 63) (k := 66) (x := "_law_script") (sp := MB.sp_law) rfl (by decide) rfl ⟨rfl, by decide, by decide⟩ (by decide +kernel) ?KS (fun w h Y => PySem.W.kIn_of Y) ?F (fun _ _ a ns o hl hS hy => ⟨a, ns, o, rfl, hS, hl, hy, fun _ => rfl⟩)
  case F =>
    intro w mg fa h KX G hmg
    refine' MB.all_mk KX G hmg ?a_is_int ?l_is_int ?c_is_int ?k_is_int ?a_is_count ?l_is_count ?c_is_count ?k_is_count ?a_is_count_up_to ?l_is_count_up_to ?c_is_count_up_to ?k_is_count_up_to ?a_are_loads ?l_are_loads ?c_are_loads ?k_are_loads ?a_check_sizes ?l_check_sizes ?c_check_sizes ?k_check_sizes ?a_check_reads ?l_check_reads ?c_check_reads ?k_check_reads ?a_check_loads ?l_check_loads ?c_check_loads ?k_check_loads ?a_least_rows ?l_least_rows ?c_least_rows ?k_least_rows ?a_load_sums ?l_load_sums ?c_load_sums ?k_load_sums ?a_running_sums ?l_running_sums ?c_running_sums ?k_running_sums ?a_works_by_root ?l_works_by_root ?c_works_by_root ?k_works_by_root ?a_root_cost ?l_root_cost ?c_root_cost ?k_root_cost ?a_table ?l_table ?c_table ?k_table ?a_shows_bound ?l_shows_bound ?c_shows_bound ?k_shows_bound ?a_is_bound_table ?l_is_bound_table ?c_is_bound_table ?k_is_bound_table ?a_has_shape ?l_has_shape ?c_has_shape ?k_has_shape ?a_intervals ?l_intervals ?c_intervals ?k_intervals ?a_is_low ?l_is_low ?c_is_low ?k_is_low ?a_L_pot ?l_L_pot ?c_L_pot ?k_L_pot ?a_L_take ?l_L_take ?c_L_take ?k_L_take ?a_L_of ?l_L_of ?c_L_of ?k_L_of ?a_L_load ?l_L_load ?c_L_load ?k_L_load ?a_L_sums ?l_L_sums ?c_L_sums ?k_L_sums ?a_L_odd ?l_L_odd ?c_L_odd ?k_L_odd ?a_L_bent ?l_L_bent ?c_L_bent ?k_L_bent ?a_L_is_int ?l_L_is_int ?c_L_is_int ?k_L_is_int ?a_L_has_shape ?l_L_has_shape ?c_L_has_shape ?k_L_has_shape ?a_L_is_bound ?l_L_is_bound ?c_L_is_bound ?k_L_is_bound ?a_L_lowered ?l_L_lowered ?c_L_lowered ?k_L_lowered ?a_L_raised ?l_L_raised ?c_L_raised ?k_L_raised ?a_L_right ?l_L_right ?c_L_right ?k_L_right ?a_law ?l_law ?c_law ?k_law ?z_isinstance ?z_int ?z_bool ?z_all ?z_tuple ?z_len ?z_reversed ?z_range ?z_min ?z_enumerate ?z_abs ?z_list ?z_str ?z_repr ?y_MOST_LOAD ?y_MOST_FLUSHES
    (case a_is_int => k_is); (case l_is_int => k_is); (case c_is_int => k_is); (case k_is_int => k_is); (case a_is_count => k_is); (case l_is_count => k_is); (case c_is_count => k_is); (case k_is_count => k_is); (case a_is_count_up_to => k_is); (case l_is_count_up_to => k_is); (case c_is_count_up_to => k_is); (case k_is_count_up_to => k_is); (case a_are_loads => k_is); (case l_are_loads => k_is); (case c_are_loads => k_is); (case k_are_loads => k_is); (case a_check_sizes => k_is); (case l_check_sizes => k_is); (case c_check_sizes => k_is); (case k_check_sizes => k_is); (case a_check_reads => k_is); (case l_check_reads => k_is); (case c_check_reads => k_is); (case k_check_reads => k_is); (case a_check_loads => k_is); (case l_check_loads => k_is); (case c_check_loads => k_is); (case k_check_loads => k_is); (case a_least_rows => k_is); (case l_least_rows => k_is); (case c_least_rows => k_is); (case k_least_rows => k_is); (case a_load_sums => k_is); (case l_load_sums => k_is); (case c_load_sums => k_is); (case k_load_sums => k_is); (case a_running_sums => k_is); (case l_running_sums => k_is); (case c_running_sums => k_is); (case k_running_sums => k_is); (case a_works_by_root => k_is); (case l_works_by_root => k_is); (case c_works_by_root => k_is); (case k_works_by_root => k_is); (case a_root_cost => k_is); (case l_root_cost => k_is); (case c_root_cost => k_is); (case k_root_cost => k_is); (case a_table => k_is); (case l_table => k_is); (case c_table => k_is); (case k_table => k_is); (case a_shows_bound => k_is); (case l_shows_bound => k_is); (case c_shows_bound => k_is); (case k_shows_bound => k_is); (case a_is_bound_table => k_is); (case l_is_bound_table => k_is); (case c_is_bound_table => k_is); (case k_is_bound_table => k_is); (case a_has_shape => k_is); (case l_has_shape => k_is); (case c_has_shape => k_is); (case k_has_shape => k_is); (case a_intervals => k_is); (case l_intervals => k_is); (case c_intervals => k_is); (case k_intervals => k_is); (case a_is_low => k_is); (case l_is_low => k_is); (case c_is_low => k_is); (case k_is_low => k_is); (case a_L_pot => k_is); (case l_L_pot => k_is); (case c_L_pot => k_is); (case k_L_pot => k_is); (case a_L_take => k_is); (case l_L_take => k_is); (case c_L_take => k_is); (case k_L_take => k_is); (case a_L_of => k_is); (case l_L_of => k_is); (case c_L_of => k_is); (case k_L_of => k_is); (case a_L_load => k_is); (case l_L_load => k_is); (case c_L_load => k_is); (case k_L_load => k_is); (case a_L_sums => k_is); (case l_L_sums => k_is); (case c_L_sums => k_is); (case k_L_sums => k_is); (case a_L_odd => k_is); (case l_L_odd => k_is); (case c_L_odd => k_is); (case k_L_odd => k_is); (case a_L_bent => k_is); (case l_L_bent => k_is); (case c_L_bent => k_is); (case k_L_bent => k_is); (case a_L_is_int => k_is); (case l_L_is_int => k_is); (case c_L_is_int => k_is); (case k_L_is_int => k_is); (case a_L_has_shape => k_is); (case l_L_has_shape => k_is); (case c_L_has_shape => k_is); (case k_L_has_shape => k_is); (case a_L_is_bound => k_is); (case l_L_is_bound => k_is); (case c_L_is_bound => k_is); (case k_L_is_bound => k_is); (case a_L_lowered => k_is); (case l_L_lowered => k_is); (case c_L_lowered => k_is); (case k_L_lowered => k_is); (case a_L_raised => k_is); (case l_L_raised => k_is); (case c_L_raised => k_is); (case k_L_raised => k_is); (case a_L_right => k_is); (case l_L_right => k_is); (case c_L_right => k_is); (case k_L_right => k_is); (case a_law => k_is); (case l_law => k_is); (case c_law => k_is); (case k_law => k_is); (case z_isinstance => k_is); (case z_int => k_is); (case z_bool => k_is); (case z_all => k_is); (case z_tuple => k_is); (case z_len => k_is); (case z_reversed => k_is); (case z_range => k_is); (case z_min => k_is); (case z_enumerate => k_is); (case z_abs => k_is); (case z_list => k_is); (case z_str => k_is); (case z_repr => k_is); (case y_MOST_LOAD => k_is); (case y_MOST_FLUSHES => k_is)
  case KS => exact fun p => by first | rfl | decide +kernel | k_is
