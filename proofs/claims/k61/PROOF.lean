import PyProof.Rows.All
import Wide.All
import OpenK.AllK
import Wide.FinOn
import HandS.ForMost
import HandS.IsInst
import HandS.Wide
import HandS.TupAny
import HandS.TupMul
import HandS.Rev
import HandS.Style
import HandS.Strs
import HandS.Walk
import KE.GoesEnum
import PyProof.ReprRoads
import PyProof.ReprBulk
import HandS.Dict
import HandS.WideMore
import HandS.WideBits
import HandS.ExcInit
import HandS.ExcField
import HandS.ExcIs
import HandS.ExcValue
import KE.KExcIs
import HandS.Exc
import HandS.Lambda
import HandS.WordsExc
import KE.DataFind
import HandS.EndTab
import KE.KNestM
import HandS.List
import HandS.Conv
import HandS.Deep
import PyProof.Rows.IntBool
import PyProof.Rows.EqBoolInt
import HandS.Defaults
import HandS.MakeKwOnly
import HandS.Text
import HandS.More
import KE.IntTextLaws
import PyProof.StrOps2
import PySem.Challenge.RW_mergebudget_k61_schedule_texts
set_option Elab.async false
set_option linter.all false
set_option maxRecDepth 100000
namespace MB
inductive T where
  | nil
  | node (l r : T)
  deriving DecidableEq

namespace T
def size : T → Nat
  | nil => 0
  | node l r => l.size + 1 + r.size
def runs : T → Nat
  | nil => 0
  | node _ r => 1 + r.runs
def sch : T → List Nat
  | nil => []
  | node l r => l.sch ++ l.runs :: r.sch
def rc : T → List Nat
  | nil => []
  | node l r => l.rc ++ 1 :: r.rc.map (· + 1)
def wr : T → List Nat
  | nil => []
  | node l r => l.wr.map (· + 1) ++ 1 :: r.wr
/-- parents: off, the number of the first node; p, the parent of the root -/
def par (off p : Int) : T → List Int
  | nil => []
  | node l r => par off (off + l.size) l ++ p :: par (off + l.size + 1) (off + l.size) r
def mir : T → T
  | nil => nil
  | node l r => node r.mir l.mir
def push (t : T) (m : Nat) : T :=
  if m = t.runs then node t nil else match t with
    | nil => nil
    | node l r => node l (push r m)
/-- the first flush of the run that a flush that merges m writes -/
def start (t : T) (m : Nat) : Nat :=
  if m = t.runs then 0 else match t with
    | nil => 0
    | node l r => l.size + 1 + start r m
/-- the stack: intervals of the right spine -/
def stk (off : Nat) : T → List (Nat × Nat)
  | nil => []
  | node l r => (off, off + l.size + 1) :: stk (off + l.size + 1) r
def graft : T → T → T
  | nil, t => t
  | node l r, t => node l (graft r t)

theorem sch_len : ∀ t : T, t.sch.length = t.size
  | nil => rfl
  | node l r => by simp [sch, size, sch_len l, sch_len r]; omega
theorem rc_len : ∀ t : T, t.rc.length = t.size
  | nil => rfl
  | node l r => by simp [rc, size, rc_len l, rc_len r]; omega
theorem wr_len : ∀ t : T, t.wr.length = t.size
  | nil => rfl
  | node l r => by simp [wr, size, wr_len l, wr_len r]; omega
theorem par_len : ∀ (t : T) (off p : Int), (t.par off p).length = t.size
  | nil, _, _ => rfl
  | node l r, off, p => by simp [par, size, par_len l, par_len r]; omega
theorem runs_le : ∀ t : T, t.runs ≤ t.size
  | nil => Nat.le_refl _
  | node l r => by have := runs_le r; simp [runs, size]; omega
theorem sum_sch : ∀ t : T, t.sch.sum + t.runs = t.size
  | nil => rfl
  | node l r => by
    have h1 := sum_sch l; have h2 := sum_sch r
    simp [sch, runs, size, List.sum_append]; omega
theorem stk_len : ∀ (t : T) (off : Nat), (t.stk off).length = t.runs
  | nil, _ => rfl
  | node l r, off => by simp [stk, runs, stk_len r]; omega

/-! ### push -/
theorem push_eq {t : T} : t.push t.runs = node t nil := by
  unfold push; rw [if_pos rfl]
theorem push_node {l r : T} {m : Nat} (h : m ≤ r.runs) : (node l r).push m = node l (r.push m) := by
  conv => lhs; unfold push
  rw [if_neg (by simp [runs]; omega)]
theorem start_eq {t : T} : t.start t.runs = 0 := by
  unfold start; rw [if_pos rfl]
theorem start_node {l r : T} {m : Nat} (h : m ≤ r.runs) : (node l r).start m = l.size + 1 + r.start m := by
  conv => lhs; unfold start
  rw [if_neg (by simp [runs]; omega)]
/-- the two ways of a push -/
theorem push_ind {C : T → Nat → Prop} (h1 : ∀ t, C t t.runs) (h2 : ∀ l r m, m ≤ r.runs → C r m → C (node l r) m) : ∀ (t : T) (m : Nat), m ≤ t.runs → C t m
  | nil, m, h => by
    have : m = nil.runs := by simp [runs] at h ⊢; omega
    rw [this]; exact h1 nil
  | node l r, m, h => by
    by_cases e : m = (node l r).runs
    · rw [e]; exact h1 _
    · have hm : m ≤ r.runs := by simp [runs] at h e; omega
      exact h2 l r m hm (push_ind h1 h2 r m hm)
theorem push_sch : ∀ (t : T) (m : Nat), m ≤ t.runs → (t.push m).sch = t.sch ++ [m] :=
  push_ind (fun t => by rw [push_eq]; simp [sch]) fun l r m h ih => by rw [push_node h]; simp [sch, ih]
theorem push_size : ∀ (t : T) (m : Nat), m ≤ t.runs → (t.push m).size = t.size + 1 :=
  push_ind (fun t => by rw [push_eq]; simp [size]) fun l r m h ih => by rw [push_node h]; simp [size, ih]; omega
theorem push_runs : ∀ (t : T) (m : Nat), m ≤ t.runs → (t.push m).runs = t.runs - m + 1 :=
  push_ind (fun t => by rw [push_eq]; simp [runs]) fun l r m h ih => by rw [push_node h]; simp [runs, ih]; omega
theorem push_rc : ∀ (t : T) (m : Nat), m ≤ t.runs → (t.push m).rc = t.rc ++ [t.runs - m + 1] :=
  push_ind (fun t => by rw [push_eq]; simp [rc]) fun l r m h ih => by
    rw [push_node h]; simp [rc, ih, runs]; omega
theorem start_le : ∀ (t : T) (m : Nat), m ≤ t.runs → t.start m ≤ t.size :=
  push_ind (fun t => by rw [start_eq]; omega) fun l r m h ih => by rw [start_node h]; simp [size]; omega
theorem push_wr : ∀ (t : T) (m : Nat), m ≤ t.runs → (t.push m).wr = t.wr.take (t.start m) ++ ((t.wr.drop (t.start m)).map (· + 1) ++ [1]) :=
  push_ind (fun t => by rw [push_eq, start_eq]; simp [wr]) fun l r m h ih => by
    rw [push_node h, start_node h]
    have e : (wr (node l r)) = (l.wr.map (· + 1) ++ [1]) ++ r.wr := by simp [wr]
    have el : (l.wr.map (· + 1) ++ [1]).length = l.size + 1 := by simp [wr_len]
    rw [e, List.take_append, List.drop_append, el]
    rw [List.take_of_length_le (by rw [el]; omega), List.drop_eq_nil_of_le (by rw [el]; omega)]
    rw [show l.size + 1 + r.start m - (l.size + 1) = r.start m by omega]
    simp [wr, ih]
theorem stk_push : ∀ (t : T) (m : Nat), m ≤ t.runs → ∀ off, (t.push m).stk off = (t.stk off).take (t.runs - m) ++ [(off + t.start m, off + t.size + 1)] :=
  push_ind (fun t off => by rw [push_eq, start_eq]; simp [stk]) fun l r m h ih off => by
    rw [push_node h, start_node h]
    have hh : (node l r).runs - m = (r.runs - m) + 1 := by simp [runs]; omega
    rw [hh]
    simp [stk, ih, size]
    omega
theorem stk_at : ∀ (t : T) (m : Nat), m ≤ t.runs → ∀ off, 0 < m → ∃ e, (t.stk off)[t.runs - m]? = some (off + t.start m, e) :=
  push_ind (fun t off h => by
      rw [start_eq, Nat.sub_self]
      cases t with
      | nil => simp [runs] at h
      | node l r => exact ⟨_, rfl⟩) fun l r m h ih off h0 => by
    rw [start_node h]
    have hh : (node l r).runs - m = (r.runs - m) + 1 := by simp [runs]; omega
    rw [hh]
    obtain ⟨e, he⟩ := ih (off + l.size + 1) h0
    refine ⟨e, ?_⟩
    simp only [stk, List.getElem?_cons_succ, he]
    congr 2; omega
theorem start_zero : ∀ (t : T) (m : Nat), m ≤ t.runs → m = 0 → t.start m = t.size :=
  push_ind (fun t h => by
      rw [start_eq]
      cases t with
      | nil => rfl
      | node l r => simp [runs] at h) fun l r m h ih h0 => by
    rw [start_node h, ih h0]; simp [size]

/-! ### schedules and trees -/
theorem graft_nil : ∀ t : T, t.graft nil = t
  | nil => rfl
  | node l r => by simp [graft, graft_nil r]
theorem graft_assoc : ∀ a b c : T, (a.graft b).graft c = a.graft (b.graft c)
  | nil, _, _ => rfl
  | node l r, b, c => by simp [graft, graft_assoc r b c]
theorem graft_runs : ∀ a b : T, (a.graft b).runs = a.runs + b.runs
  | nil, b => by simp [graft, runs]
  | node l r, b => by simp [graft, runs, graft_runs r b]; omega
theorem graft_push : ∀ (u l : T), (u.graft l).push l.runs = u.graft (node l nil)
  | nil, l => by simp [graft, push_eq]
  | node a b, l => by
    simp only [graft]
    rw [push_node (by rw [graft_runs]; omega), graft_push b l]
theorem foldl_sch : ∀ (t u : T), t.sch.foldl push u = u.graft t
  | nil, u => by simp [sch, graft_nil]
  | node l r, u => by
    simp only [sch, List.foldl_append, List.foldl_cons]
    rw [foldl_sch l u, graft_push, foldl_sch r, graft_assoc]
    rfl
theorem sch_inj {a b : T} (h : a.sch = b.sch) : a = b := by
  have e1 := foldl_sch a nil
  have e2 := foldl_sch b nil
  rw [h, e2] at e1
  exact e1.symm
end T

/-- a schedule that begins with `runs` runs -/
def Ok : Nat → List Nat → Prop
  | _, [] => True
  | k, m :: r => m ≤ k ∧ Ok (k - m + 1) r
theorem ok_tree : ∀ (p : List Nat) (u : T), Ok u.runs p → ∃ t : T, t.sch = u.sch ++ p ∧ p.foldl T.push u = t
  | [], u, _ => ⟨u, by simp, rfl⟩
  | m :: r, u, h => by
    obtain ⟨h1, h2⟩ := h
    rw [← T.push_runs u m h1] at h2
    obtain ⟨t, e1, e2⟩ := ok_tree r (u.push m) h2
    exact ⟨t, by rw [e1, T.push_sch u m h1]; simp, e2⟩
theorem tree_ex {p : List Nat} (h : Ok 0 p) : ∃ t : T, t.sch = p := by
  obtain ⟨t, e, _⟩ := ok_tree p .nil h
  exact ⟨t, by rw [e]; rfl⟩
theorem ok_app : ∀ (p q : List Nat) (k k' : Nat), Ok k p → k' + p.sum = k + p.length → Ok k' q → Ok k (p ++ q)
  | [], q, k, k', _, e, h => by
    have : k' = k := by simpa using e
    subst this; exact h
  | m :: r, q, k, k', h, e, hq => ⟨h.1, ok_app r q (k - m + 1) k' h.2 (by have := h.1; simp at e; omega) hq⟩
theorem ok_sch_from : ∀ (t : T) (k : Nat), Ok k t.sch
  | .nil, _ => trivial
  | .node l r, k => by
    refine ok_app l.sch _ k (k + l.runs) (ok_sch_from l k) (by have := T.sum_sch l; rw [T.sch_len]; omega) ?_
    exact ⟨by omega, ok_sch_from r _⟩
theorem ok_take : ∀ (p : List Nat) (k i : Nat), Ok k p → Ok k (p.take i)
  | [], _, i, _ => by cases i <;> trivial
  | m :: r, k, 0, _ => trivial
  | m :: r, k, i + 1, h => ⟨h.1, ok_take r _ i h.2⟩
/-- the tree of the first i flushes -/
def pre (t : T) (i : Nat) : T := (t.sch.take i).foldl T.push .nil
theorem pre_sch (t : T) (i : Nat) : (pre t i).sch = t.sch.take i := by
  obtain ⟨u, e1, e2⟩ := ok_tree (t.sch.take i) .nil (ok_take _ _ i (ok_sch_from t _))
  unfold pre; rw [e2, e1]; rfl
theorem pre_size {t : T} {i : Nat} (h : i ≤ t.size) : (pre t i).size = i := by
  rw [← T.sch_len, pre_sch, List.length_take, T.sch_len]; omega
theorem pre_zero (t : T) : pre t 0 = .nil := rfl
theorem pre_all (t : T) : pre t t.size = t := T.sch_inj (by rw [pre_sch, List.take_of_length_le (by rw [T.sch_len]; exact Nat.le_refl _)])
theorem ok_last : ∀ (p : List Nat) (k m : Nat) (q : List Nat), Ok k (p ++ m :: q) → m + p.sum ≤ k + p.length
  | [], k, m, q, h => by simpa using h.1
  | a :: r, k, m, q, h => by
    have := ok_last r (k - a + 1) m q h.2
    have h1 := h.1
    simp; omega
theorem pre_succ {t : T} {i : Nat} {m : Nat} (h : t.sch[i]? = some m) : pre t (i + 1) = (pre t i).push m ∧ m ≤ (pre t i).runs := by
  have hi : i < t.sch.length := (List.getElem?_eq_some_iff.mp h).1
  constructor
  · unfold pre
    rw [List.take_add_one, h]
    simp
  · have e : t.sch = t.sch.take i ++ m :: t.sch.drop (i + 1) := by
      have h2 := List.getElem?_eq_some_iff.mp h
      obtain ⟨h3, h4⟩ := h2
      rw [← h4]
      simp
    have h1 := ok_sch_from t 0
    rw [e] at h1
    have h2 := ok_last _ _ _ _ h1
    have h3 := T.sum_sch (pre t i)
    rw [pre_sch] at h3
    have h4 : (pre t i).size = (t.sch.take i).length := by rw [← T.sch_len, pre_sch]
    omega
theorem rc_take : ∀ (t : T) (i : Nat), (pre t i).rc = t.rc.take i := by
  intro t i
  by_cases hi : i ≤ t.size
  · suffices h : ∀ k, i + k = t.size → (pre t i).rc = t.rc.take i from h (t.size - i) (by omega)
    intro k
    induction k generalizing i with
    | zero =>
      intro e
      rw [show i = t.size by omega, pre_all, List.take_of_length_le (by rw [T.rc_len]; omega)]
    | succ k ih =>
      intro e
      have hl : i < t.sch.length := by rw [T.sch_len]; omega
      obtain ⟨e1, h1⟩ := pre_succ (List.getElem?_eq_getElem hl)
      have h2 := ih (i + 1) (by omega) (by omega)
      rw [e1, T.push_rc _ _ h1] at h2
      have h3 := congrArg (List.take i) h2
      rw [List.take_append_of_le_length (by rw [T.rc_len, pre_size (by omega)]; omega), List.take_take, List.take_of_length_le (by rw [T.rc_len, pre_size (by omega)]; omega)] at h3
      rw [h3]; congr 1; omega
  · have e : t.sch.take i = t.sch := List.take_of_length_le (by rw [T.sch_len]; omega)
    have : pre t i = t := T.sch_inj (by rw [pre_sch, e])
    rw [this, List.take_of_length_le (by rw [T.rc_len]; omega)]
theorem rc_at {t : T} {i m : Nat} (h : t.sch[i]? = some m) : t.rc[i]? = some ((pre t i).runs - m + 1) := by
  obtain ⟨e1, h1⟩ := pre_succ h
  have hi : i < t.size := by rw [← T.sch_len]; exact (List.getElem?_eq_some_iff.mp h).1
  have h2 := rc_take t (i + 1)
  rw [e1, T.push_rc _ _ h1] at h2
  have h3 := congrArg (fun l : List Nat => l[i]?) h2
  simp only [List.getElem?_take] at h3
  rw [List.getElem?_append_right (by rw [T.rc_len, pre_size (by omega)]; omega), T.rc_len, pre_size (by omega)] at h3
  simp at h3
  exact h3.symm
theorem pre_runs {t : T} {i : Nat} (h : i < t.size) : t.rc[i]? = some (pre t (i + 1)).runs := by
  have hl : i < t.sch.length := by rw [T.sch_len]; exact h
  obtain ⟨e1, h1⟩ := pre_succ (List.getElem?_eq_getElem hl)
  rw [rc_at (List.getElem?_eq_getElem hl), e1, T.push_runs _ _ h1]
/-! ### write counts by place -/
theorem wr_step {t : T} {m : Nat} (h : m ≤ t.runs) (k : Nat) : ((t.push m).wr.getD k 0) = if t.start m ≤ k ∧ k < t.size + 1 then t.wr.getD k 0 + 1 else t.wr.getD k 0 := by
  have hs := T.start_le t m h
  have hl := T.wr_len t
  rw [T.push_wr t m h]
  simp only [List.getD_eq_getElem?_getD]
  by_cases h1 : k < t.start m
  · rw [List.getElem?_append_left (by rw [List.length_take]; omega), List.getElem?_take, if_pos h1, if_neg (by omega)]
  · have e : (t.wr.take (t.start m)).length = t.start m := by rw [List.length_take]; omega
    rw [List.getElem?_append_right (by omega), e]
    by_cases h2 : k < t.size
    · rw [List.getElem?_append_left (by rw [List.length_map, List.length_drop]; omega), List.getElem?_map, List.getElem?_drop, if_pos (by omega), show t.start m + (k - t.start m) = k by omega]
      rw [List.getElem?_eq_getElem (by omega)]
      rfl
    · by_cases h3 : k = t.size
      · have e2 : ((t.wr.drop (t.start m)).map (· + 1)).length = k - t.start m := by rw [List.length_map, List.length_drop]; omega
        rw [List.getElem?_append_right (by omega), e2, Nat.sub_self, if_pos (by omega), List.getElem?_eq_none (by omega : t.wr.length ≤ k)]
        rfl
      · rw [List.getElem?_eq_none (by simp; omega), if_neg (by omega), List.getElem?_eq_none (by omega : t.wr.length ≤ k)]
theorem list_by {c d : List Nat} (hl : c.length = d.length) (h : ∀ k, k < c.length → c[k]? = some (d.getD k 0)) : c = d := by
  refine List.ext_getElem? fun k => ?_
  by_cases hk : k < c.length
  · rw [h k hk, List.getD_eq_getElem?_getD, List.getElem?_eq_getElem (by omega)]
    rfl
  · rw [List.getElem?_eq_none (by omega), List.getElem?_eq_none (by omega)]
theorem stk_last {t : T} {i m : Nat} (h : t.sch[i]? = some m) : (pre t (i + 1)).stk 0 = ((pre t i).stk 0).take ((pre t i).runs - m) ++ [((pre t i).start m, i + 1)] := by
  obtain ⟨e, h1⟩ := pre_succ h
  have hi : i < t.size := by rw [← T.sch_len]; exact (List.getElem?_eq_some_iff.mp h).1
  rw [e, T.stk_push _ _ h1, Nat.zero_add, Nat.zero_add, pre_size (by omega)]

/-! ### subtrees -/
inductive Sub (t : T) : Nat → T → Nat → Int → Prop
  | root : Sub t 0 t 1 (-1)
  | left {off k : Nat} {p : Int} {l r : T} : Sub t off (.node l r) k p → Sub t off l k ((off + l.size : Nat) : Int)
  | right {off k : Nat} {p : Int} {l r : T} : Sub t off (.node l r) k p → Sub t (off + l.size + 1) r (k + 1) ((off + l.size : Nat) : Int)
def T.parOf (t : T) : List Int := t.par 0 (-1)
theorem slice_left {α : Type} {L a b : List α} {x : α} {off : Nat} (h : (L.drop off).take (a.length + 1 + b.length) = a ++ x :: b) : (L.drop off).take a.length = a := by
  have := congrArg (List.take a.length) h
  rw [List.take_take, List.take_left' rfl, show min a.length (a.length + 1 + b.length) = a.length by omega] at this
  exact this
theorem slice_mid {α : Type} {L a b : List α} {x : α} {off : Nat} (h : (L.drop off).take (a.length + 1 + b.length) = a ++ x :: b) : L[off + a.length]? = some x := by
  have := congrArg (fun l : List α => l[a.length]?) h
  simp only [List.getElem?_take, List.getElem?_drop] at this
  rw [if_pos (by omega), List.getElem?_append_right (Nat.le_refl _), Nat.sub_self] at this
  simpa using this
theorem slice_right {α : Type} {L a b : List α} {x : α} {off : Nat} (h : (L.drop off).take (a.length + 1 + b.length) = a ++ x :: b) : (L.drop (off + a.length + 1)).take b.length = b := by
  have := congrArg (List.drop (a.length + 1)) h
  rw [List.drop_take, List.drop_drop] at this
  have e2 : List.drop (a.length + 1) (a ++ x :: b) = b := by
    rw [List.drop_append]; simp
  rw [e2] at this
  have h2 := congrArg (List.take b.length) this
  rw [List.take_take, List.take_length] at h2
  rw [← Nat.add_assoc] at h2
  rw [show b.length = min b.length (a.length + 1 + b.length - (a.length + 1)) by omega]
  exact h2
theorem sub_le {t : T} {off k : Nat} {s : T} {p : Int} (h : Sub t off s k p) : off + s.size ≤ t.size ∧ 1 ≤ k ∧ k ≤ off + 1 := by
  induction h with
  | root => exact ⟨by omega, by omega, by omega⟩
  | left _ ih => simp only [T.size] at ih; omega
  | right _ ih => simp only [T.size] at ih; omega
theorem sub_out {t : T} {off k : Nat} {s : T} {p : Int} (h : Sub t off s k p) : (p = -1 ∨ ((0 ≤ p ∧ p < t.size) ∧ (p + 1 = off ∨ p = ((off + s.size : Nat) : Int)))) := by
  cases h with
  | root => exact .inl rfl
  | left h => have := sub_le h; simp only [T.size] at this; exact .inr ⟨by omega, .inr rfl⟩
  | right h => have := sub_le h; simp only [T.size] at this; exact .inr ⟨by omega, .inl (by omega)⟩
theorem sub_rc {t : T} {off k : Nat} {s : T} {p : Int} (h : Sub t off s k p) : (t.rc.drop off).take s.size = s.rc.map (· + (k - 1)) := by
  induction h with
  | root => simp [← T.rc_len]
  | @left off k p l r h ih =>
    have e : (T.node l r).rc.map (· + (k - 1)) = l.rc.map (· + (k - 1)) ++ (1 + (k - 1)) :: (r.rc.map (· + 1)).map (· + (k - 1)) := by simp [T.rc]
    rw [e] at ih
    have hl : (l.rc.map (· + (k - 1))).length = l.size := by rw [List.length_map, T.rc_len]
    have hr : ((r.rc.map (· + 1)).map (· + (k - 1))).length = r.size := by rw [List.length_map, List.length_map, T.rc_len]
    have := slice_left (a := l.rc.map (· + (k - 1))) (b := (r.rc.map (· + 1)).map (· + (k - 1))) (L := t.rc) (off := off) (x := 1 + (k - 1)) (by rw [hl, hr]; exact ih)
    rw [hl] at this
    exact this
  | @right off k p l r h ih =>
    have e : (T.node l r).rc.map (· + (k - 1)) = l.rc.map (· + (k - 1)) ++ (1 + (k - 1)) :: (r.rc.map (· + 1)).map (· + (k - 1)) := by simp [T.rc]
    rw [e] at ih
    have hl : (l.rc.map (· + (k - 1))).length = l.size := by rw [List.length_map, T.rc_len]
    have hr : ((r.rc.map (· + 1)).map (· + (k - 1))).length = r.size := by rw [List.length_map, List.length_map, T.rc_len]
    have := slice_right (a := l.rc.map (· + (k - 1))) (b := (r.rc.map (· + 1)).map (· + (k - 1))) (L := t.rc) (off := off) (x := 1 + (k - 1)) (by rw [hl, hr]; exact ih)
    rw [hl, hr] at this
    rw [this, List.map_map]
    refine List.map_congr_left fun a _ => ?_
    have := (sub_le h).2.1
    simp only [Function.comp]
    omega
theorem sub_par {t : T} {off k : Nat} {s : T} {p : Int} (h : Sub t off s k p) : (t.parOf.drop off).take s.size = s.par (off : Int) p := by
  induction h with
  | root => simp only [T.parOf]; rw [List.drop_zero, List.take_of_length_le (by rw [T.par_len]; omega)]; rfl
  | @left off k p l r h ih =>
    simp only [T.par] at ih
    have hl := T.par_len l (off : Int) ((off : Int) + l.size)
    have hr := T.par_len r ((off : Int) + l.size + 1) ((off : Int) + l.size)
    have := slice_left (a := l.par (off : Int) ((off : Int) + l.size)) (b := r.par ((off : Int) + l.size + 1) ((off : Int) + l.size)) (L := t.parOf) (off := off) (x := p) (by rw [hl, hr]; exact ih)
    rw [hl] at this
    rw [this, Int.natCast_add]
  | @right off k p l r h ih =>
    simp only [T.par] at ih
    have hl := T.par_len l (off : Int) ((off : Int) + l.size)
    have hr := T.par_len r ((off : Int) + l.size + 1) ((off : Int) + l.size)
    have := slice_right (a := l.par (off : Int) ((off : Int) + l.size)) (b := r.par ((off : Int) + l.size + 1) ((off : Int) + l.size)) (L := t.parOf) (off := off) (x := p) (by rw [hl, hr]; exact ih)
    rw [hl, hr] at this
    rw [this]
    simp only [Int.natCast_add]
    rfl
theorem sub_root {t : T} {off k : Nat} {l r : T} {p : Int} (h : Sub t off (.node l r) k p) : t.parOf[off + l.size]? = some p := by
  have ih := sub_par h
  simp only [T.par] at ih
  have hl := T.par_len l (off : Int) ((off : Int) + l.size)
  have hr := T.par_len r ((off : Int) + l.size + 1) ((off : Int) + l.size)
  have := slice_mid (a := l.par (off : Int) ((off : Int) + l.size)) (b := r.par ((off : Int) + l.size + 1) ((off : Int) + l.size)) (L := t.parOf) (off := off) (x := p) (by rw [hl, hr]; exact ih)
  rw [hl] at this
  exact this
/-- the parents of a subtree: the root's alone lies outside -/
theorem par_in : ∀ (s : T) (off p : Int) (i : Nat) (q : Int), (s.par off p)[i]? = some q → (∃ l r, s = .node l r ∧ i = l.size ∧ q = p) ∨ (off ≤ q ∧ q < off + s.size ∧ ∀ l r, s = .node l r → i ≠ l.size)
  | .nil, _, _, _, _, h => by simp [T.par] at h
  | .node l r, off, p, i, q, h => by
    simp only [T.par] at h
    have hl := T.par_len l off (off + l.size)
    by_cases h1 : i < l.size
    · rw [List.getElem?_append_left (by omega)] at h
      refine .inr ?_
      rcases par_in l off (off + l.size) i q h with ⟨a, b, e, e2, e3⟩ | ⟨h2, h3, _⟩
      · refine ⟨by omega, by simp only [T.size]; omega, fun l' r' e' => by cases e'; omega⟩
      · refine ⟨by omega, by simp only [T.size]; omega, fun l' r' e' => by cases e'; omega⟩
    · rw [List.getElem?_append_right (by omega), hl] at h
      by_cases h2 : i = l.size
      · subst h2
        rw [Nat.sub_self] at h
        have : p = q := by simpa using h
        exact .inl ⟨l, r, rfl, rfl, this.symm⟩
      · obtain ⟨j, e⟩ : ∃ j, i - l.size = j + 1 := ⟨i - l.size - 1, by omega⟩
        rw [e, List.getElem?_cons_succ] at h
        refine .inr ?_
        rcases par_in r (off + l.size + 1) (off + l.size) j q h with ⟨a, b, e4, e2, e3⟩ | ⟨h4, h3, _⟩
        · refine ⟨by omega, by simp only [T.size]; omega, fun l' r' e' => by cases e'; omega⟩
        · refine ⟨by omega, by simp only [T.size]; omega, fun l' r' e' => by cases e'; omega⟩
theorem rc_pos : ∀ (s : T) (i v : Nat), s.rc[i]? = some v → 1 ≤ v
  | .nil, _, _, h => by simp [T.rc] at h
  | .node l r, i, v, h => by
    simp only [T.rc] at h
    by_cases h1 : i < l.size
    · rw [List.getElem?_append_left (by rw [T.rc_len]; exact h1)] at h
      exact rc_pos l i v h
    · rw [List.getElem?_append_right (by rw [T.rc_len]; omega), T.rc_len] at h
      rcases Nat.eq_zero_or_pos (i - l.size) with e | e
      · rw [e] at h; simp at h; omega
      · obtain ⟨j, e⟩ : ∃ j, i - l.size = j + 1 := ⟨i - l.size - 1, by omega⟩
        rw [e, List.getElem?_cons_succ, List.getElem?_map] at h
        cases h2 : r.rc[j]? with
        | none => rw [h2] at h; cases h
        | some u => rw [h2] at h; simp at h; omega
theorem rc_one {l r : T} {i : Nat} (h : (T.node l r).rc[i]? = some 1) : i ≤ l.size := by
  simp only [T.rc] at h
  by_cases h1 : i ≤ l.size
  · exact h1
  · rw [List.getElem?_append_right (by rw [T.rc_len]; omega), T.rc_len] at h
    obtain ⟨j, e⟩ : ∃ j, i - l.size = j + 1 := ⟨i - l.size - 1, by omega⟩
    rw [e, List.getElem?_cons_succ, List.getElem?_map] at h
    cases h2 : r.rc[j]? with
    | none => rw [h2] at h; cases h
    | some u =>
      have := rc_pos r j u h2
      rw [h2] at h; simp at h; omega
theorem rc_root (l r : T) : (T.node l r).rc[l.size]? = some 1 := by
  simp only [T.rc]
  rw [List.getElem?_append_right (by rw [T.rc_len]; exact Nat.le_refl _), T.rc_len, Nat.sub_self]; rfl
theorem sub_rc_at {t : T} {off k : Nat} {s : T} {p : Int} (h : Sub t off s k p) {i : Nat} (hi : i < s.size) : ∃ v, s.rc[i]? = some v ∧ t.rc[off + i]? = some (v + (k - 1)) := by
  have e := congrArg (fun l : List Nat => l[i]?) (sub_rc h)
  simp only [List.getElem?_take, List.getElem?_drop, List.getElem?_map] at e
  rw [if_pos hi] at e
  have hv := List.getElem?_eq_getElem (show i < s.rc.length by rw [T.rc_len]; exact hi)
  rw [hv] at e
  exact ⟨_, hv, e⟩
theorem sub_par_at {t : T} {off k : Nat} {s : T} {p : Int} (h : Sub t off s k p) {i : Nat} (hi : i < s.size) : ∃ q, (s.par (off : Int) p)[i]? = some q ∧ t.parOf[off + i]? = some q := by
  have e := congrArg (fun l : List Int => l[i]?) (sub_par h)
  simp only [List.getElem?_take, List.getElem?_drop] at e
  rw [if_pos hi] at e
  have hv := List.getElem?_eq_getElem (show i < (s.par (off : Int) p).length by rw [T.par_len]; exact hi)
  rw [hv] at e
  exact ⟨_, hv, e⟩
theorem filter_one {f : Nat → Bool} {n c : Nat} (hc : c < n) (h1 : f c = true) (h2 : ∀ i, i < n → f i = true → i = c) : (List.range n).filter f = [c] := by
  induction n with
  | zero => omega
  | succ n ih =>
    rw [List.range_succ, List.filter_append]
    by_cases e : c = n
    · subst e
      have e0 : (List.range c).filter f = [] := List.filter_eq_nil_iff.mpr fun i hi hf => by
        have := List.mem_range.mp hi
        have := h2 i (by omega) hf
        omega
      rw [e0]; simp [h1]
    · rw [ih (by omega) fun i hi hf => h2 i (by omega) hf]
      have : f n = false := by
        cases hf : f n with
        | false => rfl
        | true => exact absurd (h2 n (by omega) hf) (by omega)
      simp [this]
/-- the work of a list of subtrees -/
def todo : List (Nat × T × Nat × Int) → Nat
  | [] => 0
  | x :: r => 2 * x.2.1.size + 1 + todo r
theorem todo_app : ∀ a b, todo (a ++ b) = todo a + todo b
  | [], b => by simp [todo]
  | x :: r, b => by simp [todo, todo_app r b]; omega
theorem len_todo : ∀ L, L.length ≤ todo L
  | [] => Nat.le_refl _
  | x :: r => by have := len_todo r; simp [todo]; omega

/-! ### one step up -/
theorem getD_app_l {a b : List Nat} {i : Nat} (h : i < a.length) : (a ++ b).getD i 0 = a.getD i 0 := by
  simp only [List.getD_eq_getElem?_getD, List.getElem?_append_left h]
theorem getD_app_r {a b : List Nat} {i : Nat} (h : a.length ≤ i) : (a ++ b).getD i 0 = b.getD (i - a.length) 0 := by
  simp only [List.getD_eq_getElem?_getD, List.getElem?_append_right h]
theorem getD_map1 {a : List Nat} {i : Nat} (h : i < a.length) : (a.map (· + 1)).getD i 0 = a.getD i 0 + 1 := by
  simp only [List.getD_eq_getElem?_getD, List.getElem?_map, List.getElem?_eq_getElem h]; rfl
theorem wr_l {l r : T} {i : Nat} (h : i < l.size) : (T.node l r).wr.getD i 0 = l.wr.getD i 0 + 1 := by
  simp only [T.wr]
  rw [getD_app_l (by rw [List.length_map, T.wr_len]; exact h), getD_map1 (by rw [T.wr_len]; exact h)]
theorem wr_m {l r : T} : (T.node l r).wr.getD l.size 0 = 1 := by
  simp only [T.wr]
  rw [getD_app_r (by rw [List.length_map, T.wr_len]; exact Nat.le_refl _), List.length_map, T.wr_len, Nat.sub_self]; rfl
theorem wr_r {l r : T} {j : Nat} : (T.node l r).wr.getD (l.size + 1 + j) 0 = r.wr.getD j 0 := by
  simp only [T.wr]
  rw [getD_app_r (by rw [List.length_map, T.wr_len]; omega), List.length_map, T.wr_len, show l.size + 1 + j - l.size = j + 1 by omega, List.getD_cons_succ]
theorem rc_l {l r : T} {i : Nat} (h : i < l.size) : (T.node l r).rc.getD i 0 = l.rc.getD i 0 := by
  simp only [T.rc]
  rw [getD_app_l (by rw [T.rc_len]; exact h)]
theorem rc_m {l r : T} : (T.node l r).rc.getD l.size 0 = 1 := by
  simp only [T.rc]
  rw [getD_app_r (by rw [T.rc_len]; exact Nat.le_refl _), T.rc_len, Nat.sub_self]; rfl
theorem rc_r {l r : T} {j : Nat} (h : j < r.size) : (T.node l r).rc.getD (l.size + 1 + j) 0 = r.rc.getD j 0 + 1 := by
  simp only [T.rc]
  rw [getD_app_r (by rw [T.rc_len]; omega), T.rc_len, show l.size + 1 + j - l.size = j + 1 by omega, List.getD_cons_succ, getD_map1 (by rw [T.rc_len]; exact h)]
theorem up : ∀ (s : T) (off p : Int) (i : Nat) (q : Int), (s.par off p)[i]? = some q →
    (q = p ∧ s.wr.getD i 0 = 1 ∧ s.rc.getD i 0 = 1) ∨
    ∃ j : Nat, q = off + j ∧ j < s.size ∧ j ≠ i ∧ (i < j → s.wr.getD i 0 = s.wr.getD j 0 + 1 ∧ s.rc.getD i 0 = s.rc.getD j 0) ∧ (j < i → s.wr.getD i 0 = s.wr.getD j 0 ∧ s.rc.getD i 0 = s.rc.getD j 0 + 1)
  | .nil, _, _, _, _, h => by simp [T.par] at h
  | .node l r, off, p, i, q, h => by
    simp only [T.par] at h
    have hl := T.par_len l off (off + l.size)
    by_cases h1 : i < l.size
    · rw [List.getElem?_append_left (by omega)] at h
      refine .inr ?_
      rcases up l off (off + l.size) i q h with ⟨e, e1, e2⟩ | ⟨j, e, hj, hne, c1, c2⟩
      · exact ⟨l.size, e, by simp only [T.size]; omega, by omega, fun _ => ⟨by rw [wr_l h1, wr_m, e1], by rw [rc_l h1, rc_m, e2]⟩, fun z => by omega⟩
      · exact ⟨j, e, by simp only [T.size]; omega, hne, fun z => ⟨by rw [wr_l h1, wr_l hj, (c1 z).1], by rw [rc_l h1, rc_l hj, (c1 z).2]⟩, fun z => ⟨by rw [wr_l h1, wr_l hj, (c2 z).1], by rw [rc_l h1, rc_l hj, (c2 z).2]⟩⟩
    · rw [List.getElem?_append_right (by omega), hl] at h
      by_cases h2 : i = l.size
      · subst h2
        rw [Nat.sub_self] at h
        have : p = q := by simpa using h
        exact .inl ⟨this.symm, wr_m, rc_m⟩
      · obtain ⟨k, e⟩ : ∃ k, i = l.size + 1 + k := ⟨i - l.size - 1, by omega⟩
        subst e
        rw [show l.size + 1 + k - l.size = k + 1 by omega, List.getElem?_cons_succ] at h
        have hk : k < r.size := by
          have := (List.getElem?_eq_some_iff.mp h).1
          rw [T.par_len] at this; exact this
        refine .inr ?_
        rcases up r (off + l.size + 1) (off + l.size) k q h with ⟨e, e1, e2⟩ | ⟨j, e, hj, hne, c1, c2⟩
        · exact ⟨l.size, e, by simp only [T.size]; omega, by omega, fun z => by omega, fun _ => ⟨by rw [wr_r, wr_m, e1], by rw [rc_r hk, rc_m, e2]⟩⟩
        · exact ⟨l.size + 1 + j, by rw [e]; omega, by simp only [T.size]; omega, by omega, fun z => ⟨by rw [wr_r, wr_r, (c1 (by omega)).1], by rw [rc_r hk, rc_r hj, (c1 (by omega)).2]⟩, fun z => ⟨by rw [wr_r, wr_r, (c2 (by omega)).1], by rw [rc_r hk, rc_r hj, (c2 (by omega)).2]⟩⟩
theorem wr_pos {t : T} {i : Nat} (h : i < t.size) : 1 ≤ t.wr.getD i 0 := by
  induction t generalizing i with
  | nil => simp [T.size] at h
  | node l r ihl ihr =>
    by_cases h1 : i < l.size
    · rw [wr_l h1]; omega
    · by_cases h2 : i = l.size
      · subst h2; rw [wr_m]; exact Nat.le_refl _
      · obtain ⟨k, e⟩ : ∃ k, i = l.size + 1 + k := ⟨i - l.size - 1, by omega⟩
        subst e
        rw [wr_r]; exact ihr (by simp only [T.size] at h; omega)
theorem rc_posD {t : T} {i : Nat} (h : i < t.size) : 1 ≤ t.rc.getD i 0 := by
  have := List.getElem?_eq_getElem (show i < t.rc.length by rw [T.rc_len]; exact h)
  rw [List.getD_eq_getElem?_getD, this]
  exact rc_pos t i _ this

/-! ### mirrors -/
def mirN (N : Int) (q : Int) : Int := if q = -1 then -1 else N - 1 - q
theorem mir_size : ∀ t : T, t.mir.size = t.size
  | .nil => rfl
  | .node l r => by simp [T.mir, T.size, mir_size l, mir_size r]; omega
theorem mir_par : ∀ (s : T) (N off p : Int), 0 ≤ off → ((s.par off p).reverse).map (mirN N) = s.mir.par (N - off - s.size) (mirN N p)
  | .nil, _, _, _, _ => rfl
  | .node l r, N, off, p, h => by
    simp only [T.par, T.mir, List.reverse_append, List.reverse_cons, List.map_append, List.map_cons, List.map_nil]
    rw [mir_par l N off (off + l.size) h, mir_par r N (off + l.size + 1) (off + l.size) (by omega), mir_size]
    have e1 : mirN N (off + l.size) = N - 1 - (off + l.size) := by unfold mirN; rw [if_neg (by omega)]
    rw [e1]
    have e2 : N - off - ((T.node l r).size : Int) = N - (off + l.size + 1) - r.size := by simp only [T.size]; omega
    rw [e2]
    have e3 : N - (off + ↑l.size + 1) - ↑r.size + ↑r.size = N - 1 - (off + ↑l.size) := by omega
    rw [e3, show N - 1 - (off + (l.size : Int)) + 1 = N - off - l.size by omega]
    simp
theorem mir_parOf (t : T) : t.mir.parOf = (t.parOf.reverse).map (mirN t.size) := by
  unfold T.parOf
  rw [mir_par t t.size 0 (-1) (by omega)]
  rw [show ((t.size : Int) - 0 - t.size) = 0 by omega]
  rfl
theorem mir_wr : ∀ t : T, t.mir.wr = t.rc.reverse
  | .nil => rfl
  | .node l r => by simp [T.mir, T.wr, T.rc, mir_wr l, mir_wr r]
theorem mir_rc : ∀ t : T, t.mir.rc = t.wr.reverse
  | .nil => rfl
  | .node l r => by simp [T.mir, T.wr, T.rc, mir_rc l, mir_rc r]
theorem mir_mir : ∀ t : T, t.mir.mir = t
  | .nil => rfl
  | .node l r => by simp [T.mir, mir_mir l, mir_mir r]

/-! ### parents of a joined tree -/
theorem par_below {N : Int} : ∀ (s : T) (off p : Int), 0 ≤ off → (s.par off p).map (fun q => if q = -1 then N else q) = s.par off (if p = -1 then N else p)
  | .nil, _, _, _ => rfl
  | .node l r, off, p, h => by
    simp only [T.par, List.map_append, List.map_cons]
    rw [par_below l off _ h, par_below r (off + l.size + 1) _ (by omega), if_neg (by omega : ¬ off + (l.size : Int) = -1)]
theorem par_beyond {N : Int} : ∀ (s : T) (off p : Int), 0 ≤ off → (s.par off p).map (fun q => if q = -1 then N else q + N + 1) = s.par (off + N + 1) (if p = -1 then N else p + N + 1)
  | .nil, _, _, _ => rfl
  | .node l r, off, p, h => by
    simp only [T.par, List.map_append, List.map_cons]
    rw [par_beyond l off _ h, par_beyond r (off + l.size + 1) _ (by omega), if_neg (by omega : ¬ off + (l.size : Int) = -1)]
    have e1 : off + (l.size : Int) + N + 1 = off + N + 1 + l.size := by omega
    have e2 : off + (l.size : Int) + 1 + N + 1 = off + N + 1 + l.size + 1 := by omega
    rw [e1, e2]
theorem parOf_node (s u : T) : (T.node s u).parOf = s.parOf.map (fun q => if q = -1 then (s.size : Int) else q) ++ [-1] ++ u.parOf.map (fun q => if q = -1 then (s.size : Int) else q + s.size + 1) := by
  unfold T.parOf
  rw [par_below s 0 (-1) (by omega), par_beyond u 0 (-1) (by omega)]
  simp only [T.par]
  simp
theorem parOf_root (s u : T) : (T.node s u).parOf[s.size]? = some (-1) := by
  have := sub_root (t := T.node s u) .root
  simpa using this
theorem parOf_first {s u : T} {m : Nat} (h : m < s.size) : (T.node s u).parOf[m]? ≠ some (-1) := fun e => by
  rcases par_in _ _ _ _ _ e with ⟨l, r, e1, e2, _⟩ | ⟨h1, _, _⟩
  · cases e1; omega
  · omega

/-! ### runs as lists of flushes -/
theorem stk_pair : ∀ (t : T) (off j : Nat), j + 1 ≤ t.runs → (t.stk off)[t.runs - (j + 1)]? = some (off + t.start (j + 1), off + t.start j)
  | .nil, _, _, h => by simp [T.runs] at h
  | .node l r, off, j, h => by
    by_cases e : j = r.runs
    · subst e
      have e1 : (T.node l r).runs = r.runs + 1 := by simp [T.runs]; omega
      rw [e1, Nat.sub_self, ← e1, T.start_eq, T.start_node (Nat.le_refl _), T.start_eq]
      rfl
    · have h1 : j + 1 ≤ r.runs := by simp [T.runs] at h; omega
      have e1 : (T.node l r).runs - (j + 1) = (r.runs - (j + 1)) + 1 := by simp [T.runs]; omega
      rw [e1, T.start_node h1, T.start_node (by omega)]
      simp only [T.stk, List.getElem?_cons_succ]
      rw [stk_pair r (off + l.size + 1) j h1]
      congr 2 <;> omega
theorem start_anti : ∀ (t : T) (j : Nat), j + 1 ≤ t.runs → t.start (j + 1) < t.start j
  | .nil, _, h => by simp [T.runs] at h
  | .node l r, j, h => by
    by_cases e : j = r.runs
    · subst e
      have e1 : (T.node l r).runs = r.runs + 1 := by simp [T.runs]; omega
      rw [← e1, T.start_eq, T.start_node (Nat.le_refl _), T.start_eq]
      omega
    · have h1 : j + 1 ≤ r.runs := by simp [T.runs] at h; omega
      rw [T.start_node h1, T.start_node (by omega)]
      have := start_anti r j h1
      omega
/-- the flushes of [a, b) -/
def seg (a b : Nat) : List Nat := List.range' a (b - a)
theorem seg_app {a b c : Nat} (h1 : a ≤ b) (h2 : b ≤ c) : seg a b ++ seg b c = seg a c := by
  unfold seg
  have := List.range'_append_1 (s := a) (m := b - a) (n := c - b)
  rw [show a + (b - a) = b by omega, show b - a + (c - b) = c - a by omega] at this
  exact this
theorem seg_one (a : Nat) : seg a (a + 1) = [a] := by
  unfold seg
  rw [show a + 1 - a = 1 by omega]; rfl
theorem seg_nil (a : Nat) : seg a a = [] := by unfold seg; rw [Nat.sub_self]; rfl
theorem seg_len (a b : Nat) : (seg a b).length = b - a := by unfold seg; rw [List.length_range']
theorem seg_at {a b k : Nat} (h : a + k < b) : (seg a b)[k]? = some (a + k) := by
  unfold seg
  rw [List.getElem?_range' (by omega)]
  simp
theorem stk_take_succ {t : T} {j : Nat} (off : Nat) (h : j + 1 ≤ t.runs) : (t.stk off).take (t.runs - j) = (t.stk off).take (t.runs - (j + 1)) ++ [(off + t.start (j + 1), off + t.start j)] := by
  rw [show t.runs - j = (t.runs - (j + 1)) + 1 by omega, List.take_add_one, stk_pair t off j h]; rfl
/-- adjacent, from off on -/
theorem stk_starts : ∀ (t : T) (off : Nat), (t.stk off).map (·.1) = (off :: (t.stk off).map (·.2)).dropLast
  | .nil, _ => rfl
  | .node l r, off => by
    have ih := stk_starts r (off + l.size + 1)
    simp only [T.stk, List.map_cons]
    rw [ih]; rfl
theorem stk_stops : ∀ (t : T) (off : Nat), (off :: (t.stk off).map (·.2)).getLast? = some (off + t.size)
  | .nil, off => by simp [T.stk, T.size]
  | .node l r, off => by
    have ih := stk_stops r (off + l.size + 1)
    simp only [T.stk, List.map_cons, T.size]
    rw [List.getLast?_cons_cons, ih]
    congr 1; omega
theorem stk_lt : ∀ (t : T) (off : Nat) (p : Nat × Nat), p ∈ t.stk off → off ≤ p.1 ∧ p.1 < p.2 ∧ p.2 ≤ off + t.size
  | .nil, _, _, h => by simp [T.stk] at h
  | .node l r, off, p, h => by
    simp only [T.stk] at h
    rcases List.mem_cons.mp h with rfl | h
    · simp only [T.size]; omega
    · have := stk_lt r _ p h
      simp only [T.size]; omega
end MB

set_option maxHeartbeats 4000000
namespace MB
open PySem PySem.Spec PyProof.Rows L2

/-! ### great powers -/
def CPowW (i j : Int) : Prop := 0 ≤ j ∧ (Builtin.Int.intBits i : Int) * j ≤ 2 ^ 27
theorem op_powW {X : Cx} : OpR X (binaryOp .Pow) (rI CPowW fun i j => .int (i ^ j.toNat)) := opI fun _ _ _ _ _ _ _ hc q => pow_int hc.1 hc.2 q

/-! ### xs[i] op= e -/
theorem get_list {X : Cx} : PGet X (rIxL X.K) := by
  intro pins s σ H x y v u Q I rx ry h
  obtain ⟨p, xs, i, z, rfl, rfl, hq, he, q⟩ := h
  cases rx
  obtain ⟨t, rfl⟩ := ry
  obtain ⟨its, r, pl, hz⟩ := I.list hq
  obtain ⟨j, h1, h2, h3, h4, h5⟩ := atI_get he
  obtain ⟨w, ew, rw'⟩ := r.get h2
  have hl := r.length
  have hn := line63
  have fin : EP X pins σ Q w s := ⟨z, H, I, rw', q⟩
  by_cases h0 : 0 ≤ i
  · have hj : i.toNat = j := by
      rw [seqIndex_of h0 h5] at h1
      exact Option.some.inj h1
    exact getItem_listL pl.isList h0 (by omega) (by rw [hj]; exact ew) fin
  · have hj : (i + (its.toArray.size : Int)).toNat = j := by
      rw [seqIndex_neg (by omega) h4] at h1
      rw [List.size_toArray, ← hl]
      exact Option.some.inj h1
    exact wpAny_getItem_list_neg pl.isList (by omega) (by rw [List.size_toArray] <;> omega) (by omega) (by rw [hj]; simpa using ew) fin

/-! ### sum of a tuple of ints -/
theorem ints_at : ∀ {ns : List Int} {its : List Value}, Vals (ns.map V.int) its → ∀ (i : Nat) (v : Value), its[i]? = some v → ∃ t, v = .int (ns.getD i 0) t
  | [], _, .nil, i, v, h => by simp at h
  | n :: ns, u :: us, .cons r rr, 0, v, h => by
    obtain ⟨t, rfl⟩ := r
    simp at h
    exact ⟨t, by simp [h]⟩
  | n :: ns, u :: us, .cons r rr, i + 1, v, h => by
    have := ints_at rr i v (by simpa using h)
    simpa using this
theorem preSum_getD (ns : List Int) : ∀ k, k ≤ ns.length → preSum (fun i => ns.getD i 0) k = (ns.take k).sum
  | 0, _ => by simp [preSum]
  | k + 1, h => by
    have e : ns[k]? = some (ns.getD k 0) := by
      rw [List.getElem?_eq_getElem (by omega), List.getD_eq_getElem?_getD, List.getElem?_eq_getElem (by omega)]
      rfl
    rw [preSum, preSum_getD ns k (by omega), L2.sum_take e]
def rSumT (K : PySem.W.Frag) : List V → Hp → VK → Prop := fun xs H Q => ∃ (a : Addr) (ns : List Int), xs = [V.ref a] ∧ SqT K H a (ns.map V.int) ∧ Q (.int ns.sum) H
theorem cr_sumT {X : Cx} (hc : X.calm = true) : CallR X (.builtin "sum") (rSumT X.K) := by
  intro pins s σ H vs us Q I r h
  obtain ⟨a, ns, rfl, hs, q⟩ := h
  obtain ⟨its, rv, hl, _⟩ := I.tuple hs
  rw [Vals.ref1 r]
  have hT : s.heap.IsTuple a its.toArray := hl
  have hlt : a < s.heap.objs.size := by obtain ⟨_, e, _⟩ := hl; exact Heap.lt_size e
  refine PySem.call_sum_walkG (wpAny_pyIter_tuple hT ?_)
  refine ⟨s.heap.objs.size, [s.heap.objs.size, a], [s.heap.objs.size], its.toArray.size, _, _, fun i => ns.getD i 0, rfl, Walks.tuple (A := X.A.in1) (I.ok.hd hc) _ a (Nat.ne_of_lt hlt) its.toArray, ⟨⟨_, Heap.get?_push_size _ rfl, rfl, rfl⟩, hT.at fun o e => Heap.get?_push_of_some _ e⟩, fun b hb => ?_, fun i v hv => ints_at rv i v (by simpa using hv), fun h' tk t' hk => ?_⟩
  · show b < (s.heap.push _).objs.size
    rw [Heap.size_push]
    have e : b = s.heap.objs.size ∨ b = a := by simpa using hb
    rcases e with e | e
    · rw [e]; exact Nat.lt_succ_self _
    · rw [e]; exact Nat.lt_succ_of_lt hlt
  · have el : its.toArray.size = ns.length := by rw [List.size_toArray, ← rv.length, List.length_map]
    rw [el, preSum_getD ns _ (Nat.le_refl _), List.take_length]
    refine ⟨.int ns.sum, H, I.kept fun b o e => hk b o ?_ (Heap.get?_push_of_some _ e), ⟨_, rfl⟩, q⟩
    have := Heap.lt_size e
    simp only [List.mem_singleton]
    exact Nat.ne_of_lt this

/-! ### enumerate(tuple) -/
set_option maxHeartbeats 4000000 in
theorem meets_enumerate_newT (l : Addr) (items : Array Value) (n : Nat) (dct : Option Addr) (sl : Array (Option Value)) :
    Meets (Builtin.«enumerate.__new__» ⟨[.type "enumerate", .ref l], []⟩) (fun _ R s => s.heap.get? l = some { cls := .type "tuple", dict := dct, data := .seq items n, slots := sl } ∧
      R (.ok (.ret (.ref (s.heap.push { cls := .type "tuple_iterator", data := .fields #[.ref l, .int 0 0] }).objs.size)))
        { s with heap := (s.heap.push { cls := .type "tuple_iterator", data := .fields #[.ref l, .int 0 0] }).push { cls := .type "enumerate", data := .fields #[.none, .bool false, .ref s.heap.objs.size, rawInt 0, .none, .none] } }) :=
  .of_wp fun prog w A R s h => by
    obtain ⟨hp, g, d, tk, os⟩ := s; obtain ⟨hl, h⟩ := h
    have hsub := sub_enumerate
    have hL : Heap.IsTuple (Shared.heap ⟨hp, g, d, tk, os⟩) l items := ⟨_, hl, rfl, n, rfl⟩
    wp_walk using AutoSeq1.wpAny_loadPart' hl
    refine wpAny_stack_any fun st => wpAny_pure ?_
    split
    · rename_i c _ _ _ _ _
      cases (c == Value.type "enumerate")
      · wp_walk using AutoSeq1.wpAny_loadPart' hl, wpAny_pyIter_tuple hL
        exact ⟨_, rfl, h⟩
      · wp_walk using AutoSeq1.wpAny_loadPart' hl, wpAny_pyIter_tuple hL
        exact ⟨_, rfl, h⟩
    · wp_walk using AutoSeq1.wpAny_loadPart' hl, wpAny_pyIter_tuple hL
      exact ⟨_, rfl, h⟩
section
variable {prog : Program} {w : World} {A : Around} {E : Value → Shared → Prop} {s : Shared}
theorem call_enumerate_tuple {l : Addr} {items : Array Value} {Q : Value → Shared → Prop} (hL : s.heap.IsTuple l items)
    (h : ∀ h', IsEnum h' (s.heap.objs.size + 1) s.heap.objs.size 0 .none → h'.IsTupleIter s.heap.objs.size l 0 → h'.objs.size = s.heap.objs.size + 2 →
      (∀ b o, s.heap.get? b = some o → h'.get? b = some o) → Q (.ref (s.heap.objs.size + 1)) { s with heap := h' }) :
    wpAny (model prog w) A (call (.type "enumerate") [.ref l]) Q E s := by
  obtain ⟨⟨c, dct, dt, sl⟩, hl, hc, n, hd⟩ := hL
  replace hc : c = .type "tuple" := hc
  replace hd : dt = .seq items n := hd
  subst hc hd
  refine callType_new F.called_enumerate (by decide) (F.typeCall_enumerate_1 _) (F.newCall_enumerate_1 _) (fun obj => F.args_object_init_2 obj _) F.entry_enumerate_new
    (meets_enumerate_newT l items n dct sl) ⟨hl, ?_⟩
  have hz : (s.heap.push { cls := .type "tuple_iterator", data := .fields #[.ref l, .int 0 0] }).objs.size = s.heap.objs.size + 1 := Heap.size_push ..
  show _ ∧ _
  rw [hz]
  have he : IsEnum ((s.heap.push { cls := .type "tuple_iterator", data := .fields #[.ref l, .int 0 0] }).push
      { cls := .type "enumerate", data := .fields #[.none, .bool false, .ref s.heap.objs.size, rawInt 0, .none, .none] }) (s.heap.objs.size + 1) s.heap.objs.size 0 .none := by
    have := Heap.get?_push_size (s.heap.push { cls := .type "tuple_iterator", data := .fields #[.ref l, .int 0 0] })
      (o := { cls := .type "enumerate", data := .fields #[.none, .bool false, .ref s.heap.objs.size, rawInt 0, .none, .none] }) rfl
    rw [hz] at this; exact this
  refine ⟨⟨_, he, rfl⟩, h _ he ⟨_, Heap.get?_push_of_some _ (Heap.get?_push_size _ rfl), rfl, rfl⟩ (by rw [Heap.size_push, hz]) fun b o x => Heap.get?_push_of_some _ (Heap.get?_push_of_some _ x)⟩
end
def IteT (K : PySem.W.Frag) (a : Addr) : It :=
  ⟨fun i H => ∃ (xs : List V) (x : V), SqT K H a xs ∧ xs[i]? = some x, fun i H v H' => ∃ T x, v = .ref T ∧ H T = none ∧ H' = upd H T (.tup [.int (i : Nat), x]) ∧ ∀ xs, SqT K H a xs → xs[i]? = some x, fun i H => ∃ xs : List V, SqT K H a xs ∧ xs.length = i⟩
theorem tup_ne {h : Heap} {a it : Addr} {items : Array Value} {i : Nat} (h1 : h.IsTuple a items) (h2 : h.IsTupleIter it a i) : a ≠ it := fun e => by
  obtain ⟨o, ho, hc, n, hd⟩ := h1
  obtain ⟨o', ho', hc', hd'⟩ := h2
  rw [e] at ho
  rw [ho] at ho'
  cases ho'
  rw [hd] at hd'
  cases hd'
theorem turn_enumT {P : Program} {w : World} {K : PySem.W.Frag} {elts : List Expr} {kk : Nat} {tpos : Pos} (a e it : Addr) (hae : a ≠ e) :
    Turn P w K (.Tuple elts kk tpos) (IteT K a) [e, it] e (fun i h => (∃ old, IsEnum h e it ((i : Nat) : Int) old) ∧ h.IsTupleIter it a i ∧ e ≠ it) where
  mem := by simp
  obj := fun i h st b hb => by
    obtain ⟨⟨old, he⟩, ⟨o, ho, hc, hd⟩, _⟩ := st
    have e' : b = e ∨ b = it := by simpa using hb
    rcases e' with z | z
    · rw [z]; exact ⟨_, he, fun v q => nomatch q⟩
    · rw [z]; exact ⟨o, ho, fun v q => by rw [hd] at q; cases q⟩
  keep := fun i h h' st k => let ⟨⟨old, he⟩, hi, hne⟩ := st; ⟨⟨old, k e (by simp) _ he⟩, hi.at fun o q => k it (by simp) o q, hne⟩
  item := by
    intro X hP hw hK hc i pins s σ H E I hf st hg
    subst hP hw hK
    obtain ⟨⟨old, he⟩, hit, hne⟩ := st
    obtain ⟨xs, x, hq, hx⟩ := hg
    obtain ⟨its, rv, p, hz⟩ := I.tuple hq
    have p : s.heap.IsTuple a its.toArray := p
    have hat : a ≠ it := tup_ne p hit
    have hel : e < s.heap.objs.size := Heap.lt_size he
    have hil : it < s.heap.objs.size := by obtain ⟨_, q, _⟩ := hit; exact Heap.lt_size q
    have hlen : i < its.toArray.size := by
      rw [List.size_toArray, ← rv.length]; exact (List.getElem?_eq_some_iff.mp hx).1
    refine wpAny_pyNext_enum_itemD (Draws.tuple (prog := X.prog) (w := X.w) (A := X.A.in1) (I.ok.hd hc) it a hat its.toArray) he ⟨hit, p⟩ hlen hne (by simp; exact ⟨hne, fun z => hae z.symm⟩) fun u h' tk hu ho hit' hT hsz hk => ?_
    obtain ⟨u', hu', ru'⟩ := rv.get hx
    have eu : u = u' := by
      have h1 : its[i]? = some u := by simpa using hu
      rw [h1] at hu'; exact Option.some.inj hu'
    subst eu
    refine ⟨_, rfl, wpAny_letOwnedTupleGo_enum (s := { s with heap := h', toks := tk + 1 }) ho fun h'' he' sb => ?_⟩
    have hT2 : h''.get? s.heap.objs.size = some { cls := .type "tuple", data := .seq #[.int i tk, u] } := (sb.2 _ (Nat.ne_of_gt hel)).trans hT
    have new : ObjOk X.prog X.w (upd H s.heap.objs.size (.tup [.int (i : Nat), x])) h'' s.heap.objs.size (.tup [.int (i : Nat), x]) :=
      ⟨by show 2 ≤ sizeLine; decide, [.int i tk, u], .cons ⟨_, rfl⟩ (.cons ru' .nil), ⟨_, hT2, rfl, _, rfl⟩⟩
    have I1 : Inv X pins σ (upd H s.heap.objs.size (.tup [.int (i : Nat), x])) { s with heap := h'', toks := tk + 1 } :=
      I.turnedNew (ch := [e, it]) (fun b ob hb q => (sb.2 b (fun z => hb (by simp [z]))).trans (hk b ob (fun z => hb (by simp [z])) (fun z => hb (by simp [z])) q)) hf (Nat.le_refl _) new
    refine ⟨.ref s.heap.objs.size, _, I1, rfl, ⟨_, x, rfl, I.hok.fresh (Nat.le_refl _), rfl, fun ys hy => by rw [I.tuple_inj hy hq]; exact hx⟩, ⟨⟨u, ?_⟩, hit'.1.at fun o q => (sb.2 it (Ne.symm hne)).trans q, hne⟩, fun b hb => ?_⟩
    · have e1 : ((i + 1 : Nat) : Int) = (i : Int) + 1 := by omega
      rw [e1]; exact he'
    · have hb' : b < s.heap.objs.size := by
        have e' : b = e ∨ b = it := by simpa using hb
        rcases e' with z | z
        · rw [z]; exact hel
        · rw [z]; exact hil
      rw [upd_ne (Nat.ne_of_lt hb')]
      exact (hf b hb).1
  done := by
    intro X hP hw hK hc i pins s σ H E I hf st hg
    subst hP hw hK
    obtain ⟨⟨old, he⟩, hit, hne⟩ := st
    obtain ⟨xs, hq, hx⟩ := hg
    obtain ⟨its, rv, p, hz⟩ := I.tuple hq
    have p : s.heap.IsTuple a its.toArray := p
    have hat : a ≠ it := tup_ne p hit
    obtain ⟨f0, f1, f2, f3, f4, f5⟩ := hf it (by simp)
    have hlen : its.toArray.size = i := by rw [List.size_toArray, ← rv.length, hx]
    refine wpAny_pyNext_enum_endD (Draws.tuple (prog := X.prog) (w := X.w) (A := X.A.in1) (I.ok.hd hc) it a hat its.toArray) he ?_ fun h' eb => ⟨rfl, I.turned (t' := s.toks) (fun b o hb q => eb b o hb q) f0 f1 f3 f4 f5⟩
    rw [hlen]
    exact ⟨hit, p⟩
  self := fun A i s Q E st h => let ⟨⟨_, he⟩, _⟩ := st; wpAny_pyIter_enum he h
def iEnumT (K : PySem.W.Frag) (ta : TA) : TI := fun σ H R => ta σ H fun vs H1 => ∃ a xs, vs = [.ref a] ∧ SqT K H1 a xs ∧ R (IteT K a) H1
theorem pi_enumT {X : Cx} {e : Expr} {ta : TA} {p pos tpos : Pos} {elts : List Expr} {kk : Nat} (hg : Gl X "enumerate") (hm : X.mg "enumerate" = none) (ha : PA X [e] ta) (hs : starEach [e] X.env = [(false, eval e X.env)] := by rfl) :
    PI X (.Tuple elts kk tpos) (.Call (.Name "enumerate" p) [e] [] pos) (iEnumT X.K ta) := by
  refine ⟨fun pins s σ H R I h => ?_⟩
  refine Call_ (ld_blt I hg hm boot_enumerate (PyProof.Rows.callWith_type1 (thn (ha.run pos pins s σ H _ I h) fun us s1 ⟨vs, H1, I1, r1, q1⟩ => ?_) hs rfl))
  obtain ⟨a, xs, ex, hq, q⟩ := q1
  subst ex
  cases r1 with
  | cons r rr =>
    cases rr
    cases r
    obtain ⟨its, rv, p', hz⟩ := I1.tuple hq
    have hlt : a < s1.heap.objs.size := by obtain ⟨_, e, _⟩ := p'; exact Heap.lt_size e
    refine call_enumerate_tuple p' fun h' he hit hsz hk => wpAny_pyIter_enum he ?_
    have I2 : Inv X pins σ H1 { s1 with heap := h' } := I1.kept (t' := s1.toks) hk
    refine ⟨s1.heap.objs.size + 1, [s1.heap.objs.size + 1, s1.heap.objs.size], _, _, H1, rfl, I2, turn_enumT a (s1.heap.objs.size + 1) s1.heap.objs.size (Nat.ne_of_lt (Nat.lt_succ_of_lt hlt)), ⟨⟨.none, he⟩, hit, Nat.succ_ne_self _⟩, fun b hb => ?_, q⟩
    have e' : b = s1.heap.objs.size + 1 ∨ b = s1.heap.objs.size := by simpa using hb
    have hle : s1.heap.objs.size ≤ b := by
      rcases e' with z | z
      · rw [z]; exact Nat.le_add_right _ _
      · rw [z]; exact Nat.le_refl _
    exact I1.fpOk hle (I1.hok.fresh hle)
theorem walk_enumT {K : PySem.W.Frag} {a : Addr} {xs : List V} : Walk (IteT K a) xs.length (fun H => SqT K H a xs) (YPair (fun i => some (.int (i : Nat))) (fun i => xs[i]?)) := by
  refine ⟨fun i H hi hG => ⟨xs, xs[i], hG, List.getElem?_eq_getElem hi⟩, fun H hG => ⟨xs, hG, rfl⟩, fun i H x H' hi hG y => ?_⟩
  obtain ⟨T, x, e1, e2, e3, e4⟩ := y
  exact ⟨T, _, x, e1, e2, e3, rfl, e4 xs hG⟩

/-! ### tuple.index of an int -/
theorem flat_ints (ns : List Int) : (ns.map V.int).all flatV = true := by
  rw [List.all_map]
  exact List.all_eq_true.mpr fun _ _ => rfl
theorem mt_tindex {X : Cx} : MtR X "tuple.index" (fun x xs H Q => ∃ p, ∃ ys : List Int, ∃ z j, x = .ref p ∧ xs = [.int z] ∧ SqT X.K H p (ys.map V.int) ∧ ys[j]? = some z ∧ (∀ m, m < j → ys[m]? ≠ some z) ∧ Q (.int (j : Nat)) H) := by
  intro pins s σ H x xs v us Q I rx rs h
  obtain ⟨p, ys, z, j, rfl, rfl, hq, hy, hno, q⟩ := h
  cases rx
  obtain ⟨u, rfl, t, rfl⟩ := vals1 rs
  obtain ⟨its, r, pl, hz⟩ := I.tuple hq
  obtain ⟨⟨cls, dd, dt, sl⟩, ho, hc, n, hd⟩ := pl
  simp only at hc hd
  subst hc
  subst hd
  have hl : its.toArray.size = ys.length := by rw [List.size_toArray, ← r.length, List.length_map]
  have hj : j < its.toArray.size := by rw [hl]; exact (List.getElem?_eq_some_iff.mp hy).1
  have at' : ∀ (m : Nat) (hm : m < its.toArray.size), ∃ y t', ys[m]? = some y ∧ its.toArray[m] = Value.int y t' := fun m hm => by
    have hm' : m < ys.length := by rw [← hl]; exact hm
    obtain ⟨w, hw, t', hw'⟩ := r.get (i := m) (x := .int ys[m]) (by simp [hm'])
    refine ⟨ys[m], t', List.getElem?_eq_getElem hm', ?_⟩
    have e := (List.getElem?_eq_some_iff.mp hw).2
    rw [← hw', ← e]
    simp
  refine call_meets PySem.F.slot_tuple_index ⟨_, ho, rfl⟩ PySem.F.entry_tuple_index (PySem.F.args_tuple_index_2 _ _) (TI.tuple_indexAt p its.toArray n dd sl (.int z t) (eqU (.int z)) j hj ?_ ?_)
    ⟨ho, fun w hw => mem_eqAt (x := .int z) ⟨t, rfl⟩ rfl r (flat_ints ys) w (by simpa using hw), ⟨.int (j : Nat), H, I.tok _, ⟨_, rfl⟩, q⟩⟩
  · obtain ⟨y, t', h1, h2⟩ := at' j hj
    rw [hy] at h1
    cases h1
    rw [h2]
    show (z == z) = true
    exact beq_self_eq_true z
  · intro m hm hmj
    obtain ⟨y, t', h1, h2⟩ := at' m hm
    rw [h2]
    show (y == z) = false
    exact beq_eq_false_iff_ne.mpr fun e => hno m hmj (e ▸ h1)

/-! ### rules by the written part K itself (for a comprehension's block) -/
def rLen (K : PySem.W.Frag) : List V → Hp → VK → Prop := fun xs H Q => ∃ p ys, xs = [.ref p] ∧ (SqL K H p ys ∨ SqT K H p ys) ∧ Q (.int ys.length) H
def rTupOf (K : PySem.W.Frag) : List V → Hp → VK → Prop := fun xs H Q => ∃ p ys, xs = [.ref p] ∧ ((SqL K H p ys ∧ ∀ l, H l = none → Q (.ref l) (upd H l (.tup ys))) ∨ (SqT K H p ys ∧ Q (.ref p) H))
def rListOf (K : PySem.W.Frag) : List V → Hp → VK → Prop := fun xs H Q => ∃ p ys, xs = [.ref p] ∧ (SqL K H p ys ∨ SqT K H p ys) ∧ ∀ l, H l = none → Q (.ref l) (upd H l (.lst ys))
section
variable {X : Cx} {K : PySem.W.Frag}
theorem k_len (hK : X.K = K) : CallR X (.builtin "len") (rLen K) := by subst hK; exact call_len_seq
theorem k_tupOf (hK : X.K = K) : CallR X (.type "tuple") (rTupOf K) := by subst hK; exact call_tuple_of
theorem k_listOf (hK : X.K = K) : CallR X (.type "list") (rListOf K) := by subst hK; exact call_list_of
theorem k_isi (hK : X.K = K) : CallR X (.builtin "isinstance") (rIsi K) := by subst hK; exact call_isi
theorem k_ixT (hK : X.K = K) : IxR X (rIxT K) := by subst hK; exact ix_tup
theorem k_ixL (hK : X.K = K) : IxR X (rIxL K) := by subst hK; exact ix_list
theorem k_slT (hK : X.K = K) : SlR X (rSlA K) := by subst hK; exact sl_tupA
theorem k_catT (hK : X.K = K) : OpR X (binaryOp .Add) (rCatA K) := by subst hK; exact op_catA
theorem k_sumT (hK : X.K = K) (hc : X.calm = true) : CallR X (.builtin "sum") (rSumT K) := by subst hK; exact cr_sumT hc
end

/-! ### a statement, then the rest, with a word between them -/
def tCut (t u : TS) : TS := fun D σ H => ∃ Mid : L2.St → Hp → Prop, t { D with nx := Mid } σ H ∧ ∀ σ' H', Mid σ' H' → u D σ' H'
theorem pss_cut {X : Cx} {st : Stmt} {rest : List Stmt} {t u : TS} (h1 : PS X st t) (h2 : PSs X rest u) : PSs X (st :: rest) (tCut t u) := by
  refine ⟨fun pins s σ H D I h => ?_⟩
  obtain ⟨Mid, hm, hu⟩ := h
  refine wpAny_execs_cons (thn (h1.run pins s σ H { D with nx := Mid } I hm) fun f s1 q => ?_)
  cases f with
  | next =>
    obtain ⟨σ', H', I', q⟩ := q
    exact h2.run pins s1 σ' H' D I' (hu σ' H' q)
  | ret v => exact q
  | brk => exact q
  | cont => exact q

/-! ### a tuple that is known to be plain; its method index -/
def rTupOfZ (K : PySem.W.Frag) : List V → Hp → VK → Prop := fun xs H Q => ∃ p ys, xs = [.ref p] ∧ SqL K H p ys ∧ ∀ l o, H l = none → o.dict = none → Q (.ref l) (upd H l (.frz o (.tup ys)))
theorem k_tupOfZ {X : Cx} {K : PySem.W.Frag} (hK : X.K = K) : CallR X (.type "tuple") (rTupOfZ K) := by
  subst hK
  intro pins s σ H xs us Q I r h
  obtain ⟨p, ys, rfl, hq, q⟩ := h
  obtain ⟨u, rfl, rx⟩ := vals1 r
  cases rx
  obtain ⟨its, r', pl, hz⟩ := I.list hq
  have hlen := r'.length
  refine call_tuple_list pl.isList (fun h' kp => ?_) (by simp only [List.size_toArray] <;> omega)
  have I1 : Inv X pins σ H { s with heap := h' } := I.kept (t' := s.toks) kp
  have I2 : Inv X pins σ (upd H h'.objs.size (.frz { cls := .type "tuple", data := .seq its.toArray } (.tup ys))) { s with heap := h'.push { cls := .type "tuple", data := .seq its.toArray } } :=
    I1.laid (t' := s.toks) (fun b o e => Heap.get?_push_of_some _ e) (Nat.le_refl _) (show ObjOk X.prog X.w _ _ _ (.frz _ (.tup ys)) from ⟨Heap.get?_push_size _ rfl, hz, its, r', IsTup.new _ _⟩)
  exact ⟨.ref h'.objs.size, _, I2, rfl, q _ _ (I1.hok.fresh (Nat.le_refl _)) rfl⟩
def tTM (r : V → List V → Hp → VK → Prop) (to : TE) (t : TA) : TE := fun σ H Q => to σ H fun x H1 => (∃ a ob xs, x = .ref a ∧ H1 a = some (.frz ob (.tup xs)) ∧ ob.dict = none) ∧ t σ H1 fun xs H2 => r x xs H2 Q
theorem pe_tm {X : Cx} {o e : Expr} {es : List Expr} {to : TE} {t : TA} {name : Str} {apos cpos : Pos} {id : String} {r : V → List V → Hp → VK → Prop} (slot : Slot "tuple" name id) (hty : typeOf (.builtin id) = pure (.type "method_descriptor")) (hm : MtR X id r) (ho : PE X o to) (ha : PA X (e :: es) t)
    (hbase : attributeBase o name X.env (eval o X.env) = eval o X.env := by rfl)
    (hfew : ((backTo cpos (starEach (e :: es) X.env)).all (fun x => !x.1) && (backToKw cpos (keywordEach [] X.env)).all (fun x => x.1.isSome)
      && decide ((e :: es).length + ([] : List Keyword).length + (if ([] : List Keyword).isEmpty then 0 else 1) < 30)) = true := by rfl)
    (hline : (apos.endLine == cpos.line) = true := by rfl) (hs : starEach (e :: es) X.env = (false, eval e X.env) :: starEach es X.env := by rfl) (hplain : (backTo cpos (starEach es X.env)).any (·.1) = false := by rfl) :
    PE X (.Call (.Attribute o name apos) (e :: es) [] cpos) (tTM r to t) := by
  refine ⟨fun pins s σ H Q I h => ?_⟩
  refine wpAny_Call_method_late hbase hfew hline rfl (thn (ho.run pins s σ H _ I h) fun v s1 ⟨x, H1, I1, r1, ty, q1⟩ => ?_)
  obtain ⟨a, ob, xs, rfl, hf, hd⟩ := ty
  cases r1
  obtain ⟨hg, hz, its, rv, o', ho', hc, _⟩ := (show ObjOk X.prog X.w H1 s1.heap a (.frz ob (.tup xs)) from I1.hok a _ hf)
  have hc' : ob.cls = .type "tuple" := by rw [hg] at ho'; cases ho'; exact hc
  refine ⟨"tuple", id, PySem.F.plainAttrs_tuple, slot, hty, ⟨ob, hg, hc'⟩, fun b e => by cases e; exact ⟨ob, hg, hd⟩, ?_⟩
  have hA := ha.run cpos pins s1 σ H1 _ I1 q1
  rw [hs] at hA ⊢
  refine Calls.callWith_builtin (by show (false || (backTo cpos (starEach es X.env)).any (·.1)) = false; rw [hplain] <;> rfl) (Calls.evalArgs_plain ?_)
  exact thn hA fun us s2 ⟨vs, H2, I2, r2, q2⟩ => hm pins s2 σ H2 (.ref a) vs (.ref a) us Q I2 rfl r2 q2

/-! ### places in the text -/
def xAsg : Stmt → Expr
  | .Assign _ e _ => e
  | _ => .Constant .none 0 ⟨0, 0, 0, 0⟩
def xArg (i : Nat) : Expr → Expr
  | .Call _ as _ _ => as.getD i (.Constant .none 0 ⟨0, 0, 0, 0⟩)
  | _ => .Constant .none 0 ⟨0, 0, 0, 0⟩
def xLcSc : Expr → Scope
  | .ListComp _ _ sc _ => sc
  | _ => { kind := .function, names := [], isGenerator := false, isCoroutine := false }
/-! ### readings are monotone -/
theorem mono_pair {K : PySem.W.Frag} {n i j : Nat} (x : V) (σ' : L2.St) (H' : Hp) (Q Q' : L2.St → Hp → Prop) (h : ∀ a b, Q a b → Q' a b) (e : gTup K n (gCons (gName i) (gCons (gName j) gNil)) x σ' H' Q) : gTup K n (gCons (gName i) (gCons (gName j) gNil)) x σ' H' Q' := by
  obtain ⟨a, xs, e1, e2, e3, v, r, e4, v', r', e5, e6, q⟩ := e
  exact ⟨a, xs, e1, e2, e3, v, r, e4, v', r', e5, e6, h _ _ q⟩

section
variable {X : Cx} {K : PySem.W.Frag}
theorem k_piL {tg l : Expr} {tl : TE} (hK : X.K = K) (hl : PE X l tl) : PI X tg l (iList K tl) := by subst hK; exact pi_list hl
theorem k_piT {tg l : Expr} {tl : TE} (hK : X.K = K) (hl : PE X l tl) : PI X tg l (iTup K tl) := by subst hK; exact pi_tup hl
theorem k_pgT2 {x y : Str} {px py : Pos} {k : Nat} {pos : Pos} {t1 t2 : TG} (hK : X.K = K) (hc : X.calm = true) (h1 : PG X (.Name x px) t1) (h2 : PG X (.Name y py) t2) : PG X (.Tuple [.Name x px, .Name y py] k pos) (gTup K 2 (gCons t1 (gCons t2 gNil))) := by
  subst hK
  exact pg_tup hc (pgs_cons h1 (pgs_cons h2 pgs_nil))
end
end MB

set_option maxHeartbeats 4000000
namespace MB
open PySem PySem.Spec PyProof.Rows L2

/-! ### heaps -/
theorem same_upd {H : Hp} {p : Addr} {o : HO} (h : H p = none) : Same H (upd H p o) := fun b x e => by
  rw [upd_ne (ne_of_none e h)]
  exact e
/-- an object that was not tracked may change -/
theorem Same.mut {H H' : Hp} {p : Addr} {o : HO} (s : Same H H') (h : H p = none) : Same H (upd H' p o) := fun b x e => by
  rw [upd_ne (ne_of_none e h)]
  exact s _ _ e
theorem Same.tup {K : PySem.W.Frag} {H H' : Hp} {a : Addr} {xs : List V} (e : Same H H') (h : SqT K H a xs) : SqT K H' a xs := by
  rcases h with (h | ⟨o, h⟩) | h
  · exact .inl (.inl (e _ _ h))
  · exact .inl (.inr ⟨o, e _ _ h⟩)
  · exact .inr h
theorem Same.tupF {K : PySem.W.Frag} {H H' : Hp} {a : Addr} {o : Obj} {xs : List V} (e : Same H H') (h : H a = some (.frz o (.tup xs))) : SqT K H' a xs := .inl (.inr ⟨o, e _ _ h⟩)
theorem Dp.same {K : PySem.W.Frag} {H H' : Hp} (e : Same H H') : ∀ {v : V} {d : PyData}, Dp K H v d → Dp K H' v d := by
  intro v d h
  refine Dp.rec (motive_1 := fun v d _ => Dp K H' v d) (motive_2 := fun vs ds _ => DpAll K H' vs ds) ?_ ?_ ?_ ?_ ?_ ?_ ?_ ?_ h
  · exact .non
  · intro b; exact .bl b
  · intro i; exact .int i
  · intro x; exact .str x
  · intro a xs ds hs _ ih; exact .lst (e.seq hs) ih
  · intro a xs ds hs _ ih; exact .tup (Same.tup e hs) ih
  · exact .nil
  · intro v vs d ds _ _ h1 h2; exact .cons h1 h2
theorem DpAll.get {K : PySem.W.Frag} {H : Hp} : ∀ {vs : List V} {ds : List PyData}, DpAll K H vs ds → ∀ {i : Nat} {d : PyData}, ds[i]? = some d → ∃ v, vs[i]? = some v ∧ Dp K H v d
  | _, _, .nil, i, d, h => by simp at h
  | _, _, .cons a b, 0, d, h => by
    simp at h; subst h
    exact ⟨_, rfl, a⟩
  | _, _, .cons a b, i + 1, d, h => by
    obtain ⟨v, h1, h2⟩ := DpAll.get b (i := i) (d := d) (by simpa using h)
    exact ⟨v, by simpa using h1, h2⟩
theorem DpAll.len {K : PySem.W.Frag} {H : Hp} : ∀ {vs : List V} {ds : List PyData}, DpAll K H vs ds → vs.length = ds.length
  | _, _, .nil => rfl
  | _, _, .cons a b => by simp [DpAll.len b]
theorem DpAll.take {K : PySem.W.Frag} {H : Hp} : ∀ {vs : List V} {ds : List PyData} (n : Nat), DpAll K H vs ds → DpAll K H (vs.take n) (ds.take n)
  | _, _, 0, _ => .nil
  | _, _, _ + 1, .nil => .nil
  | _, _, n + 1, .cons a b => .cons a (DpAll.take n b)
theorem DpAll.append {K : PySem.W.Frag} {H : Hp} : ∀ {vs ws : List V} {ds es : List PyData}, DpAll K H vs ds → DpAll K H ws es → DpAll K H (vs ++ ws) (ds ++ es)
  | _, _, _, _, .nil, s => s
  | _, _, _, _, .cons a b, s => .cons a (DpAll.append b s)
theorem DpAll.same {K : PySem.W.Frag} {H H' : Hp} (e : Same H H') : ∀ {vs : List V} {ds : List PyData}, DpAll K H vs ds → DpAll K H' vs ds
  | _, _, .nil => .nil
  | _, _, .cons a b => .cons (Dp.same e a) (DpAll.same e b)
theorem dp_ints {K : PySem.W.Frag} {H : Hp} : ∀ ns : List Int, DpAll K H (ns.map V.int) (ns.map PyData.int)
  | [] => .nil
  | n :: ns => .cons (.int n) (dp_ints ns)
theorem ty_tup {K : PySem.W.Frag} {H : Hp} {a : Addr} {xs : List V} (h : SqT K H a xs) : TyX K H (.ref a) (.type "tuple") := by
  rcases h with (h | ⟨o, h⟩) | ⟨o, its, n, h, hc, _⟩
  · exact .base (.tup h)
  · exact .fTuple h
  · exact .kTuple h hc

/-! ### lists of numbers -/
def vi (p : List Nat) : List V := p.map fun (m : Nat) => V.int (m : Int)
def ci (p : List Nat) : List Int := p.map fun (m : Nat) => (m : Int)
theorem vi_ci (p : List Nat) : vi p = (ci p).map V.int := by simp [vi, ci]
theorem vi_len (p : List Nat) : (vi p).length = p.length := by simp [vi]
theorem vi_get {p : List Nat} {i m : Nat} (h : p[i]? = some m) : (vi p)[i]? = some (.int (m : Int)) := by simp [vi, h]
theorem vi_app (p q : List Nat) : vi (p ++ q) = vi p ++ vi q := by simp [vi]
theorem at_vi {p : List Nat} {i m : Nat} (h : p[i]? = some m) : atI (vi p) (i : Int) = some (.int (m : Int)) := atI_nat (vi_get h)
theorem sz60 {n : Nat} (h : n ≤ 100000) : n ≤ sizeLine := Nat.le_trans h (by decide)
theorem sz61 {n : Nat} (h : n ≤ 100000) : n < sizeLine := Nat.lt_of_le_of_lt h (by decide)
theorem decT {c : Prop} [Decidable c] (h : c) {A B : Prop} (a : A) : if decide c = true then A else B := by
  rw [if_pos (decide_eq_true h)]; exact a
theorem decF {c : Prop} [Decidable c] (h : ¬ c) {A B : Prop} (b : B) : if decide c = true then A else B := by
  rw [if_neg (by simp [h])]; exact b

/-! ### data of tuples: no list within -/
inductive Tf : PyData → Prop
  | non : Tf .none
  | bl (b : Bool) : Tf (.bool b)
  | int (i : Int) : Tf (.int i)
  | str (x : Str) : Tf (.str x)
  | tup {ds : List PyData} : (∀ d, d ∈ ds → Tf d) → Tf (.tuple ds)
theorem Tf.items {ds : List PyData} (h : Tf (.tuple ds)) : ∀ d, d ∈ ds → Tf d := by
  cases h with
  | tup h => exact h
theorem tf_ints (ns : List Int) : ∀ d, d ∈ ns.map PyData.int → Tf d := fun d h => by
  obtain ⟨i, _, rfl⟩ := List.mem_map.mp h
  exact .int i
/-- all tuples stay -/
def Keep (K : PySem.W.Frag) (H H' : Hp) : Prop := ∀ a xs, SqT K H a xs → SqT K H' a xs
theorem Keep.of {K : PySem.W.Frag} {H H' : Hp} (s : Same H H') : Keep K H H' := fun _ _ h => Same.tup s h
theorem Keep.trans {K : PySem.W.Frag} {H H1 H2 : Hp} (a : Keep K H H1) (b : Keep K H1 H2) : Keep K H H2 := fun _ _ h => b _ _ (a _ _ h)
theorem Keep.refl {K : PySem.W.Frag} {H : Hp} : Keep K H H := fun _ _ h => h
/-- all but the list at l stay -/
def But (l : Addr) (H H' : Hp) : Prop := ∀ b o, b ≠ l → H b = some o → H' b = some o
theorem But.refl {l : Addr} {H : Hp} : But l H H := fun _ _ _ h => h
theorem But.trans {l : Addr} {H H1 H2 : Hp} (a : But l H H1) (b : But l H1 H2) : But l H H2 := fun c o n h => b c o n (a c o n h)
theorem But.of {l : Addr} {H H' : Hp} (s : Same H H') : But l H H' := fun c o _ h => s c o h
theorem But.upd {l : Addr} {H : Hp} {o : HO} : But l H (L2.upd H l o) := fun c u n h => by rw [upd_ne n]; exact h
theorem But.keep {K : PySem.W.Frag} {l : Addr} {H H' : Hp} {ys : List V} (s : But l H H') (hl : H l = some (.lst ys)) : Keep K H H' := fun a xs h => by
  rcases h with (h | ⟨o, h⟩) | h
  · exact .inl (.inl (s _ _ (fun e => by rw [e, hl] at h; cases h) h))
  · exact .inl (.inr ⟨o, s _ _ (fun e => by rw [e, hl] at h; cases h) h⟩)
  · exact .inr h
theorem But.same {l : Addr} {H0 H H' : Hp} (s : Same H0 H) (b : But l H H') (n : H0 l = none) : Same H0 H' := fun c o e => b c o (ne_of_none e n) (s c o e)
theorem Dp.keep {K : PySem.W.Frag} {H H' : Hp} (e : Keep K H H') : ∀ {v : V} {d : PyData}, Tf d → Dp K H v d → Dp K H' v d := by
  intro v d t h
  refine Dp.rec (motive_1 := fun v d _ => Tf d → Dp K H' v d) (motive_2 := fun vs ds _ => (∀ d, d ∈ ds → Tf d) → DpAll K H' vs ds) ?_ ?_ ?_ ?_ ?_ ?_ ?_ ?_ h t
  · intro _; exact .non
  · intro b _; exact .bl b
  · intro i _; exact .int i
  · intro x _; exact .str x
  · intro a xs ds hs _ ih t; cases t
  · intro a xs ds hs _ ih t; exact .tup (e _ _ hs) (ih t.items)
  · intro _; exact .nil
  · intro v vs d ds _ _ h1 h2 t; exact .cons (h1 (t _ (List.mem_cons_self ..))) (h2 fun d hd => t d (List.mem_cons_of_mem _ hd))
theorem DpAll.keep {K : PySem.W.Frag} {H H' : Hp} (e : Keep K H H') : ∀ {vs : List V} {ds : List PyData}, (∀ d, d ∈ ds → Tf d) → DpAll K H vs ds → DpAll K H' vs ds
  | _, _, _, .nil => .nil
  | _, _, t, .cons a b => .cons (Dp.keep e (t _ (List.mem_cons_self ..)) a) (DpAll.keep e (fun d hd => t d (List.mem_cons_of_mem _ hd)) b)
theorem dp_ints_inv {K : PySem.W.Frag} {H : Hp} : ∀ {ns : List Int} {vs : List V}, DpAll K H vs (ns.map PyData.int) → vs = ns.map V.int
  | [], _, .nil => rfl
  | n :: ns, _, .cons a b => by
    cases a
    rw [dp_ints_inv b]
    rfl
theorem Dp.tupInv {K : PySem.W.Frag} {H : Hp} {v : V} {ds : List PyData} (h : Dp K H v (.tuple ds)) : ∃ a xs, v = .ref a ∧ SqT K H a xs ∧ DpAll K H xs ds := by
  cases h with
  | tup h1 h2 => exact ⟨_, _, rfl, h1, h2⟩
theorem Dp.intsInv {K : PySem.W.Frag} {H : Hp} {v : V} {ns : List Int} (h : Dp K H v (.tuple (ns.map PyData.int))) : ∃ a, v = .ref a ∧ SqT K H a (ns.map V.int) := by
  obtain ⟨a, xs, e, h1, h2⟩ := Dp.tupInv h
  rw [dp_ints_inv h2] at h1
  exact ⟨a, e, h1⟩

/-! ### a comprehension that gives an item at each turn -/
theorem lc_all {K : PySem.W.Frag} {J : It} {n : Nat} {G : Hp → Prop} {Y : Nat → Hp → V → Hp → Prop} (w : Walk J n G Y) {g : TG} {tt : TT} {te : TE} {vs : List Nat} {σ : L2.St} {H1 : Hp} {D : Addr} {Qd : Hp → Prop}
    (ds : List PyData) (hl : ds.length = n) (ht : ∀ d, d ∈ ds → Tf d) (hn : n ≤ 1000) (hD : H1 D = none) (hG : ∀ H, Same H1 H → G H)
    (hs : ∀ i x H H', i < n → Same H1 H → Y i H x H' → ∀ d, ds[i]? = some d → ∀ R : V → Hp → Prop, (∀ y H4, Same H H4 → Dp K H4 y d → R y H4) →
      g x (wipe σ vs) H' fun σ2 H2 => wipe σ2 vs = wipe σ vs ∧ tt σ2 H2 fun b H3 => b = true ∧ te σ2 H3 R)
    (hd : ∀ H acc, Same H1 H → H D = some (.lst acc) → DpAll K H acc ds → Qd H)
    (mg : ∀ x σ' H' (Q Q' : L2.St → Hp → Prop), (∀ a b, Q a b → Q' a b) → g x σ' H' Q → g x σ' H' Q') (mt : ∀ σ' H' (Q Q' : Bool → Hp → Prop), (∀ a b, Q a b → Q' a b) → tt σ' H' Q → tt σ' H' Q') :
    ∃ W : Nat → Nat → Hp → Prop, (∃ m, W 0 m (upd H1 D (.lst []))) ∧ ∀ i m H, W i m H →
      (J.stop i H ∧ Qd H) ∨ (J.go i H ∧ ∃ Nx : Hp → Prop, (∀ H', Nx H' → ∃ m', m' < m ∧ W (i + 1) m' H') ∧ ∀ x H', J.yld i H x H' → g x (wipe σ vs) H' fun σ2 H2 => wipe σ2 vs = wipe σ vs ∧ tt σ2 H2 fun b H3 =>
        if b = true then te σ2 H3 fun y H4 => ∃ acc, H4 D = some (.lst acc) ∧ acc.length < sizeLine ∧ Nx (upd H4 D (.lst (acc ++ [y]))) else Nx H3) := by
  refine lc_it w (fun i H => Same H1 H ∧ ∃ acc, H D = some (.lst acc) ∧ DpAll K H acc (ds.take i)) ⟨same_upd hD, [], upd_same, .nil⟩ (fun i H _ h => hG H h.1) ?_ ?_
  · rintro i x H H' hi ⟨s1, acc, ha, hA⟩ hy
    have hd' : ds[i]? = some ds[i] := List.getElem?_eq_getElem (by omega)
    have hlen := DpAll.len hA
    rw [List.length_take] at hlen
    refine mg _ _ _ _ _ ?_ (hs i x H H' hi s1 hy ds[i] hd' (fun y H4 => ∃ acc, H4 D = some (.lst acc) ∧ acc.length < sizeLine ∧ (Same H1 (upd H4 D (.lst (acc ++ [y]))) ∧ ∃ acc', (upd H4 D (.lst (acc ++ [y]))) D = some (.lst acc') ∧ DpAll K (upd H4 D (.lst (acc ++ [y]))) acc' (ds.take (i + 1)))) ?_)
    · rintro σ2 H2 ⟨h1, h2⟩
      refine ⟨h1, mt _ _ _ _ ?_ h2⟩
      rintro b H3 ⟨rfl, h3⟩
      exact iteT h3
    · intro y H4 s4 hy4
      refine ⟨acc, s4 _ _ ha, sz61 (by omega), Same.mut (s1.trans s4) hD, acc ++ [y], upd_same, ?_⟩
      have kp : Keep K H4 (upd H4 D (.lst (acc ++ [y]))) := But.keep But.upd (s4 _ _ ha)
      rw [List.take_add_one, hd']
      refine DpAll.keep kp (fun d h => ?_) (DpAll.append (DpAll.same s4 hA) (.cons hy4 .nil))
      rcases List.mem_append.mp h with h | h
      · exact ht d (List.mem_of_mem_take h)
      · have e : d = ds[i] := by simpa using h
        rw [e]; exact ht _ (List.getElem_mem ..)
  · rintro H ⟨s1, acc, ha, hA⟩
    rw [List.take_of_length_le (by omega)] at hA
    exact hd H acc s1 ha hA

/-! ### tuples cut and joined -/
theorem cut_to {xs : List V} {k : Nat} (h : k ≤ xs.length) : cutV xs none (some (k : Int)) = xs.take k := by
  unfold cutV
  rw [HT.sIx_none, HT.sIx_nat, Nat.min_eq_left h]
  simp
theorem cut_from {xs : List V} {k : Nat} (h : k ≤ xs.length) : cutV xs (some (k : Int)) none = xs.drop k := by
  unfold cutV
  rw [HT.sIx_none, HT.sIx_nat, Nat.min_eq_left h]
  rw [List.take_of_length_le (by rw [List.length_drop]; omega)]
theorem sl_read {K : PySem.W.Frag} {H : Hp} {a : Addr} {xs : List V} {lo hi : Option Int} {Q : VK} (h : SqT K H a xs) (q : ∀ p H', Same H H' → SqT K H' p (cutV xs lo hi) → Q (.ref p) H') : rSlA K (.ref a) lo hi H Q := by
  refine ⟨a, xs, rfl, h, fun e => q a H (Same.refl H) ?_, fun _ p hp => q p _ (same_upd hp) (.inl (.inl upd_same))⟩
  unfold cutV
  rw [e.1, e.2]
  simpa using h
theorem cat_read {K : PySem.W.Frag} {H : Hp} {a b : Addr} {xs ys : List V} {Q : VK} (ha : SqT K H a xs) (hb : SqT K H b ys) (hz : xs.length + ys.length ≤ 100000) (q : ∀ p H', Same H H' → SqT K H' p (xs ++ ys) → Q (.ref p) H') : rCatA K (.ref a) (.ref b) H Q := by
  refine ⟨a, b, xs, ys, rfl, rfl, ha, hb, sz60 hz, fun e => q b H (Same.refl H) ?_, fun _ e => q a H (Same.refl H) ?_, fun _ _ p hp => q p _ (same_upd hp) (.inl (.inl upd_same))⟩
  · rw [e]; exact hb
  · rw [e, List.append_nil]; exact ha
theorem DpAll.snoc {K : PySem.W.Frag} {H : Hp} : ∀ {vs : List V} {ds : List PyData} {d : PyData}, DpAll K H vs (ds ++ [d]) → ∃ us v, vs = us ++ [v] ∧ DpAll K H us ds ∧ Dp K H v d
  | _, [], _, .cons a .nil => ⟨[], _, rfl, .nil, a⟩
  | _, _ :: ds, _, .cons a b => by
    obtain ⟨us, v, e, h1, h2⟩ := DpAll.snoc b
    exact ⟨_ :: us, v, by rw [e]; rfl, .cons a h1, h2⟩
theorem ixN_of {n j : Nat} (hj : j < n) : ixN n (j : Int) = some j := by
  unfold ixN
  rw [if_pos (by omega), if_pos (by omega)]
  simp
theorem vi_set (c : List Nat) (k v : Nat) : (vi c).set k (.int (v : Int)) = vi (c.set k v) := by
  unfold vi
  rw [List.map_set]
theorem vi_rep (n v : Nat) : vi (List.replicate n v) = List.replicate n (.int (v : Int)) := by simp [vi]

/-! ### [x for x in range(lo, hi) if ..] -/
theorem lc_fil {lo : Int} {n j : Nat} {vs : List Nat} {σ : L2.St} {H1 : Hp} {D : Addr} {Qd : Hp → Prop} {tt : TT} (f : Nat → Bool) (hn : n ≤ 1000) (hD : H1 D = none)
    (hw : ∀ x, wipe ((wipe σ vs).set j (some x)) vs = wipe σ vs) (hj : ∀ x : V, ((wipe σ vs).set j (some x))[j]? = some (some x))
    (ht : ∀ (i : Nat) H (Q : Bool → Hp → Prop), i < n → Same H1 H → Q (f i) H → tt ((wipe σ vs).set j (some (.int (lo + (i : Nat))))) H Q)
    (hd : ∀ H, Same H1 H → H D = some (.lst (((List.range n).filter f).map fun (i : Nat) => V.int (lo + (i : Nat)))) → Qd H) :
    ∃ W : Nat → Nat → Hp → Prop, (∃ m, W 0 m (upd H1 D (.lst []))) ∧ ∀ i m H, W i m H →
      ((Itr lo n).stop i H ∧ Qd H) ∨ ((Itr lo n).go i H ∧ ∃ Nx : Hp → Prop, (∀ H', Nx H' → ∃ m', m' < m ∧ W (i + 1) m' H') ∧ ∀ x H', (Itr lo n).yld i H x H' → gName j x (wipe σ vs) H' fun σ2 H2 => wipe σ2 vs = wipe σ vs ∧ tt σ2 H2 fun b H3 =>
        if b = true then tVar j σ2 H3 fun y H4 => ∃ acc, H4 D = some (.lst acc) ∧ acc.length < sizeLine ∧ Nx (upd H4 D (.lst (acc ++ [y]))) else Nx H3) := by
  refine lc_range (lo := lo) (n := n) (fun i H => Same H1 H ∧ H D = some (.lst (((List.range i).filter f).map fun (i : Nat) => V.int (lo + (i : Nat))))) ⟨same_upd hD, upd_same⟩ ?_ ?_
  · rintro i H hi ⟨s1, h1⟩
    refine ⟨hw _, ht i H _ hi s1 ?_⟩
    have hlen : (((List.range i).filter f).map fun (i : Nat) => V.int (lo + (i : Nat))).length ≤ i := by
      rw [List.length_map]
      have := List.length_filter_le f (List.range i)
      rw [List.length_range] at this
      exact this
    by_cases hf : f i = true
    · rw [hf]
      refine iteT ⟨_, hj _, _, h1, sz61 (by omega), Same.mut s1 hD, ?_⟩
      rw [List.range_succ, List.filter_append, List.map_append]
      simp only [List.filter_cons, hf, if_true, List.filter_nil, List.map_cons, List.map_nil]
      exact upd_same
    · have hf' : f i = false := by simpa using hf
      rw [hf']
      refine iteF ⟨s1, ?_⟩
      rw [List.range_succ, List.filter_append, List.map_append]
      simpa [hf'] using h1
  · rintro H ⟨s1, h1⟩
    exact hd H s1 h1
theorem iteB1 {b : Bool} {A B : Prop} (h : b = true) (a : A) : if b = true then A else B := by rw [if_pos h]; exact a
theorem iteB0 {b : Bool} {A B : Prop} (h : b = false) (a : B) : if b = true then A else B := by rw [if_neg (by rw [h]; decide)]; exact a

/-! ### deep comparisons -/
theorem lay_all : ∀ {ds : List PyData}, (∀ d, d ∈ ds → d.canLay0 = true) → PyData.canLayAll0 ds = true
  | [], _ => by simp [PyData.canLayAll0]
  | d :: ds, h => by
    simp only [PyData.canLayAll0]
    rw [h d (List.mem_cons_self ..), lay_all fun e he => h e (List.mem_cons_of_mem _ he)]; rfl
theorem dep_all {k : Nat} : ∀ {ds : List PyData}, (∀ d, d ∈ ds → d.depth ≤ k) → PyData.depthAll ds ≤ k
  | [], _ => by simp [PyData.depthAll]
  | d :: ds, h => by
    simp only [PyData.depthAll]
    have h1 := h d (List.mem_cons_self ..)
    have h2 := dep_all (k := k) fun e he => h e (List.mem_cons_of_mem _ he)
    omega
/-- plain data of at most so many levels -/
def Sh (k : Nat) (d : PyData) : Prop := d.canLay0 = true ∧ d.depth ≤ k
theorem Sh.shaped {k : Nat} {d : PyData} (h : Sh k d) (hk : k ≤ 64) : SeqAt.shaped d = true := by
  unfold SeqAt.shaped
  rw [h.1, decide_eq_true (by have := h.2; omega)]; rfl
theorem Sh.tup {k : Nat} {ds : List PyData} (h : ∀ d, d ∈ ds → Sh k d) : Sh (k + 1) (.tuple ds) :=
  ⟨by simp only [PyData.canLay0]; exact lay_all fun d hd => (h d hd).1, by simp only [PyData.depth]; have := dep_all (k := k) (ds := ds) fun d hd => (h d hd).2; omega⟩
theorem Sh.lst {k : Nat} {ds : List PyData} (h : ∀ d, d ∈ ds → Sh k d) : Sh (k + 1) (.list ds) :=
  ⟨by simp only [PyData.canLay0]; exact lay_all fun d hd => (h d hd).1, by simp only [PyData.depth]; have := dep_all (k := k) (ds := ds) fun d hd => (h d hd).2; omega⟩
theorem Sh.int (i : Int) {k : Nat} : Sh k (.int i) := ⟨by simp [PyData.canLay0], by simp [PyData.depth]⟩
theorem Sh.ints {k : Nat} (ns : List Int) : ∀ d, d ∈ ns.map PyData.int → Sh k d := fun d h => by
  obtain ⟨i, _, rfl⟩ := List.mem_map.mp h
  exact .int i
theorem eq_data {K : PySem.W.Frag} {H : Hp} {x y : V} {d : PyData} {Q : VK} {k : Nat} (hx : Dp K H x d) (hy : Dp K H y d) (hs : Sh k d) (hk : k ≤ 64) (q : Q (.bl true) H) : rEqD K x y H Q :=
  ⟨d, d, hx, hy, hs.shaped hk, hs.shaped hk, by rw [SeqAt.eqv_refl d hs.1]; exact q⟩
theorem ne_data {K : PySem.W.Frag} {H : Hp} {x y : V} {d : PyData} {Q : VK} {k : Nat} (hx : Dp K H x d) (hy : Dp K H y d) (hs : Sh k d) (hk : k ≤ 64) (q : Q (.bl false) H) : rNeD K x y H Q :=
  ⟨d, d, hx, hy, hs.shaped hk, hs.shaped hk, by rw [SeqAt.eqv_refl d hs.1]; exact q⟩
theorem dp_tup {K : PySem.W.Frag} {H : Hp} {a : Addr} {ns : List Int} (h : SqT K H a (ns.map V.int)) : Dp K H (.ref a) (.tuple (ns.map PyData.int)) := .tup h (dp_ints ns)
theorem ne_ints {K : PySem.W.Frag} {H : Hp} {a b : Addr} {ns : List Int} {Q : VK} (ha : SqT K H a (ns.map V.int)) (hb : SqT K H b (ns.map V.int)) (q : Q (.bl false) H) : rNeD K (.ref a) (.ref b) H Q :=
  ne_data (dp_tup ha) (dp_tup hb) (Sh.tup (k := 0) (Sh.ints ns)) (by decide) q
end MB

set_option maxHeartbeats 4000000
namespace MB
open PySem PySem.Spec PyProof.Rows L2

/-! ### a def called where no repr is under way -/
structure FnG (P : Program) (w : World) (K : PySem.W.Frag) (mg : Str → Option Value) (base : Heap) (CX : CXT) (k : Nat) (f : Addr) (fd : FuncData) (ps : List Str) (sp : Sp) : Prop where
  len : ∀ vs H Q E, sp vs H Q E → vs.length = ps.length
  run : ∀ (A : Around), A.guards = some [] → Room k A → ∀ (outer : List Env) (s : Shared) (H : Hp) (args : Args) (us : List Value) (vs : List V) (Q : VK) (E : XK),
    Env0 P w K mg base A outer s H → BindsTo s fd args (ps.zip us) → Vals vs us → sp vs H Q E → codeAny (model P w) A (.call (.ref f) args) (CR CX outer P w H s Q E) s
section
variable {P : Program} {w : World} {K : PySem.W.Frag} {mg : Str → Option Value} {base : Heap} {CX : CXT} {k : Nat} {f : Addr} {fd : FuncData} {ps : List Str} {sp : Sp}
theorem FnG.of (F : FnOk P w K mg base CX k f fd ps sp) : FnG P w K mg base CX k f fd ps sp :=
  ⟨F.len, fun A _ hr outer s H args us vs Q E => F.run A outer s H args us vs Q E hr⟩
theorem deeper_guards {A : Around} {env : Env} (h : A.guards = some []) : (A.deeper env).guards = some [] := h
theorem fnG_of {name qual : Str} {params : Arguments} {body : List Stmt} {scope : Scope} {dV kV doc pm cdv ct oc : Value} {an od : Option Addr} {osl : Array (Option Value)} {N : List Str}
    (lk : K.lookup f = some ⟨oc, od, .func (PySem.W.fnOf name qual params body scope dV kV doc pm an cdv ct), osl⟩) (hcd : PySem.W.codeIn K cdv qual = true) (S : FnScope N ps scope)
    (len : ∀ vs H Q E, sp vs H Q E → vs.length = ps.length)
    (hbody : ∀ (A : Around), A.guards = some [] → ∀ (outer : List Env) (s : Shared) (H : Hp) (vs : List V) (Q : VK) (E : XK), Room k (A.deeper (envOfC qual scope s.heap.objs.size f cdv)) → sp vs H Q E →
      ∃ t, PSs (cxOf CX P w K mg base N qual scope f cdv A outer s H E) body t ∧ t { nx := fun _ H' => Q .non H', rt := Q } (start N vs) H) :
    FnG P w K mg base CX (k + 1) f (PySem.W.fnOf name qual params body scope dV kV doc pm an cdv ct) ps sp := by
  refine ⟨len, fun A hgd hr outer s H args us vs Q E e0 hb r hsp => ?_⟩
  have kept : ∀ b o, base.get? b = some o → s.heap.get? b = some o := fun b o e => (e0.bs b o e).1
  have KX : K.In s.heap := e0.mod.kin.keeps kept
  obtain ⟨t, ht, hq⟩ := hbody A hgd outer s H vs Q E (hr.deeper _) hsp
  have par : ∀ y ∈ ps.zip us, scope.names.lookup y.1 = some .local ∨ (scope.names.lookup y.1 = some .cell ∧ ((cellsFrom (s.heap.objs.size + 1) scope.names []).lookup y.1).isSome = true) := by
    rintro ⟨n, v⟩ hy
    exact (S.par n (List.of_mem_zip hy).1).imp id fun z => ⟨z, PySem.W.cellsFrom_some _ _ _ (.inl z)⟩
  refine codeAny_call_function hr.depth (KX _ _ lk) rfl S.co S.gen rfl (PySem.W.codeRec_of KX hcd) (hb _ _ _ _ (wpAny_newFunctionEnv_cells S.kind par fun env he s1 x => ?_))
  subst he
  refine ⟨(e0.mod.nolimit.keeps kept).keeps x.toInCall.keep, codeAny_func (wpAny_mono (ht.run [] s1 (start N vs) H _ (inv_start S hr.hd e0 (len _ _ _ _ hsp) r x) hq) (fun fl s' hs => ?_) fun e s' hs => hs)⟩
  rcases fl with _ | _ | _ | u
  · obtain ⟨σ', H', J, q⟩ := hs
    exact ⟨V.non, H', J.os, J.bare, J.base, J.hok, rfl, q⟩
  · exact (let ⟨_, _, _, q⟩ := hs; False.elim q)
  · exact (let ⟨_, _, _, q⟩ := hs; False.elim q)
  · obtain ⟨v, σ', H', J, rv, q⟩ := hs
    exact ⟨v, H', J.os, J.bare, J.base, J.hok, rv, q⟩
theorem Fun.okG {x qual : Str} {st : Stmt} {N : List Str} (F : L2.Fun K x qual st f fd) (S : FnScope N ps (defScope st)) (len : ∀ vs H Q E, sp vs H Q E → vs.length = ps.length)
    (hbody : ∀ (cdv : Value) (A : Around), A.guards = some [] → ∀ (outer : List Env) (s : Shared) (H : Hp) (vs : List V) (Q : VK) (E : XK), Room k (A.deeper (envOfC qual (defScope st) s.heap.objs.size f cdv)) → sp vs H Q E →
      ∃ t, PSs (cxOf CX0 P w K mg base N qual (defScope st) f cdv A outer s H E).nox (defBody st) t ∧ t { nx := fun _ H' => Q .non H', rt := Q } (start N vs) H) : FnG P w K mg base CX0 (k + 1) f fd ps sp := by
  obtain ⟨oc, od, kV, doc, pm, an, cdv, ct, osl, rfl, lk, hcd⟩ := F.ex
  exact fnG_of lk hcd S len fun A hgd outer s H vs Q E hr hsp => let ⟨t, h, q⟩ := hbody cdv A hgd outer s H vs Q E hr hsp; ⟨t, h.nox, q⟩
end
section
variable {X : Cx} {CX : CXT} {k : Nat} {f : Addr} {fd : FuncData} {ps : List Str} {sp : Sp} {ds : List Value} {dvs : List V} {E : XK} {x : Str} {p pos : Pos} {e : Expr} {es : List Expr} {t : TA}
theorem pe_callG (F : FnG X.prog X.w X.K X.mg X.base CX k f fd ps sp) (hgd : X.A.guards = some []) (hr : Room k X.A) (hg : Gl X x) (hm : X.mg x = some (.ref f)) (hk : PySem.W.keepIn X.K (.ref f) = true) (hb : Binds X.K fd ps ds) (hd : Vals dvs ds) (hx : Passes CX X E)
    (ha : PA X (e :: es) t) (hdb : (x == ("__debug__" : Str)) = false := by decide) (he : starEach (e :: es) X.env = (false, eval e X.env) :: starEach es X.env := by rfl) (hpl : (backTo pos (starEach es X.env)).any (·.1) = false := by rfl) :
    PE X (.Call (.Name x p) (e :: es) [] pos) (tCall sp dvs E t) := by
  refine ⟨fun pins s σ H Q I h => wpAny_Call_Name_kw (ld_glob I hg hm (PySem.W.callWith_K (h₀ := X.base) I.ok.mod.kin hk (thn (ha.run pos pins s σ H _ I h) fun us s1 ⟨vs, H1, I1, r, q⟩ => ⟨I1.kIn, ?_⟩) he hpl) hdb)⟩
  have r2 : Vals (vs ++ dvs) (us ++ ds) := r.append hd
  have hl : (us ++ ds).length = ps.length := r2.length.symm.trans (F.len _ _ _ _ q)
  refine wpAny_call (codeAny_mono (F.run X.A hgd hr X.stack s1 H1 ⟨us, []⟩ (us ++ ds) (vs ++ dvs) Q E I1.env0 (hb s1 us I1.kIn hl) r2 q) fun res s' hq => ?_)
  rcases res with e | fl
  · exact hx pins σ H1 s1 e s' I1 hq
  · rcases fl with _ | _ | _ | u
    · exact False.elim hq
    · exact False.elim hq
    · exact False.elim hq
    · exact I1.after hq
end

/-! ### repr of plain data -/
def rReprD (K : PySem.W.Frag) : List V → Hp → VK → Prop := fun xs H Q => ∃ (x : V) (d : PyData), xs = [x] ∧ Dp K H x d ∧ d.canLay0 = true ∧ d.showable = true ∧ d.depth ≤ 60 ∧ d.shown.length ≤ sizeLine ∧ Q (.str d.shown) H
theorem call_reprD {X : Cx} (hgd : X.A.guards = some []) (hu : X.A.units + 64 < cLine) : CallR X (.builtin "repr") (rReprD X.K) := by
  intro pins s σ H xs us Q I r h
  obtain ⟨x, d, rfl, hd, hc, hs, hdep, hz, q⟩ := h
  obtain ⟨u, rfl, rx⟩ := vals1 r
  obtain ⟨as, rd⟩ := Dp.reads I d x u hd rx
  have nd := PyData.hasDict_of_canLay d hc
  have fin : ∀ (h' : Heap) (v tk : Tok), (∀ b o, s.heap.get? b = some o → h'.get? b = some o) → EP X pins σ Q (.str d.shown v) { s with heap := h', toks := tk } := fun h' v tk hk => ⟨.str d.shown, H, I.kept hk, ⟨_, rfl⟩, q⟩
  cases rd with
  | none => exact PySem.P.repr_of_none (fin _ _ _ fun _ _ e => e)
  | bool b =>
    refine PySem.P.repr_of_bool ?_
    cases b <;> exact fin s.heap s.toks (s.toks + 1) fun _ _ e => e
  | int i t => exact PySem.P.repr_of_int (by simpa [PyData.showable] using hs) (fin s.heap s.toks (s.toks + 1) fun _ _ e => e)
  | str y t => exact PySem.P.repr_of_str (fin s.heap s.toks (s.toks + 1) fun _ _ e => e) hz
  | list h1 h2 h3 h4 => exact repr_of_reads' (.list h1 h2 h3 h4) hs (PyData.noDict_hsm nd) hgd (by omega) (fun _ _ e => e) fin hz
  | tuple h1 h2 h3 h4 => exact repr_of_reads' (.tuple h1 h2 h3 h4) hs (PyData.noDict_hsm nd) hgd (by omega) (fun _ _ e => e) fin hz
  | dict h1 h2 h3 h4 h5 => simp [PyData.canLay0] at hc

/-! ### the end: a law whose promise asks that no repr is under way -/
theorem law_callG {P : Program} {w : World} {K : PySem.W.Frag} {mg mb : Str → Option Value} {k : Nat} {fa a : Addr} {fd : FuncData} {x : Str} {sp : Sp} {s₁ : Shared} {vs : List Value} {ns : List Int}
    (KX : K.In s₁.heap) (hns : s₁.heap.Ns mainGlobals mg) (hb : s₁.heap.Ns builtinsNs mb) (hbb : ∀ x : Str, x ≠ "__name__" → mb x = bootBuiltins x) (hlim : s₁.heap.NoLimit) (hg : s₁.gens = #[])
    (ha : s₁.heap.get? a = some { cls := .type "list", data := .seq vs.toArray }) (hi : IntsAre vs ns) (hl : ns.length ≤ sizeLine) (hr : Room k callerA)
    (F : ∀ base : Heap, K.In base → base.Ns mainGlobals mg → FnG P w K mg base CX0 k fa fd [x] sp) (hbind : ∀ (s : Shared) (u : Value), BindsTo s fd ⟨[u], []⟩ [(x, u)])
    (hsp : ∀ H : Hp, SqL K H a (ns.map V.int) → sp [.ref a] H (fun v _ => v = .bl true) fun _ _ _ => False) :
    codeAny (model P w) callerA (.call (.ref fa) ⟨[.ref a], []⟩) (fun r s' => r = .ok (.ret (.bool true)) ∧ OldK s₁.heap s'.heap ∧ s'.os = s₁.os ∧ AllBare s'.gens) s₁ := by
  let oS : Obj := { cls := .type "list", data := .seq vs.toArray }
  -- the script is tracked as it stands, unless it is one of the module's own objects
  let H : Hp := fun b => if b = a ∧ K.lookup a = none then some (.frz oS (.lst (ns.map V.int))) else none
  have rv := vals_ints hi
  have Hsome : ∀ {b : Addr} {o : HO}, H b = some o → b = a ∧ K.lookup a = none ∧ o = .frz oS (.lst (ns.map V.int)) := fun {b o} e => by
    by_cases c : b = a ∧ K.lookup a = none
    · have e' := (if_pos c).symm.trans e
      exact ⟨c.1, c.2, (Option.some.inj e').symm⟩
    · have e' := (if_neg c).symm.trans e
      cases e'
  have free : ∀ {b : Addr}, (∀ z : b = a, K.lookup a ≠ none) → H b = none := fun {b} n => if_neg fun c => n c.1 c.2
  have hS : SqL K H a (ns.map V.int) := by
    cases hk : K.lookup a with
    | none => exact .inl (.inr ⟨oS, if_pos ⟨rfl, hk⟩⟩)
    | some o =>
      have e := (KX a o hk).symm.trans ha
      cases e
      exact .inr ⟨_, vs.toArray, _, hk, rfl, rfl, rfl, by rw [List.size_toArray, hi.length]; exact hl, by simpa using rv⟩
  have hok : HOk P w H s₁.heap := fun b o e => by
    obtain ⟨rfl, _, rfl⟩ := Hsome e
    exact ⟨ha, by rw [List.length_map]; exact hl, vs, _, rv, ha⟩
  have noDict : ∀ {b : Addr} {o : Obj} {es : Array DictEntry} {ep : Nat}, s₁.heap.get? b = some o → o.data = .dict es ep → H b = none := fun {b o es ep} e d => free fun z => by
    subst z
    rw [ha] at e
    cases e
    cases d
  have ns_hid : ∀ {b : Addr} {m : Str → Option Value}, s₁.heap.Ns b m → (hidT s₁.heap H).Ns b m := fun {b m} ⟨o, es, ep, e, d, r⟩ => ⟨o, es, ep, hidT_get e (noDict e d), d, r⟩
  have hKb : K.In (hidT s₁.heap H) := fun b o e => hidT_get (KX b o e) (free fun z => by subst z; rw [e]; exact fun y => nomatch y)
  have hM : Mod K mg (hidT s₁.heap H) := ⟨hKb, ns_hid hns, ⟨mb, ns_hid hb, hbb⟩, let ⟨mc, h1, h2⟩ := hlim; ⟨mc, ns_hid h1, h2⟩⟩
  have e0 : Env0 P w K mg (hidT s₁.heap H) callerA [] s₁ H := ⟨rfl, hM, fun b o e => of_hidT e, Nat.le_of_eq (hidT_size _ _), trivial, (fun b hb => absurd (show b ∈ ([] : List Addr) from hb) (by simp)), hok, .of_eq hg⟩
  refine codeAny_mono ((F _ hKb (ns_hid hns)).run callerA rfl hr [] s₁ H ⟨[.ref a], []⟩ [.ref a] [.ref a] _ _ e0 (hbind s₁ (.ref a)) (.cons rfl .nil) (hsp H hS)) fun r s' h => ?_
  rcases r with e | fl
  · exact False.elim h
  rcases fl with _ | _ | _ | u
  · exact False.elim h
  · exact False.elim h
  · exact False.elim h
  obtain ⟨v, H', os, bare, un, hok', r', q⟩ := h
  have q' : v = .bl true := q
  subst q'
  obtain rfl : u = Value.bool true := r'
  refine ⟨rfl, OldK.of_keep fun b o e => ?_, os, bare⟩
  cases hb' : H b with
  | none => exact un.keep b o e hb' (fun z => absurd (show b ∈ ([] : List Addr) from z) (by simp)) (by simp)
  | some u =>
    obtain ⟨rfl, hk, rfl⟩ := Hsome hb'
    have e2 := (hok' _ _ (un.frzs _ oS _ hb')).1
    rw [ha] at e
    cases e
    exact e2
theorem walk_ofG {l : PySem.W.OpenLaw} {n k : Nat} {q : Program} {loose : List Str} {XP : (Str → Option Value) → Heap → Prop} {YP : World → Heap → Prop} {d : DefRec} {K : Params → PySem.W.Frag} {sp : PySem.W.Frag → Sp} {x : Str}
    (hn : l.most = some n) (hn2 : n ≤ sizeLine) (hdf : d.params.defaults = []) (hr : Room k callerA)
    (hY : ∀ (w : World) (h : Heap), YP w h → (K w.params).In h)
    (F : ∀ (w : World) (mg : Str → Option Value) (fa : Addr) (h : Heap), (K w.params).In h → h.Ns mainGlobals mg → mg d.name = some (.ref fa) →
      ∃ fd : FuncData, (∀ (s : Shared) (u : Value), BindsTo s fd ⟨[u], []⟩ [(x, u)]) ∧
        ∀ base : Heap, (K w.params).In base → base.Ns mainGlobals mg → FnG l.prog w (K w.params) mg base CX0 k fa fd [x] (sp (K w.params)))
    (hsp : ∀ (K : PySem.W.Frag) (H : Hp) (a : Addr) (ns : List Int), ns.length ≤ n → SqL K H a (ns.map V.int) → sp K [.ref a] H (fun v _ => v = .bl true) fun _ _ _ => False) :
    PySem.W.WalkO q loose XP YP l.row.toRowW d [] (fun f vs => PySem.call f vs) :=
  Att.attach_call hn hdf fun w s₀ s₁ mg mb fa o pm cd doc a vs ns G Y ho hd hcd hmg hobj hints hlen hg =>
    have KX := hY w _ Y
    let ⟨fd, hb, hF⟩ := F w mg fa _ KX G.T.g hmg
    law_callG KX G.T.g G.T.b G.T.builtins G.T.nolimit hg hobj hints (Nat.le_trans hlen hn2) hr hF hb fun H hS => hsp _ H a ns hlen hS
end MB

set_option maxHeartbeats 4000000
namespace MB
open PySem PySem.Spec PyProof.Rows L2
/-- data whose repr is asked: levels, size -/
structure Rp (k n : Nat) (d : PyData) : Prop where
  sh : Sh k d
  shw : d.showable = true
  short : d.leavesShort 13 = true
  bulk : d.bulk ≤ n
theorem Rp.mono {k n m : Nat} {d : PyData} (h : Rp k n d) (e : n ≤ m) : Rp k m d := ⟨h.sh, h.shw, h.short, Nat.le_trans h.bulk e⟩
theorem Rp.int {i : Int} {k : Nat} (h : i.natAbs < 1000000) : Rp k 0 (.int i) := by
  refine ⟨.int i, ?_, ?_, by simp [PyData.bulk]⟩
  · simp only [PyData.showable]
    refine decide_eq_true ?_
    by_cases h0 : i.natAbs = 0
    · rw [h0]; decide
    · exact Nat.lt_trans ((Nat.log2_lt h0).mpr (show i.natAbs < 2 ^ 20 by omega)) (by decide)
  · simp only [PyData.leavesShort]
    refine decide_eq_true ?_
    have e := int_text_length_le10 (a := i) (k := 6) (by decide) h
    have e2 : (PyData.shown (.int i)).length = (toString i).length := by
      simp only [PyData.shown]
      exact PySem.ofString_length _
    omega
theorem rp_all {k n : Nat} : ∀ {ds : List PyData}, (∀ d, d ∈ ds → Rp k n d) → PyData.showableAll ds = true ∧ PyData.leavesShortAll 13 ds = true ∧ PyData.bulkAll ds ≤ (n + 1) * ds.length
  | [], _ => ⟨by simp [PyData.showableAll], by simp [PyData.leavesShortAll], by simp [PyData.bulkAll]⟩
  | d :: ds, h => by
    have h1 := h d (List.mem_cons_self ..)
    obtain ⟨a, b, c⟩ := rp_all fun e he => h e (List.mem_cons_of_mem _ he)
    refine ⟨by simp only [PyData.showableAll, h1.shw, a, Bool.and_self], by simp only [PyData.leavesShortAll, h1.short, b, Bool.and_self], ?_⟩
    simp only [PyData.bulkAll, List.length_cons]
    have := h1.bulk
    rw [Nat.mul_add]
    omega
theorem Rp.tup {k n m : Nat} {ds : List PyData} (h : ∀ d, d ∈ ds → Rp k n d) (hm : (n + 1) * ds.length ≤ m) : Rp (k + 1) m (.tuple ds) := by
  obtain ⟨a, b, c⟩ := rp_all h
  exact ⟨Sh.tup fun d hd => (h d hd).sh, by simp only [PyData.showable]; exact a, by simp only [PyData.leavesShort]; exact b, by simp only [PyData.bulk]; omega⟩
theorem Rp.lst {k n m : Nat} {ds : List PyData} (h : ∀ d, d ∈ ds → Rp k n d) (hm : (n + 1) * ds.length ≤ m) : Rp (k + 1) m (.list ds) := by
  obtain ⟨a, b, c⟩ := rp_all h
  exact ⟨Sh.lst fun d hd => (h d hd).sh, by simp only [PyData.showable]; exact a, by simp only [PyData.leavesShort]; exact b, by simp only [PyData.bulk]; omega⟩
theorem Rp.ints {ns : List Int} {k m : Nat} (h : ∀ i, i ∈ ns → i.natAbs < 1000000) (hm : ns.length ≤ m) : Rp (k + 1) m (.tuple (ns.map PyData.int)) :=
  Rp.tup (n := 0) (fun d hd => by obtain ⟨i, hi, rfl⟩ := List.mem_map.mp hd; exact .int (h i hi)) (by rw [List.length_map]; omega)
theorem Rp.bool {b : Bool} {k : Nat} : Rp k 0 (.bool b) := ⟨⟨by simp [PyData.canLay0], by simp [PyData.depth]⟩, by simp [PyData.showable], by simp [PyData.leavesShort], by simp [PyData.bulk]⟩
/-- repr(x), by data -/
theorem repr_read {K : PySem.W.Frag} {H : Hp} {x : V} {d : PyData} {Q : VK} {k n : Nat} (hd : Dp K H x d) (hs : Rp k n d) (hk : k ≤ 60) (hn : n ≤ 1048576) (q : Q (.str d.shown) H) : rReprD K [x] H Q :=
  ⟨x, d, rfl, hd, hs.sh.1, hs.shw, Nat.le_trans hs.sh.2 hk, PyData.shown_fits_bulk (B := 13) (by decide) (by decide) hs.short (Nat.le_trans hs.bulk (by omega)), q⟩
theorem Rp.all {k n : Nat} {d : PyData} (hs : Rp k n d) (hk : k ≤ 60) (hn : n ≤ 1048576) : d.canLay0 = true ∧ d.showable = true ∧ d.depth ≤ 60 ∧ d.shown.length ≤ sizeLine :=
  ⟨hs.sh.1, hs.shw, Nat.le_trans hs.sh.2 hk, PyData.shown_fits_bulk (B := 13) (by decide) (by decide) hs.short (Nat.le_trans hs.bulk (by omega))⟩
end MB

set_option maxHeartbeats 4000000
namespace MB
open PySem PySem.Spec PyProof.Rows L2
/-- data whose repr is asked: levels, size -/
structure RpW (k n : Nat) (d : PyData) : Prop where
  sh : Sh k d
  shw : d.showable = true
  short : d.leavesShort  75 = true
  bulk : d.bulk ≤ n
theorem RpW.mono {k n m : Nat} {d : PyData} (h : RpW k n d) (e : n ≤ m) : RpW k m d := ⟨h.sh, h.shw, h.short, Nat.le_trans h.bulk e⟩
theorem RpW.int {i : Int} {k : Nat} (h : i.natAbs < 10 ^ 70) : RpW k 0 (.int i) := by
  refine ⟨.int i, ?_, ?_, by simp [PyData.bulk]⟩
  · simp only [PyData.showable]
    refine decide_eq_true ?_
    by_cases h0 : i.natAbs = 0
    · rw [h0]; decide
    · exact Nat.lt_trans ((Nat.log2_lt h0).mpr (show i.natAbs < 2 ^ 240 by exact Nat.lt_trans h (by decide +kernel))) (by decide)
  · simp only [PyData.leavesShort]
    refine decide_eq_true ?_
    have e := int_text_length_le10 (a := i) (k := 70) (by decide) h
    have e2 : (PyData.shown (.int i)).length = (toString i).length := by
      simp only [PyData.shown]
      exact PySem.ofString_length _
    omega
theorem rpW_all {k n : Nat} : ∀ {ds : List PyData}, (∀ d, d ∈ ds → RpW k n d) → PyData.showableAll ds = true ∧ PyData.leavesShortAll  75 ds = true ∧ PyData.bulkAll ds ≤ (n + 1) * ds.length
  | [], _ => ⟨by simp [PyData.showableAll], by simp [PyData.leavesShortAll], by simp [PyData.bulkAll]⟩
  | d :: ds, h => by
    have h1 := h d (List.mem_cons_self ..)
    obtain ⟨a, b, c⟩ := rpW_all fun e he => h e (List.mem_cons_of_mem _ he)
    refine ⟨by simp only [PyData.showableAll, h1.shw, a, Bool.and_self], by simp only [PyData.leavesShortAll, h1.short, b, Bool.and_self], ?_⟩
    simp only [PyData.bulkAll, List.length_cons]
    have := h1.bulk
    rw [Nat.mul_add]
    omega
theorem RpW.tup {k n m : Nat} {ds : List PyData} (h : ∀ d, d ∈ ds → RpW k n d) (hm : (n + 1) * ds.length ≤ m) : RpW (k + 1) m (.tuple ds) := by
  obtain ⟨a, b, c⟩ := rpW_all h
  exact ⟨Sh.tup fun d hd => (h d hd).sh, by simp only [PyData.showable]; exact a, by simp only [PyData.leavesShort]; exact b, by simp only [PyData.bulk]; omega⟩
theorem RpW.lst {k n m : Nat} {ds : List PyData} (h : ∀ d, d ∈ ds → RpW k n d) (hm : (n + 1) * ds.length ≤ m) : RpW (k + 1) m (.list ds) := by
  obtain ⟨a, b, c⟩ := rpW_all h
  exact ⟨Sh.lst fun d hd => (h d hd).sh, by simp only [PyData.showable]; exact a, by simp only [PyData.leavesShort]; exact b, by simp only [PyData.bulk]; omega⟩
theorem RpW.ints {ns : List Int} {k m : Nat} (h : ∀ i, i ∈ ns → i.natAbs < 10 ^ 70) (hm : ns.length ≤ m) : RpW (k + 1) m (.tuple (ns.map PyData.int)) :=
  RpW.tup (n := 0) (fun d hd => by obtain ⟨i, hi, rfl⟩ := List.mem_map.mp hd; exact .int (h i hi)) (by rw [List.length_map]; omega)
theorem RpW.bool {b : Bool} {k : Nat} : RpW k 0 (.bool b) := ⟨⟨by simp [PyData.canLay0], by simp [PyData.depth]⟩, by simp [PyData.showable], by simp [PyData.leavesShort], by simp [PyData.bulk]⟩
theorem fits75 {d : PyData} (hl : d.leavesShort 75 = true) (hw : d.bulk ≤ 100000) : d.shown.length ≤ sizeLine := by
  have h := PyData.shown_le_bulk 75 (by decide) d hl
  have h2 : (75 + 2) * d.bulk ≤ 77 * 100000 := Nat.mul_le_mul (by omega) (by omega)
  have e : sizeLine = 16777216 := by decide
  omega
/-- repr(x), by data -/
theorem reprW_read {K : PySem.W.Frag} {H : Hp} {x : V} {d : PyData} {Q : VK} {k n : Nat} (hd : Dp K H x d) (hs : RpW k n d) (hk : k ≤ 60) (hn : n ≤ 100000) (q : Q (.str d.shown) H) : rReprD K [x] H Q :=
  ⟨x, d, rfl, hd, hs.sh.1, hs.shw, Nat.le_trans hs.sh.2 hk, fits75 hs.short (Nat.le_trans hs.bulk hn), q⟩
theorem RpW.all {k n : Nat} {d : PyData} (hs : RpW k n d) (hk : k ≤ 60) (hn : n ≤ 100000) : d.canLay0 = true ∧ d.showable = true ∧ d.depth ≤ 60 ∧ d.shown.length ≤ sizeLine :=
  ⟨hs.sh.1, hs.shw, Nat.le_trans hs.sh.2 hk, fits75 hs.short (Nat.le_trans hs.bulk hn)⟩
end MB

set_option maxHeartbeats 4000000
namespace MB
open PySem PySem.Spec PyProof.Rows L2
/-! ### data of any kind, dicts among them -/
def kD : Key → PyData
  | .inl i => .int i
  | .inr x => .str x
mutual
inductive Dq (K : PySem.W.Frag) (H : Hp) : V → PyData → Prop
  | nonq : Dq K H .non .none
  | blq (b : Bool) : Dq K H (.bl b) (.bool b)
  | intq (i : Int) : Dq K H (.int i) (.int i)
  | strq (x : Str) : Dq K H (.str x) (.str x)
  | lstq {a : Addr} {xs : List V} {ds : List PyData} : SqL K H a xs → a ≠ sysModules → DqAll K H xs ds → Dq K H (.ref a) (.list ds)
  | tupq {a : Addr} {xs : List V} {ds : List PyData} : SqT K H a xs → DqAll K H xs ds → Dq K H (.ref a) (.tuple ds)
  | dctq {a : Addr} {kvs : List (Key × V)} {des : List (PyData × PyData)} : H a = some (.dK kvs) → des.map (·.1) = kvs.map (fun p => kD p.1) → DqAll K H (kvs.map (·.2)) (des.map (·.2)) → Dq K H (.ref a) (.dict des)
inductive DqAll (K : PySem.W.Frag) (H : Hp) : List V → List PyData → Prop
  | nil : DqAll K H [] []
  | cons {v : V} {vs : List V} {d : PyData} {ds : List PyData} : Dq K H v d → DqAll K H vs ds → DqAll K H (v :: vs) (d :: ds)
end
section
variable {X : Cx} {pins : List (Addr × Obj)} {σ : L2.St} {H : Hp} {s : Shared}
theorem keys_read {h : Heap} {P : Program} {w : World} {es : List DictEntry} {vs : List (Key × Value)} (hp : Pairs (mixKind P w) es vs) : ∀ {kvs : List (Key × V)}, KV kvs vs →
    ReadsAll h (es.map (·.key)) (kvs.map fun p => kD p.1) [] ∧ Vals (kvs.map (·.2)) (es.map (·.val)) := by
  induction hp with
  | nil => intro kvs r; cases r; exact ⟨.nil, .nil⟩
  | @cons e kv es vs a b c ih =>
    intro kvs r
    cases r with
    | @cons p _ ps _ r t =>
      obtain ⟨h1, h2⟩ := ih t
      obtain ⟨r1, r2⟩ := r
      have r3 : RelV p.2 e.val := by rw [b]; exact r2
      refine ⟨?_, .cons r3 h2⟩
      have e1 : keyIs kv.1 e.key = true := a
      rw [List.map_cons, List.map_cons, r1]
      rcases keyIs_shape e1 with ⟨i, t, h3, h4⟩ | ⟨x, t, h3, h4⟩
      · rw [h3, h4]; exact ReadsAll.cons (as := []) (bs := []) (.int i t) h1
      · rw [h3, h4]; exact ReadsAll.cons (as := []) (bs := []) (.str x t) h1
theorem Dq.reads (I : Inv X pins σ H s) {d : PyData} {v : V} (hq : Dq X.K H v d) : ∀ u : Value, RelV v u → ∃ as, Reads s.heap u d as ∧ sysModules ∉ as := by
  refine Dq.rec (motive_1 := fun v d _ => ∀ u : Value, RelV v u → ∃ as, Reads s.heap u d as ∧ sysModules ∉ as) (motive_2 := fun vs ds _ => ∀ us : List Value, Vals vs us → ∃ as, ReadsAll s.heap us ds as ∧ sysModules ∉ as) ?_ ?_ ?_ ?_ ?_ ?_ ?_ ?_ ?_ hq
  · intro u r; cases r; exact ⟨_, .none, by simp⟩
  · intro b u r; cases r; exact ⟨_, .bool b, by simp⟩
  · intro i u r; obtain ⟨t, rfl⟩ := r; exact ⟨_, .int i t, by simp⟩
  · intro x u r; obtain ⟨t, rfl⟩ := r; exact ⟨_, .str x t, by simp⟩
  · intro a xs ds hs hne _ ih u r
    cases r
    obtain ⟨its, rv, ⟨o, n, h1, h2, h3, h4⟩, _⟩ := I.list hs
    obtain ⟨as, ra, na⟩ := ih _ rv
    refine ⟨_, .list h1 h2 h4 (by simpa using ra), ?_⟩
    intro hm
    rcases List.mem_cons.mp hm with e | e
    · exact hne e.symm
    · exact na e
  · intro a xs ds hs _ ih u r
    cases r
    obtain ⟨its, rv, ⟨o, h1, h2, n, h3⟩, _⟩ := I.tuple hs
    obtain ⟨as, ra, na⟩ := ih _ rv
    exact ⟨_, .tuple h1 h2 h3 (by simpa using ra), na⟩
  · intro a kvs des he hk _ ih u r
    cases r
    obtain ⟨_, hsys, vs, kv, o, es, ep, h1, h2, h3, _, h5, _⟩ := dk_of I.hok he
    obtain ⟨g1, g2⟩ := keys_read (h := s.heap) h5 kv
    obtain ⟨bs, rb, nb⟩ := ih _ g2
    refine ⟨_, .dict h1 h2.1 h3 (by rw [hk]; exact g1) rb, ?_⟩
    intro hm
    rcases List.mem_cons.mp hm with e | e
    · rw [← e] at hsys; simp at hsys
    · exact nb (by simpa using e)
  · intro us t; cases t; exact ⟨_, .nil, by simp⟩
  · intro v vs d ds _ _ h1 h2 us t
    cases t with
    | cons r t =>
      obtain ⟨as, g1, n1⟩ := h1 _ r
      obtain ⟨bs, g2, n2⟩ := h2 _ t
      exact ⟨_, .cons g1 g2, by simp [n1, n2]⟩
end
theorem Dq.same {K : PySem.W.Frag} {H H' : Hp} (e : Same H H') {v : V} {d : PyData} (h : Dq K H v d) : Dq K H' v d := by
  refine Dq.rec (motive_1 := fun v d _ => Dq K H' v d) (motive_2 := fun vs ds _ => DqAll K H' vs ds) ?_ ?_ ?_ ?_ ?_ ?_ ?_ ?_ ?_ h
  · exact .nonq
  · intro b; exact .blq b
  · intro i; exact .intq i
  · intro x; exact .strq x
  · intro a xs ds hs hne _ ih; exact .lstq (e.seq hs) hne ih
  · intro a xs ds hs _ ih; exact .tupq (Same.tup e hs) ih
  · intro a kvs des he hk _ ih; exact .dctq (e _ _ he) hk ih
  · exact .nil
  · intro v vs d ds _ _ h1 h2; exact .cons h1 h2
theorem DqAll.same {K : PySem.W.Frag} {H H' : Hp} (e : Same H H') : ∀ {vs : List V} {ds : List PyData}, DqAll K H vs ds → DqAll K H' vs ds
  | _, _, .nil => .nil
  | _, _, .cons a b => .cons (Dq.same e a) (DqAll.same e b)
/-! ### repr -/
def rReprQ (K : PySem.W.Frag) : List V → Hp → VK → Prop := fun xs H Q => ∃ (x : V) (d : PyData), xs = [x] ∧ Dq K H x d ∧ d.showable = true ∧ d.depth ≤ 60 ∧ d.shown.length ≤ sizeLine ∧ Q (.str d.shown) H
theorem call_reprQ {X : Cx} (hgd : X.A.guards = some []) (hu : X.A.units + 64 < cLine) : CallR X (.builtin "repr") (rReprQ X.K) := by
  intro pins s σ H xs us Q I r h
  obtain ⟨x, d, rfl, hd, hs, hdep, hz, q⟩ := h
  obtain ⟨u, rfl, rx⟩ := vals1 r
  obtain ⟨as, rd, nsys⟩ := Dq.reads I hd u rx
  have fin : ∀ (h' : Heap) (v tk : Tok), (∀ b o, s.heap.get? b = some o → h'.get? b = some o) → EP X pins σ Q (.str d.shown v) { s with heap := h', toks := tk } := fun h' v tk hk => ⟨.str d.shown, H, I.kept hk, ⟨_, rfl⟩, q⟩
  cases rd with
  | none => exact PySem.P.repr_of_none (fin _ _ _ fun _ _ e => e)
  | bool b =>
    refine PySem.P.repr_of_bool ?_
    cases b <;> exact fin s.heap s.toks (s.toks + 1) fun _ _ e => e
  | int i t => exact PySem.P.repr_of_int (by simpa [PyData.showable] using hs) (fin s.heap s.toks (s.toks + 1) fun _ _ e => e)
  | str y t => exact PySem.P.repr_of_str (fin s.heap s.toks (s.toks + 1) fun _ _ e => e) hz
  | list h1 h2 h3 h4 => exact repr_of_reads' (.list h1 h2 h3 h4) hs (fun _ => nsys) hgd (by omega) (fun _ _ e => e) fin hz
  | tuple h1 h2 h3 h4 => exact repr_of_reads' (.tuple h1 h2 h3 h4) hs (fun _ => nsys) hgd (by omega) (fun _ _ e => e) fin hz
  | dict h1 h2 h3 h4 h5 => exact repr_of_reads' (.dict h1 h2 h3 h4 h5) hs (fun _ => nsys) hgd (by omega) (fun _ _ e => e) fin hz
theorem k_reprQ {X : Cx} {K : PySem.W.Frag} (e : X.K = K) (hgd : X.A.guards = some []) (hu : X.A.units + 64 < cLine) : CallR X (.builtin "repr") (rReprQ K) := by
  rw [← e]; exact call_reprQ hgd hu
end MB

set_option maxHeartbeats 4000000
namespace MB
open PySem PySem.Spec PyProof.Rows L2

/-! ### f(p = v), no value by position -/
def gK {α : Type} (us ws : List α) : List α := match us with
  | [] => ws
  | _ :: _ => []
section
variable {X : Cx} {CX : CXT} {k : Nat} {f : Addr} {fd : FuncData} {ps ks : List Str} {sp : Sp} {E : XK} {x : Str} {p pos : Pos} {kws : List Keyword} {tk : TA} {g : List Value → List Value → List Value} {gV : List V → List V → List V}
theorem pe_callK0 (F : FnOk X.prog X.w X.K X.mg X.base CX k f fd ps sp) (hr : Room k X.A) (hg : Gl X x) (hm : X.mg x = some (.ref f)) (hk : PySem.W.keepIn X.K (.ref f) = true) (hb : KBinds X.K fd ps ks g gV) (hx : Passes CX X E)
    (hkw : PK X kws tk) (hall : (backToKw pos (keywordEach kws X.env)).all (·.1.isSome) = true := by rfl) (hks : (backToKw pos (keywordEach kws X.env)).filterMap (·.1) = ks := by rfl)
    (hdb : (x == ("__debug__" : Str)) = false := by decide)
    (hpl : ((backTo pos (starEach [] X.env)).any (·.1) || (backToKw pos (keywordEach kws X.env)).any (·.1.isNone)) = false := by rfl) :
    PE X (.Call (.Name x p) [] kws pos) (tCallK sp gV E tNil tk) := by
  refine ⟨fun pins s σ H Q I h => ?_⟩
  refine wpAny_Call_Name_kw (ld_glob I hg hm ?_ hdb)
  refine PySem.W.callWith_KW0 (h₀ := X.base) I.ok.mod.kin hk hall ?_ hpl
  refine thn (hkw.run pos pins s σ H _ I h) fun ws s2 ⟨zs, H2, I2, rz, q2⟩ => ⟨I2.kIn, ?_⟩
  rw [hks]
  exact run_fnk (us := []) (vs := []) F hr hb hx I2 .nil rz q2
end
theorem kb1 {K : PySem.W.Frag} {x qual : Str} {st : Stmt} {f : Addr} {fd : FuncData} {q : Str} (F : L2.Fun K x qual st f fd)
    (h : ∀ (kV doc pm : Value) (an : Option Addr) (cdv ct u : Value), bindArgs (PySem.W.fnOf x qual (defArgs st) (defBody st) (defScope st) .none kV doc pm an cdv ct) ⟨[], [(q, u)]⟩ = pure [(q, u)]) : KBinds K fd [q] [q] gK gK := by
  obtain ⟨oc, od, kV, doc, pm, an, cdv, ct, osl, rfl, lk, hcd⟩ := F.ex
  refine ⟨fun s us ws _ hl => ?_, fun {vs us zs ws} r1 r2 => ?_⟩
  · cases us with
    | cons u us => exact nomatch hl
    | nil =>
      match ws, hl with
      | [u], _ => exact .of_eq (h kV doc pm an cdv ct u)
  · cases r1 with
    | nil => exact r2
    | cons _ _ => exact .nil

/-! ### a comprehension with a test -/
theorem lc_sel {K : PySem.W.Frag} {J : It} {n : Nat} {G : Hp → Prop} {Y : Nat → Hp → V → Hp → Prop} (w : Walk J n G Y) {g : TG} {tt : TT} {te : TE} {vs : List Nat} {σ : L2.St} {H1 : Hp} {D : Addr} {Qd : Hp → Prop}
    (f : Nat → Bool) (d : Nat → PyData) (ht : ∀ i, i < n → Tf (d i)) (hn : n ≤ 1000) (hD : H1 D = none) (hG : ∀ H, Same H1 H → G H)
    (hs : ∀ i x H H', i < n → Same H1 H → Y i H x H' → ∀ R : V → Hp → Prop, (∀ y H4, Same H H4 → Dp K H4 y (d i) → R y H4) →
      g x (wipe σ vs) H' fun σ2 H2 => wipe σ2 vs = wipe σ vs ∧ tt σ2 H2 fun b H3 => b = f i ∧ Same H H3 ∧ (b = true → te σ2 H3 R))
    (hd : ∀ H acc, Same H1 H → H D = some (.lst acc) → DpAll K H acc (((List.range n).filter f).map d) → Qd H)
    (mg : ∀ x σ' H' (Q Q' : L2.St → Hp → Prop), (∀ a b, Q a b → Q' a b) → g x σ' H' Q → g x σ' H' Q') (mt : ∀ σ' H' (Q Q' : Bool → Hp → Prop), (∀ a b, Q a b → Q' a b) → tt σ' H' Q → tt σ' H' Q') :
    ∃ W : Nat → Nat → Hp → Prop, (∃ m, W 0 m (upd H1 D (.lst []))) ∧ ∀ i m H, W i m H →
      (J.stop i H ∧ Qd H) ∨ (J.go i H ∧ ∃ Nx : Hp → Prop, (∀ H', Nx H' → ∃ m', m' < m ∧ W (i + 1) m' H') ∧ ∀ x H', J.yld i H x H' → g x (wipe σ vs) H' fun σ2 H2 => wipe σ2 vs = wipe σ vs ∧ tt σ2 H2 fun b H3 =>
        if b = true then te σ2 H3 fun y H4 => ∃ acc, H4 D = some (.lst acc) ∧ acc.length < sizeLine ∧ Nx (upd H4 D (.lst (acc ++ [y]))) else Nx H3) := by
  refine lc_it w (fun i H => Same H1 H ∧ ∃ acc, H D = some (.lst acc) ∧ DpAll K H acc (((List.range i).filter f).map d)) ⟨same_upd hD, [], upd_same, .nil⟩ (fun i H _ h => hG H h.1) ?_ ?_
  · rintro i x H H' hi ⟨s1, acc, ha, hA⟩ hy
    have hlen := DpAll.len hA
    have hle : acc.length ≤ i := by
      rw [hlen, List.length_map]
      have := List.length_filter_le f (List.range i)
      rw [List.length_range] at this
      exact this
    refine mg _ _ _ _ _ ?_ (hs i x H H' hi s1 hy (fun y H4 => ∃ acc, H4 D = some (.lst acc) ∧ acc.length < sizeLine ∧ (f i = true → Same H1 (upd H4 D (.lst (acc ++ [y]))) ∧ ∃ acc', (upd H4 D (.lst (acc ++ [y]))) D = some (.lst acc') ∧ DpAll K (upd H4 D (.lst (acc ++ [y]))) acc' (((List.range (i + 1)).filter f).map d))) ?_)
    · rintro σ2 H2 ⟨h1, h2⟩
      refine ⟨h1, mt _ _ _ _ ?_ h2⟩
      rintro b H3 ⟨hb, s3, h3⟩
      cases b with
      | true =>
        refine iteT ?_
        have h4 := h3 rfl
        have hb' := hb.symm
        simp only [hb', true_implies] at h4
        exact h4
      | false =>
        refine iteF ⟨s1.trans s3, acc, s3 _ _ ha, ?_⟩
        rw [List.range_succ, List.filter_append, List.map_append]
        have e : List.filter f [i] = [] := by rw [List.filter_cons, if_neg (by rw [← hb]; decide)]; rfl
        rw [e, List.map_nil, List.append_nil]
        exact DpAll.same s3 hA
    · intro y H4 s4 hy4
      refine ⟨acc, s4 _ _ ha, sz61 (by omega), fun hf => ⟨Same.mut (s1.trans s4) hD, acc ++ [y], upd_same, ?_⟩⟩
      have kp : Keep K H4 (upd H4 D (.lst (acc ++ [y]))) := But.keep But.upd (s4 _ _ ha)
      have e : List.filter f [i] = [i] := by rw [List.filter_cons, if_pos hf]; rfl
      rw [List.range_succ, List.filter_append, List.map_append, e]
      refine DpAll.keep kp (fun d' h => ?_) (DpAll.append (DpAll.same s4 hA) (.cons hy4 .nil))
      rcases List.mem_append.mp h with h | h
      · obtain ⟨j, hj, rfl⟩ := List.mem_map.mp h
        have := List.mem_range.mp (List.mem_filter.mp hj).1
        exact ht j (by omega)
      · have e : d' = d i := by simpa using h
        rw [e]; exact ht i hi
  · rintro H ⟨s1, acc, ha, hA⟩
    exact hd H acc s1 ha hA
end MB

set_option maxHeartbeats 4000000
namespace MB
open PySem PySem.Spec PyProof.Rows L2
/-! ### x *= e -/
theorem ip_mulW {X : Cx} : PIp X .Mult (fun x y H Q => ∃ i j, x = .int i ∧ y = .int j ∧ CMulW i j ∧ Q (.int (i * j)) H) := by
  intro pins s σ H x y v u Q I r1 r2 h
  obtain ⟨i, j, e1, e2, hc, q⟩ := h
  subst e1; subst e2
  obtain ⟨t, rfl⟩ := r1
  obtain ⟨t', rfl⟩ := r2
  exact imul_int ⟨.int _, H, I.tok _, ⟨_, rfl⟩, q⟩ hc.ok
/-! ### f(q = v, p = w): by keywords in any order -/
def gP {α : Type} (idx : List Nat) (us ws : List α) : List α := match us with
  | [] => idx.filterMap fun i => ws[i]?
  | _ :: _ => []
theorem gP_take {α : Type} {n : Nat} {ws : List α} : ∀ {idx : List Nat}, (∀ i, i ∈ idx → i < n) → (idx.filterMap fun i => (ws.take n)[i]?) = idx.filterMap fun i => ws[i]?
  | [], _ => rfl
  | i :: idx, h => by
    have h1 := h i (List.mem_cons_self ..)
    have h2 := gP_take (α := α) (n := n) (ws := ws) (idx := idx) fun j hj => h j (List.mem_cons_of_mem _ hj)
    rw [List.filterMap_cons, List.filterMap_cons, h2, List.getElem?_take, if_pos h1]
theorem gP_len {α : Type} {ws : List α} : ∀ {idx : List Nat}, (idx.filterMap fun i => ws[i]?).length = idx.length → ∀ i, i ∈ idx → i < ws.length
  | [], _, i, h => nomatch h
  | j :: idx, hl, i, h => by
    cases e : ws[j]? with
    | none =>
      simp only [List.filterMap_cons, e] at hl
      have := List.length_filterMap_le (fun i => ws[i]?) idx
      simp only [List.length_cons] at hl
      omega
    | some x =>
      simp only [List.filterMap_cons, e, List.length_cons, Nat.add_right_cancel_iff] at hl
      rcases List.mem_cons.mp h with h | h
      · subst h
        exact (List.getElem?_eq_some_iff.mp e).1
      · exact gP_len hl i h
theorem gP_rel {zs : List V} {ws : List Value} (r : Vals zs ws) : ∀ idx : List Nat, Vals (idx.filterMap fun i => zs[i]?) (idx.filterMap fun i => ws[i]?)
  | [] => .nil
  | i :: idx => by
    have ih := gP_rel r idx
    cases e : zs[i]? with
    | none =>
      have e2 : ws[i]? = none := List.getElem?_eq_none (by rw [← r.length]; exact List.getElem?_eq_none_iff.mp e)
      simp only [List.filterMap_cons, e, e2]; exact ih
    | some x =>
      obtain ⟨u, e2, ru⟩ := r.get e
      simp only [List.filterMap_cons, e, e2]; exact .cons ru ih
theorem zip_take {α β : Type} : ∀ (ks : List α) (ws : List β), ks.zip (ws.take ks.length) = ks.zip ws
  | [], _ => rfl
  | _ :: _, [] => rfl
  | k :: ks, w :: ws => by simp [zip_take ks ws]
theorem kbP {K : PySem.W.Frag} {x qual : Str} {st : Stmt} {f : Addr} {fd : FuncData} {ps ks : List Str} {idx : List Nat} (F : L2.Fun K x qual st f fd) (hi : idx.length = ps.length) (hk : ks.length = ps.length) (hp : 0 < ps.length)
    (hall : (∀ i, i ∈ idx → i < ps.length) ∧ ps.length - 1 ∈ idx)
    (h : ∀ (kV doc pm : Value) (an : Option Addr) (cdv ct : Value) (ws : List Value), ws.length = ps.length → bindArgs (PySem.W.fnOf x qual (defArgs st) (defBody st) (defScope st) .none kV doc pm an cdv ct) ⟨[], ks.zip ws⟩ = pure (ps.zip (gP idx [] ws))) : KBinds K fd ps ks (gP idx) (gP idx) := by
  obtain ⟨oc, od, kV, doc, pm, an, cdv, ct, osl, rfl, lk, hcd⟩ := F.ex
  refine ⟨fun s us ws _ hl => ?_, fun {vs us zs ws} r1 r2 => ?_⟩
  · cases us with
    | cons u us =>
      have : 0 = ps.length := hl
      omega
    | nil =>
      have hl' : (idx.filterMap fun i => ws[i]?).length = idx.length := by rw [hi]; exact hl
      have h2 := gP_len hl' _ hall.2
      have h3 := h kV doc pm an cdv ct (ws.take ps.length) (by rw [List.length_take]; omega)
      have e1 : gP idx [] (ws.take ps.length) = gP idx [] ws := gP_take hall.1
      have e2 : ks.zip (ws.take ps.length) = ks.zip ws := by
        rw [← hk]
        exact zip_take ks ws
      rw [e1, e2] at h3
      exact .of_eq h3
  · cases r1 with
    | nil => exact gP_rel r2 idx
    | cons _ _ => exact .nil
section
variable {X : Cx} {CX : CXT} {k : Nat} {f : Addr} {fd : FuncData} {ps ks : List Str} {sp : Sp} {E : XK} {x : Str} {p pos : Pos} {kws : List Keyword} {tk : TA} {g : List Value → List Value → List Value} {gV : List V → List V → List V}
end
end MB

set_option maxHeartbeats 4000000
namespace MB
open PySem PySem.Spec PyProof.Rows L2
/-! ### f(u, q = v, ..): one argument by place, the others by name in their order -/
def gQ {α : Type} (m : Nat) (us ws : List α) : List α := match us with
  | [u] => u :: ws.take m
  | _ => []
theorem kbQ {K : PySem.W.Frag} {x qual : Str} {st : Stmt} {f : Addr} {fd : FuncData} {p0 : Str} {ks : List Str} (F : L2.Fun K x qual st f fd)
    (h : ∀ (kV doc pm : Value) (an : Option Addr) (cdv ct u : Value) (ws : List Value), ws.length = ks.length → bindArgs (PySem.W.fnOf x qual (defArgs st) (defBody st) (defScope st) .none kV doc pm an cdv ct) ⟨[u], ks.zip ws⟩ = pure ((p0 :: ks).zip (u :: ws))) : KBinds K fd (p0 :: ks) ks (gQ ks.length) (gQ ks.length) := by
  obtain ⟨oc, od, kV, doc, pm, an, cdv, ct, osl, rfl, lk, hcd⟩ := F.ex
  refine ⟨fun s us ws _ hl => ?_, fun {vs us zs ws} r1 r2 => ?_⟩
  · match us, hl with
    | [u], hl =>
      have hl' : (ws.take ks.length).length = ks.length := by
        have : (u :: ws.take ks.length).length = ks.length + 1 := hl
        simpa using this
      have h3 := h kV doc pm an cdv ct u (ws.take ks.length) hl'
      rw [zip_take ks ws] at h3
      exact .of_eq h3
  · cases r1 with
    | nil => exact .nil
    | cons r1 r =>
      cases r with
      | nil => exact .cons r1 (r2.take _)
      | cons _ _ => exact .nil
/-- a dividend below 2 ^ 4000 is divided by C -/
theorem divp_nat {i j : Nat} (hj : 0 < j) (h : i < 2 ^ 4000) : CDivP (i : Int) (j : Int) := by
  refine divp_ok (by omega) ?_
  have : Builtin.Int.intBits (i : Int) ≤ 4000 := by
    unfold Builtin.Int.intBits
    split
    · omega
    · rename_i z
      have hi : i ≠ 0 := fun e => z (by simp [e])
      rw [Int.natAbs_natCast]
      have := (Nat.log2_lt hi).mpr h
      omega
  omega
end MB

set_option maxHeartbeats 4000000
namespace MB
open PySem PySem.Spec PyProof.Rows L2
def clsDef (s : Stmt) : Stmt := match s with
  | .ClassDef _ _ _ b _ _ _ _ _ _ _ => b.getD 0 (.Pass ⟨0, 0, 0, 0⟩)
  | t => t
/-! ### own exceptions as values -/
/-- at a: a caught exception, of the class cls, its dict at d -/
def KeO (a : Addr) (cls : Value) (d : Option Addr) : HO := .ext fun h => ∃ oe vs, h.get? a = some oe ∧ oe.cls = cls ∧ oe.dict = d ∧ oe.data = .fields vs
theorem keO_ok {P : Program} {w : World} {H : Hp} {h : Heap} {a : Addr} {cls : Value} {d : Option Addr} {oe : Obj} {vs : Array Value} (e : h.get? a = some oe) (hc : oe.cls = cls) (hd : oe.dict = d) (hf : oe.data = .fields vs) : ObjOk P w H h a (KeO a cls d) :=
  ⟨⟨oe, vs, e, hc, hd, hf⟩, ⟨oe, e⟩, fun h1 h2 ⟨o1, v1, q1, q2⟩ k => ⟨o1, v1, k _ q1, q2⟩⟩
/-- at a: an own exception of the class at C; with a dict that holds fs, or with none -/
inductive XAt (H : Hp) (a C : Addr) : Option (List (Str × V)) → Prop
  | full {d : Addr} {fs : List (Str × V)} : H a = some (exo a C (some d)) → H d = some (exd d fs) → XAt H a C (some fs)
  | bare : H a = some (ExO (.ref C) a) → XAt H a C none
  | kept {d : Addr} {fs : List (Str × V)} : H a = some (KeO a (.ref C) (some d)) → H d = some (exd d fs) → XAt H a C (some fs)
  | keptd {d : Addr} {fs : List (Str × V)} : H a = some (KeO a (.ref C) (some d)) → H d = some (.xd fs) → XAt H a C (some fs)
theorem XAt.same {H H' : Hp} {a C : Addr} {o : Option (List (Str × V))} (e : Same H H') (h : XAt H a C o) : XAt H' a C o := by
  cases h with
  | full h1 h2 => exact .full (e _ _ h1) (e _ _ h2)
  | bare h1 => exact .bare (e _ _ h1)
  | kept h1 h2 => exact .kept (e _ _ h1) (e _ _ h2)
  | keptd h1 h2 => exact .keptd (e _ _ h1) (e _ _ h2)
theorem keO_at {P : Program} {w : World} {H : Hp} {h : Heap} {a C : Addr} {d : Option Addr} (k : HOk P w H h) (e : H a = some (KeO a (.ref C) d)) : ∃ o vs, h.get? a = some o ∧ o.cls = .ref C ∧ o.dict = d ∧ o.data = .fields vs := by
  obtain ⟨⟨o, vs, q1, q2, q3, q4⟩, _⟩ := k a _ e
  exact ⟨o, vs, q1, q2, q3, q4⟩
section
variable {X : Cx} {pins : List (Addr × Obj)} {σ : L2.St} {H : Hp} {s : Shared}
/-- x.f -/
def tXv (K : PySem.W.Frag) (f : Str) (te : TE) : TE := fun σ H Q => te σ H fun x H1 => ∃ (a C : Addr) (fs : List (Str × V)) (v : V), x = .ref a ∧ XAt H1 a C (some fs) ∧ XfC K C ∧ PySem.W.findIn K (.ref C) f = some none ∧ fs.lookup f = some v ∧ Q v H1
theorem pe_xv {e : Expr} {te : TE} {pos : Pos} {n : Str} (he : PE X e te) (hb : attributeBase e n X.env (eval e X.env) = eval e X.env := by rfl) : PE X (.Attribute e n pos) (tXv X.K n te) := by
  refine ⟨fun pins s σ H Q I h => ?_⟩
  refine attr_of hb (thn (he.run pins s σ H _ I h) fun u s1 hh => ?_)
  obtain ⟨x, H1, I1, rx, a, C, fs, v, ex, hx, T, hno, l, q⟩ := hh
  subst ex
  obtain rfl : u = Value.ref a := rx
  cases hx with
  | @full d _ ea ed =>
    obtain ⟨t1, ho⟩ := exo_at I1.hok ea
    obtain ⟨mA, hns, hr⟩ := exd_at I1.hok ed
    obtain ⟨od, hod, hl⟩ := lookIn_ns hns
    obtain ⟨z, hz, rz⟩ := RelO.some_of (v := v) (o := mA n) (by rw [← l]; exact hr n)
    have J : PySem.W.InstAt s1.heap a _ C (some od) := ⟨ho, rfl, rfl, hod⟩
    exact HandSPX.exc_get I1.kIn J T.ga T.gg T.exC (PySem.W.findObj_own T.hdC hno rfl (by rw [hl, hz])) (handed_of rz) ⟨v, H1, I1.tok _, rz, q⟩
  | @kept d _ ea ed =>
    obtain ⟨o, vs, ho, hcl, hdc, hfd⟩ := keO_at I1.hok ea
    obtain ⟨mA, hns, hr⟩ := exd_at I1.hok ed
    obtain ⟨od, hod, hl⟩ := lookIn_ns hns
    obtain ⟨z, hz, rz⟩ := RelO.some_of (v := v) (o := mA n) (by rw [← l]; exact hr n)
    obtain ⟨oc, odc, oda, osl⟩ := o
    dsimp only at hcl hdc hfd
    subst hcl hdc hfd
    have J : PySem.W.InstAt s1.heap a _ C (some od) := ⟨ho, rfl, rfl, hod⟩
    exact HandSPX.exc_get I1.kIn J T.ga T.gg T.exC (PySem.W.findObj_own T.hdC hno rfl (by rw [hl, hz])) (handed_of rz) ⟨v, H1, I1.tok _, rz, q⟩
  | @keptd d _ ea ed =>
    obtain ⟨o, vs, ho, hcl, hdc, hfd⟩ := keO_at I1.hok ea
    obtain ⟨mA, hns, hr⟩ := (show ObjOk X.prog X.w H1 s1.heap d (.xd _) from I1.hok d _ ed)
    obtain ⟨od, hod, hl⟩ := lookIn_ns hns
    obtain ⟨z, hz, rz⟩ := RelO.some_of (v := v) (o := mA n) (by rw [← l]; exact hr n)
    obtain ⟨oc, odc, oda, osl⟩ := o
    dsimp only at hcl hdc hfd
    subst hcl hdc hfd
    have J : PySem.W.InstAt s1.heap a _ C (some od) := ⟨ho, rfl, rfl, hod⟩
    exact HandSPX.exc_get I1.kIn J T.ga T.gg T.exC (PySem.W.findObj_own T.hdC hno rfl (by rw [hl, hz])) (handed_of rz) ⟨v, H1, I1.tok _, rz, q⟩
/-- isinstance(x, c) -/
def rIsX (K : PySem.W.Frag) : List V → Hp → VK → Prop := fun xs H Q => ∃ (a C : Addr) (o : Option (List (Str × V))) (c : V) (u : Value) (b : Bool), xs = [.ref a, c] ∧ ClsV c u ∧ XAt H a C o ∧ ExcC K C ∧ PySem.W.kitOne K (.ref C) u = some b ∧ Q (.bl b) H
theorem call_isX : CallR X (.builtin "isinstance") (rIsX X.K) := by
  intro pins s σ H xs us Q I r h
  obtain ⟨a, C, o, c, u, b, rfl, k, hx, T, e, q⟩ := h
  obtain ⟨u1, u2, rfl, r1, r2⟩ := vals2 r
  have e2 := k.eq r2
  subst e2
  cases r1
  have hcl : (PySem.W.clsIn X.K C).isSome = true := by
    obtain ⟨cd, hc, _⟩ := PySem.W.any_some T.hd
    rw [hc]; rfl
  have fin : ∀ tk, EP X pins σ Q (.bool b) { s with toks := tk } := fun tk => ⟨.bl b, H, I.tok tk, rfl, q⟩
  cases hx with
  | @full d fs ea ed =>
    obtain ⟨t1, ho⟩ := exo_at I.hok ea
    obtain ⟨mA, hns, hr⟩ := exd_at I.hok ed
    obtain ⟨od, hod, hl⟩ := lookIn_ns hns
    have J : PySem.W.InstAt s.heap a _ C (some od) := ⟨ho, rfl, rfl, hod⟩
    exact PySem.W.kia_one (PySem.W.kitx_exc hcl T.hg T.hk T.hs T.ha T.hn T.ht T.hm) I.kIn J e (fun z => nomatch z) fin
  | @kept d fs ea ed =>
    obtain ⟨o, vs, ho, hc1, hdc, hfd⟩ := keO_at I.hok ea
    obtain ⟨mA, hns, hr⟩ := exd_at I.hok ed
    obtain ⟨od, hod, hl⟩ := lookIn_ns hns
    obtain ⟨oc, odc, oda, osl⟩ := o
    dsimp only at hc1 hdc hfd
    subst hc1 hdc hfd
    have J : PySem.W.InstAt s.heap a _ C (some od) := ⟨ho, rfl, rfl, hod⟩
    exact PySem.W.kia_one (PySem.W.kitx_exc hcl T.hg T.hk T.hs T.ha T.hn T.ht T.hm) I.kIn J e (fun z => nomatch z) fin
  | @keptd d fs ea ed =>
    obtain ⟨o, vs, ho, hc1, hdc, hfd⟩ := keO_at I.hok ea
    obtain ⟨mA, hns, hr⟩ := (show ObjOk X.prog X.w H s.heap d (.xd fs) from I.hok d _ ed)
    obtain ⟨od, hod, hl⟩ := lookIn_ns hns
    obtain ⟨oc, odc, oda, osl⟩ := o
    dsimp only at hc1 hdc hfd
    subst hc1 hdc hfd
    have J : PySem.W.InstAt s.heap a _ C (some od) := ⟨ho, rfl, rfl, hod⟩
    exact PySem.W.kia_one (PySem.W.kitx_exc hcl T.hg T.hk T.hs T.ha T.hn T.ht T.hm) I.kIn J e (fun z => nomatch z) fin
  | bare ea =>
    obtain ⟨⟨oe, vs, ho, hz, hd, _⟩, _⟩ := I.hok a _ ea
    have J : PySem.W.InstAt s.heap a oe C none := by
      obtain ⟨oc, od, oda, osl⟩ := oe
      obtain ⟨z1, z2⟩ := hz
      dsimp only at z1 z2 hd
      subst z1 z2 hd
      exact ⟨ho, rfl, rfl, trivial⟩
    exact PySem.W.kia_one (PySem.W.kitx_exc hcl T.hg T.hk T.hs T.ha T.hn T.ht T.hm) I.kIn J e (fun z => nomatch z) fin
/-- C(e), the class's own __init__ keeping sp: the object stands -/
def tMkX (C : Addr) (sp : Sp) (ta : TA) : TE := fun σ H Q => ta σ H fun vs H1 => vs.length ≤ 1000 ∧ ∀ a, H1 a = none → sp (.ref a :: vs) (upd H1 a (exo a C none)) (fun v H2 => v = .non ∧ Q (.ref a) H2) E0
theorem pe_mkX {x : Str} {C fI : Addr} {k : Nat} {fd : FuncData} {ps : List Str} {sp : Sp} {e : Expr} {es : List Expr} {ta : TA} {p pos : Pos} (T : OexC X.K C) (iC : PySem.W.findIn X.K (.ref C) "__init__" = some (some (.ref fI))) (tI : PySem.W.typeIn X.K (.ref fI) = some (.type "function"))
    (F1 : FnOk X.prog X.w X.K X.mg X.base CX0 k fI fd ps sp) (hr : Room (k + 1) X.A) (hb : Binds X.K fd ps []) (hg : Gl X x) (hm : X.mg x = some (.ref C)) (ha : PA X (e :: es) ta) (hx : Passes CX0 X E0)
    (hdb : (x == ("__debug__" : Str)) = false := by decide) (he : starEach (e :: es) X.env = (false, eval e X.env) :: starEach es X.env := by rfl) (hpl : (backTo pos (starEach es X.env)).any (·.1) = false := by rfl) :
    PE X (.Call (.Name x p) (e :: es) [] pos) (tMkX C sp ta) := by
  refine ⟨fun pins s σ H Q I h => ?_⟩
  obtain ⟨nm, qn, N, bs, bm, sn, sub, ab, col, dd, k0, k1, k2, k3, k5, hC, hbm⟩ := T.cls
  refine wpAny_Call_Name_kw (ld_glob I hg hm ?_ hdb)
  refine PySem.W.callWith_K (h₀ := X.base) I.ok.mod.kin T.kC (thn (ha.run pos pins s σ H _ I h) fun us s1 ⟨vs, H1, I1, r1, hz, q1⟩ => ⟨I1.kIn, ?_⟩) he hpl
  show wpAny _ _ (call (.ref C) us) _ _ _
  obtain ⟨hp, gs, dr, tk, os⟩ := s1
  have fresh : H1 (hp.objs.size + 1) = none := I1.hok.fresh (Nat.le_succ _)
  have hq := q1 _ fresh
  have there : ((hp.push (PySem.W.kdv_tup us)).push (PySem.HandSPX.excO C hp.objs.size)).get? (hp.objs.size + 1) = some (PySem.HandSPX.excO C hp.objs.size) := by heap_get
  have J : Inv X pins σ (upd H1 (hp.objs.size + 1) (exo (hp.objs.size + 1) C none)) ⟨(hp.push (PySem.W.kdv_tup us)).push (PySem.HandSPX.excO C hp.objs.size), gs, dr, tk, os⟩ :=
    I1.laid (t' := tk) (fun b o z => Heap.get?_push_of_some _ (Heap.get?_push_of_some _ z)) (Nat.le_succ _) (exo_ok there)
  have r2 : Vals (V.ref (hp.objs.size + 1) :: vs) (Value.ref (hp.objs.size + 1) :: us) := .cons rfl r1
  have hl : (Value.ref (hp.objs.size + 1) :: us).length = ps.length := r2.length.symm.trans (F1.len _ _ _ _ hq)
  have hus : us.length ≤ sizeLine := by rw [← Paired.length r1, sizeLine_eq]; omega
  have bnd := hb ⟨(hp.push (PySem.W.kdv_tup us)).push (PySem.HandSPX.excO C hp.objs.size), gs, dr, tk, os⟩ (Value.ref (hp.objs.size + 1) :: us) J.kIn (by rw [List.append_nil]; exact hl)
  rw [List.append_nil] at bnd
  refine wpAny_call (PySem.HandSPX.call_own F.excBase_ValueError (fun Y => PySem.HandSPX.refsVE_contains Y bm hbm) (I1.kIn _ _ hC) (PySem.W.looks_findIn I1.kIn iC) (fun self => PySem.W.bind_fn I1.kIn self tI) hus
    (codeAny_mono (F1.run _ X.stack _ _ ⟨Value.ref (hp.objs.size + 1) :: us, []⟩ (Value.ref (hp.objs.size + 1) :: us) _ _ E0 (hr.make C us []) (J.env0.make C us []) bnd r2 hq) fun res s' back => ?_))
  rcases res with er | fl
  · exact hx pins σ _ _ er s' J back
  · rcases fl with _ | _ | _ | u
    · exact False.elim back
    · exact False.elim back
    · exact False.elim back
    · obtain ⟨v, H2, J2, rv, ev, q2⟩ := J.after back
      subst ev
      exact ⟨rv, ⟨V.ref (hp.objs.size + 1), H2, J2, rfl, q2⟩⟩
/-- C(), a class without own __init__ -/
theorem pe_exc0 {C : Addr} {bmB : List Value} {B newId initId : String} {x : Str} {p pos : Pos} (F : ExcBaseFacts B newId initId bmB) (hi : PySem.W.excIn X.K C bmB newId = true) (gC : X.mg x = some (.ref C)) (kC : PySem.W.keepIn X.K (.ref C) = true) (hg : Gl X x) (hdb : (x == ("__debug__" : Str)) = false := by decide) :
    PE X (.Call (.Name x p) [] [] pos) (fun _ H Q => ∀ a, H a = none → Q (.ref a) (upd H a (ExO (.ref C) a))) := by
  refine ⟨fun pins s σ H Q I h => ?_⟩
  refine wpAny_Call_Name_kw (ld_glob I hg gC ?_ hdb)
  refine PySem.W.callWith_K0 I.kIn kC ?_
  show wpAny _ _ (call (.ref C) []) _ _ _
  obtain ⟨bm, N, nm, qn, bs, hdct, sn, sub, ab, col, dd, k0, k1, k2, k3, k5, mN, hC, hN, hni, T⟩ := exc_obj I.kIn hi
  refine wpAny_call_exc_subT F T hC hN hni (fun h' a hm => ?_) (by show 0 ≤ sizeLine; exact Nat.zero_le _)
  have gone : H a = none := I.hok.gone hm.new
  obtain ⟨t, ht, _, _⟩ := hm.there
  exact ⟨.ref a, upd H a (ExO (.ref C) a), I.laidN hm.keeps hm.new gone (exO_ok ht ⟨rfl, rfl⟩ rfl rfl rfl (by simp)), rfl, h a gone⟩
/-- self.value = value, the whole of an __init__ -/
def sp_init (K : PySem.W.Frag) (C : Addr) (f : Str) : Sp := fun vs H Q _ => ∃ (a : Addr) (y : V), vs = [.ref a, y] ∧ H a = some (exo a C none) ∧ ∀ dx, H dx = none → dx ≠ a → Q .non (upd (upd H dx (exd dx [(f, y)])) a (exo a C (some dx)))
/-- C(e) read by what stands behind it -/
theorem mkX_read {K : PySem.W.Frag} {C : Addr} {f : Str} {ta : TA} {σ : L2.St} {H : Hp} {Q : VK} (h : ta σ H fun vs H1 => ∃ y, vs = [y] ∧ ∀ a H2, Same H1 H2 → H1 a = none → XAt H2 a C (some [(f, y)]) → Q (.ref a) H2)
    (mono : ∀ (R R' : List V → Hp → Prop), (∀ vs H1, R vs H1 → R' vs H1) → ta σ H R → ta σ H R') : tMkX C (sp_init K C f) ta σ H Q := by
  refine mono _ _ ?_ h
  rintro vs H1 ⟨y, rfl, q⟩
  refine ⟨by simp, fun a na => ⟨a, y, rfl, upd_same, fun dx ndx ne => ⟨rfl, q a _ ?_ na (.full upd_same ?_)⟩⟩⟩
  · intro b o eb
    have h1 : b ≠ a := ne_of_none eb na
    have h2 : (upd H1 a (exo a C none)) b = some o := by rw [upd_ne h1]; exact eb
    rw [upd_ne h1, upd_ne (ne_of_none h2 ndx), upd_ne h1]
    exact eb
  · rw [upd_ne ne]; exact upd_same
end
end MB

set_option maxHeartbeats 4000000
namespace MB
open PySem PySem.Spec PyProof.Rows L2
/-- the thing at sysModules, tracked as it stands: a new thing then stands elsewhere -/
def sysO (oY : Obj) : HO := .frz oY (.ext fun h => h.get? sysModules = some oY)
theorem law_callS {P : Program} {w : World} {K : PySem.W.Frag} {mg mb : Str → Option Value} {k : Nat} {fa a : Addr} {fd : FuncData} {x : Str} {sp : Sp} {s₁ : Shared} {vs : List Value} {ns : List Int} {oY : Obj}
    (hKs : K.lookup sysModules = none) (hsy : s₁.heap.get? sysModules = some oY) (hna : a ≠ sysModules) (KX : K.In s₁.heap) (hns : s₁.heap.Ns mainGlobals mg) (hb : s₁.heap.Ns builtinsNs mb)
    (hbb : ∀ x : Str, x ≠ "__name__" → mb x = bootBuiltins x) (hlim : s₁.heap.NoLimit) (hg : s₁.gens = #[])
    (ha : s₁.heap.get? a = some { cls := .type "list", data := .seq vs.toArray }) (hi : IntsAre vs ns) (hl : ns.length ≤ sizeLine) (hr : Room k callerA)
    (F : ∀ base : Heap, K.In base → base.Ns mainGlobals mg → FnG P w K mg base CX0 k fa fd [x] sp) (hbind : ∀ (s : Shared) (u : Value), BindsTo s fd ⟨[u], []⟩ [(x, u)])
    (hsp : ∀ (H : Hp) (o : HO), SqL K H a (ns.map V.int) → H sysModules = some o → sp [.ref a] H (fun v _ => v = .bl true) fun _ _ _ => False) :
    codeAny (model P w) callerA (.call (.ref fa) ⟨[.ref a], []⟩) (fun r s' => r = .ok (.ret (.bool true)) ∧ OldK s₁.heap s'.heap ∧ s'.os = s₁.os ∧ AllBare s'.gens) s₁ := by
  let oS : Obj := { cls := .type "list", data := .seq vs.toArray }
  let H : Hp := fun b => if b = a ∧ K.lookup a = none then some (.frz oS (.lst (ns.map V.int))) else if b = sysModules then some (sysO oY) else none
  have Ha : K.lookup a = none → H a = some (.frz oS (.lst (ns.map V.int))) := fun hk => if_pos ⟨rfl, hk⟩
  have Hy : H sysModules = some (sysO oY) := (if_neg fun z => hna z.1.symm).trans (if_pos rfl)
  have rv := vals_ints hi
  have Hsome : ∀ {b : Addr} {o : HO}, H b = some o → (b = a ∧ o = .frz oS (.lst (ns.map V.int))) ∨ (b = sysModules ∧ o = sysO oY) := fun {b o} e => by
    by_cases c : b = a ∧ K.lookup a = none
    · have e' := (if_pos c).symm.trans e
      exact .inl ⟨c.1, (Option.some.inj e').symm⟩
    · by_cases c2 : b = sysModules
      · rw [c2, Hy] at e; exact .inr ⟨c2, (Option.some.inj e).symm⟩
      · have e' : H b = none := (if_neg c).trans (if_neg c2)
        rw [e'] at e; cases e
  have hfree : ∀ {b : Addr}, (b = a → K.lookup a ≠ none) → b ≠ sysModules → H b = none := fun {b} c c2 => (if_neg fun z => c z.1 z.2).trans (if_neg c2)
  have hS : SqL K H a (ns.map V.int) := by
    cases hk : K.lookup a with
    | none => exact .inl (.inr ⟨oS, Ha hk⟩)
    | some o =>
      have e := (KX a o hk).symm.trans ha
      cases e
      exact .inr ⟨_, vs.toArray, _, hk, rfl, rfl, rfl, by rw [List.size_toArray, hi.length]; exact hl, by simpa using rv⟩
  have hok : HOk P w H s₁.heap := fun b o e => by
    rcases Hsome e with ⟨rfl, rfl⟩ | ⟨rfl, rfl⟩
    · exact ⟨ha, by rw [List.length_map]; exact hl, vs, _, rv, ha⟩
    · exact ⟨hsy, hsy, ⟨_, hsy⟩, fun h1 h2 z kk => kk _ z⟩
  have notA : ∀ {b : Addr} {m : Str → Option Value}, s₁.heap.Ns b m → b ≠ a := fun {b m} ⟨o, es, ep, e, d, r⟩ z => by
    rw [z, ha] at e; cases e; cases d
  have ns_hid : ∀ {b : Addr} {m : Str → Option Value}, b ≠ sysModules → s₁.heap.Ns b m → (hidT s₁.heap H).Ns b m := fun {b m} hb x => by
    have h1 := notA x
    obtain ⟨o, es, ep, e, d, r⟩ := x
    exact ⟨o, es, ep, hidT_get e (hfree (fun z => absurd z h1) hb), d, r⟩
  have hKb : K.In (hidT s₁.heap H) := fun b o e => hidT_get (KX b o e) (hfree (fun z => by rw [z] at e; rw [e]; exact fun y => nomatch y) (fun z => by rw [z, hKs] at e; cases e))
  have hM : Mod K mg (hidT s₁.heap H) := ⟨hKb, ns_hid (by decide) hns, ⟨mb, ns_hid (by decide) hb, hbb⟩, let ⟨mc, h1, h2⟩ := hlim; ⟨mc, ns_hid (by decide) h1, h2⟩⟩
  have e0 : Env0 P w K mg (hidT s₁.heap H) callerA [] s₁ H := ⟨rfl, hM, fun b o e => of_hidT e, Nat.le_of_eq (hidT_size _ _), trivial, (fun b hb => absurd (show b ∈ ([] : List Addr) from hb) (by simp)), hok, .of_eq hg⟩
  refine codeAny_mono ((F _ hKb (ns_hid (by decide) hns)).run callerA rfl hr [] s₁ H ⟨[.ref a], []⟩ [.ref a] [.ref a] _ _ e0 (hbind s₁ (.ref a)) (.cons rfl .nil) (hsp H _ hS Hy)) fun r s' h => ?_
  rcases r with e | fl
  · exact False.elim h
  rcases fl with _ | _ | _ | u
  · exact False.elim h
  · exact False.elim h
  · exact False.elim h
  obtain ⟨v, H', os, bare, un, hok', r', q⟩ := h
  have q' : v = .bl true := q
  subst q'
  obtain rfl : u = Value.bool true := r'
  refine ⟨rfl, OldK.of_keep fun b o e => ?_, os, bare⟩
  cases hb' : H b with
  | none => exact un.keep b o e hb' (fun z => absurd (show b ∈ ([] : List Addr) from z) (by simp)) (by simp)
  | some u =>
    rcases Hsome hb' with ⟨rfl, rfl⟩ | ⟨rfl, rfl⟩
    · have e2 := (hok' _ _ (un.frzs _ oS _ hb')).1
      rw [ha] at e
      cases e
      exact e2
    · have e2 := (hok' _ _ (un.frzs _ oY _ hb')).1
      rw [hsy] at e
      cases e
      exact e2
theorem walk_ofS {l : PySem.W.OpenLaw} {n k : Nat} {q : Program} {loose : List Str} {XP : (Str → Option Value) → Heap → Prop} {YP : World → Heap → Prop} {d : DefRec} {K : Params → PySem.W.Frag} {sp : PySem.W.Frag → Sp} {x : Str}
    (hn : l.most = some n) (hn2 : n ≤ sizeLine) (hdf : d.params.defaults = []) (hr : Room k callerA) (him : importsNone q = true) (hKs : ∀ p, (K p).lookup sysModules = none)
    (hY : ∀ (w : World) (h : Heap), YP w h → (K w.params).In h)
    (F : ∀ (w : World) (mg : Str → Option Value) (fa : Addr) (h : Heap), (K w.params).In h → h.Ns mainGlobals mg → mg d.name = some (.ref fa) →
      ∃ fd : FuncData, (∀ (s : Shared) (u : Value), BindsTo s fd ⟨[u], []⟩ [(x, u)]) ∧
        ∀ base : Heap, (K w.params).In base → base.Ns mainGlobals mg → FnG l.prog w (K w.params) mg base CX0 k fa fd [x] (sp (K w.params)))
    (hsp : ∀ (K : PySem.W.Frag) (H : Hp) (a : Addr) (ns : List Int) (o : HO), ns.length ≤ n → SqL K H a (ns.map V.int) → H sysModules = some o → sp K [.ref a] H (fun v _ => v = .bl true) fun _ _ _ => False) :
    PySem.W.WalkO q loose XP YP l.row.toRowW d [] (fun f vs => PySem.call f vs) :=
  Att.attach_call hn hdf fun w s₀ s₁ mg mb fa o pm cd doc a vs ns G Y ho hd hcd hmg hobj hints hlen hg =>
    have KX := hY w _ Y
    let ⟨fd, hb, hF⟩ := F w mg fa _ KX G.T.g hmg
    let ⟨mm, hmm, _⟩ := (G.T.seer him).mods
    let ⟨oY, es, ep, eY, dY, _⟩ := hmm
    law_callS (hKs w.params) eY (fun z => by rw [z, eY] at hobj; cases hobj; cases dY) KX G.T.g G.T.b G.T.builtins G.T.nolimit hg hobj hints (Nat.le_trans hlen hn2) hr hF hb fun H o hS hy => hsp _ H a ns o hlen hS hy
end MB

set_option maxHeartbeats 4000000
namespace MB
open PySem PySem.Spec PyProof.Rows L2
/-! ### facts of own exception classes, each as one truth value -/
def excB (K : PySem.W.Frag) (D : Addr) : Bool :=
  decide (PySem.W.findIn K (.ref D) "__getattribute__" = some (some (.builtin "BaseException.__getattribute__"))) && (decide (PySem.W.findIn K (.ref D) "__getattr__" = some none) && (decide (PySem.W.subIn K (.ref D) (.type "BaseException") = some true) && (PySem.W.hasDictIn K D &&
  (decide (PySem.W.findIn K (.ref D) "__class__" = some (some (.builtin "object.__class__"))) && (decide (PySem.W.specialIn K (.builtin "object.__class__") "__get__" = some (some (.builtin "getset_descriptor.__get__"))) && (decide (PySem.W.takesIn K (.builtin "object.__class__") = some true) && decide (PySem.W.mroIn K D (.type "object") = some true)))))))
theorem excB_ok {K : PySem.W.Frag} {D : Addr} (h : excB K D = true) : ExcC K D ∧ XfC K D := by
  unfold excB at h
  simp only [Bool.and_eq_true, decide_eq_true_eq] at h
  obtain ⟨h1, h2, h3, h4, h5, h6, h7, h8⟩ := h
  exact ⟨⟨h1, h2, h3, h4, h5, h6, h7, h8⟩, ⟨h1, h2, h3, h4⟩⟩
def oexB (K : PySem.W.Frag) (C fI : Addr) (f : Str) : Bool :=
  decide (PySem.W.findIn K (.ref C) "__setattr__" = some (some (.builtin "object.__setattr__"))) && (decide (PySem.W.subIn K (.ref C) (.type "BaseException") = some true) && (decide (PySem.W.typeIn K (.ref C) = some (.type "type")) && (PySem.W.keepIn K (.ref C) &&
  (decide (PySem.W.findIn K (.ref C) f = some none) && (decide (PySem.W.typeIn K (.ref fI) = some (.type "function")))))))
theorem oexB_ok {K : PySem.W.Frag} {C fI : Addr} {f : Str} (h : oexB K C fI f = true) : PySem.W.findIn K (.ref C) "__setattr__" = some (some (.builtin "object.__setattr__")) ∧ PySem.W.subIn K (.ref C) (.type "BaseException") = some true ∧ PySem.W.typeIn K (.ref C) = some (.type "type") ∧ PySem.W.keepIn K (.ref C) = true ∧ PySem.W.findIn K (.ref C) f = some none ∧ PySem.W.typeIn K (.ref fI) = some (.type "function") := by
  unfold oexB at h
  simpa only [Bool.and_eq_true, decide_eq_true_eq] using h
/-- each is an instance of itself alone among them, of the base m, and of ValueError -/
def kitB (K : PySem.W.Frag) (cs : List Addr) (m : Addr) : Bool :=
  cs.all fun c => (cs.all fun d => decide (PySem.W.kitOne K (.ref c) (.ref d) = some (c == d))) && (decide (PySem.W.kitOne K (.ref c) (.ref m) = some true) && decide (PySem.W.kitOne K (.ref c) (.type "ValueError") = some true))
theorem kitB_ok {K : PySem.W.Frag} {cs : List Addr} {m : Addr} (h : kitB K cs m = true) {c : Addr} (hc : c ∈ cs) : (∀ d, d ∈ cs → PySem.W.kitOne K (.ref c) (.ref d) = some (c == d)) ∧ PySem.W.kitOne K (.ref c) (.ref m) = some true ∧ PySem.W.kitOne K (.ref c) (.type "ValueError") = some true := by
  unfold kitB at h
  have h1 := List.all_eq_true.mp h c hc
  simp only [Bool.and_eq_true, decide_eq_true_eq, List.all_eq_true] at h1
  exact h1
def nodupB (cs : List Addr) : Bool := decide cs.Nodup

/-- the same from the lines of ancestors alone -/
def kitT (l : List (Addr × List Value)) (m : Addr) : Bool :=
  l.all fun c => !c.2.isEmpty && ((l.all fun d => decide ((c.1 = d.1 ∨ c.2.contains (.ref d.1) = false))) && (c.2.contains (.ref m) && c.2.contains (.type "ValueError")))
theorem kitOne_self {K : PySem.W.Frag} {v : Value} : PySem.W.kitOne K v v = some true := by
  unfold PySem.W.kitOne
  rw [if_pos (beq_self_eq_true v)]
theorem kitOne_ref {K : PySem.W.Frag} {c d : Addr} {cd dd : ClassData} (hn : c ≠ d) (h : PySem.W.clsIn K c = some cd) (he : cd.mro.isEmpty = false) (g : PySem.W.clsIn K d = some dd) (gt : PySem.W.typeIn K (.ref d) = some (.type "type")) :
    PySem.W.kitOne K (.ref c) (.ref d) = some (cd.mro.contains (.ref d)) := by
  unfold PySem.W.kitOne
  have e : ¬ ((Value.ref c == Value.ref d) = true) := fun z => by
    have z2 : Value.ref c = Value.ref d := beq_iff_eq.mp z
    cases z2; exact hn rfl
  rw [if_neg e]
  unfold PySem.W.kitCls
  dsimp only
  rw [g, gt, if_pos (by simp)]
  show PySem.W.mroIn K c (.ref d) = _
  unfold PySem.W.mroIn
  rw [h]
  show (if cd.mro.isEmpty = true then none else some (cd.mro.contains (.ref d))) = _
  rw [he]; rfl
theorem kitOne_ve {K : PySem.W.Frag} {c : Addr} {cd : ClassData} (h : PySem.W.clsIn K c = some cd) (he : cd.mro.isEmpty = false) :
    PySem.W.kitOne K (.ref c) (.type "ValueError") = some (cd.mro.contains (.type "ValueError")) := by
  unfold PySem.W.kitOne
  have e : ¬ ((Value.ref c == Value.type "ValueError") = true) := fun z => by
    have z2 : Value.ref c = Value.type "ValueError" := beq_iff_eq.mp z
    cases z2
  rw [if_neg e]
  unfold PySem.W.kitCls
  dsimp only
  rw [if_pos (by decide +kernel)]
  show PySem.W.mroIn K c (.type "ValueError") = _
  unfold PySem.W.mroIn
  rw [h]
  show (if cd.mro.isEmpty = true then none else some (cd.mro.contains (.type "ValueError"))) = _
  rw [he]; rfl
theorem kitB_mk {K : PySem.W.Frag} {m : Addr} {md : ClassData} (l : List (Addr × ClassData)) (h : ∀ p, p ∈ l → PySem.W.clsIn K p.1 = some p.2 ∧ PySem.W.typeIn K (.ref p.1) = some (.type "type"))
    (hm : PySem.W.clsIn K m = some md) (tm : PySem.W.typeIn K (.ref m) = some (.type "type")) (t : kitT (l.map fun p => (p.1, p.2.mro)) m = true) : kitB K (l.map (·.1)) m = true := by
  unfold kitB
  unfold kitT at t
  rw [List.all_eq_true] at t ⊢
  intro c hc
  obtain ⟨p, hp, rfl⟩ := List.mem_map.mp hc
  have tp := t _ (List.mem_map.mpr ⟨p, hp, rfl⟩)
  simp only [Bool.and_eq_true, decide_eq_true_eq, List.all_eq_true] at tp
  obtain ⟨t1, t2, t3, t4⟩ := tp
  have t1' : p.2.mro.isEmpty = false := by simpa using t1
  simp only [Bool.and_eq_true, decide_eq_true_eq, List.all_eq_true]
  refine ⟨fun d hd => ?_, ?_, ?_⟩
  · obtain ⟨q, hq, rfl⟩ := List.mem_map.mp hd
    by_cases z : p.1 = q.1
    · rw [z, kitOne_self]; simp
    · have := t2 _ (List.mem_map.mpr ⟨q, hq, rfl⟩)
      rcases this with e | e
      · exact absurd e z
      · rw [kitOne_ref z (h p hp).1 t1' (h q hq).1 (h q hq).2, e]
        have : (p.1 == q.1) = false := by simpa using z
        rw [this]
  · by_cases z : p.1 = m
    · rw [z, kitOne_self]
    · rw [kitOne_ref z (h p hp).1 t1' hm tm, t3]
  · rw [kitOne_ve (h p hp).1 t1', t4]
end MB

set_option maxHeartbeats 4000000
namespace MB
open PySem PySem.Spec PyProof.Rows L2
/-! ### a caught exception is kept: its object comes among what is tracked -/
theorem inv_adopt {X : Cx} {pins : List (Addr × Obj)} {σ : L2.St} {H : Hp} {s : Shared} {a : Addr} {o : HO} (I : Inv X pins σ H s)
    (na : H a = none) (n0 : a ∉ X.ex → X.s_0.heap.get? a = none) (nL : a ≠ X.env.locals) (nC : ∀ x c, X.env.cells.lookup x = some c → c ≠ a) (nP : ∀ p ∈ X.pn ++ pins, p.1 ≠ a)
    (new : ObjOk X.prog X.w (upd H a o) s.heap a o) : Inv X pins σ (upd H a o) s := by
  have ne : ∀ b u, H b = some u → b ≠ a := fun b u q z => by rw [z, na] at q; cases q
  have up : ∀ b u, H b = some u → upd H a o b = some u := fun b u q => by rw [upd_ne (ne b u q)]; exact q
  have no : ∀ b, b ≠ a → H b = none → upd H a o b = none := fun b z q => by rw [upd_ne z]; exact q
  have B := I.base
  refine ⟨I.ok, I.os, I.bare, ⟨B.keep, B.slot, fun b ob q n x => ?_, B.there, fun b xs q => up _ _ (B.tups b xs q), fun b ob u q => up _ _ (B.frzs b ob u q), fun b ps q => ?_⟩, I.loc, I.cell, no _ (Ne.symm nL) I.free, fun x c q => no _ (nC x c q) (I.freeC x c q), fun p hp => ?_, fun b u q => ?_, I.len⟩
  · refine no _ (fun z => ?_) (B.free b ob q n x)
    rw [z] at q x
    rw [n0 x] at q; cases q
  · obtain ⟨more, e⟩ := B.tbls b ps q
    exact ⟨more, up _ _ e⟩
  · obtain ⟨p1, p2, p3⟩ := I.pin p hp
    exact ⟨p1, no _ (nP p hp) p2, p3⟩
  · by_cases z : b = a
    · rw [z, upd_same] at q
      cases q
      rw [z]
      exact new
    · rw [upd_ne z] at q
      exact (I.hok b u q).stay (fun c v _ e => e) (fun c e => up c _ e) fun c _ e => up c _ e

/-- what the catch wishes: the class is one that is caught; behind the suite the error stays, tracked -/
def wKept (K : PySem.W.Frag) (c : Value) (i : Nat) (ts : Addr → Value → Option Addr → TS) (D : Ends) : WX := fun cls d σ H =>
  PySem.W.exmOne K cls c = some true ∧ ∀ a, H a = none →
    ts a cls d { nx := fun σ' H' => D.nx (σ'.set i none) (upd H' a (KeO a cls d)), rt := fun _ _ => False, bk := fun _ _ => False, ct := fun _ _ => False } (σ.set i (some (.ref a))) H
section
variable {X : Cx} {x n : Str} {c : Value} {i : Nat} {body more : List Stmt} {st : Stmt} {np pos pos' : Pos} {tb : WX → TS} {ts : Addr → Value → Option Addr → TS}
theorem ps_try_kept (hst : X.stack = X.env :: X.outer) (hfm : X.env.frame = some X.env.locals)
    (hN : X.N.Nodup) (hi : X.N[i]? = some n)
    (hln : X.env.kindOf n = some .local) (hc : Names X x c)
    (hb : ∀ (W : WX) (pn : List (Addr × Obj)) (xe : Value → Shared → Prop), Takes (X.tr pn xe) W →
      PassesOwn (model X.prog X.w) X.A X.env xe → PSs (X.tr pn xe) body (tb W))
    (hsu : ∀ (a : Addr) (oe : Obj) (cls : Value) (d : Option Addr) (pn : List (Addr × Obj)), Zc cls d oe →
      (∃ vs, oe.data = .fields vs) → PSs (X.suite a ((a, oe) :: pn)) (st :: more) (ts a cls d)) :
    PS X (.Try body [.ExceptHandler (some (.Name x np)) (some n) (st :: more) pos'] [] [] pos)
      (fun D σ H => tb (wKept X.K c i ts D) D σ H) := by
  refine ⟨fun pins s σ H D I h => ?_⟩
  have okX := I.ok
  have frm : X.A.frames = some (X.env :: X.outer) := by rw [okX.frames, hst]
  refine wpAny_Try_except (wpAny_mono ((hb (wKept X.K c i ts D) (X.pn ++ pins) _ (fun u s1 xx => ?_) PassesOwn.looking).run [] s σ H D (I.toTry _) h) (fun f s1 q => ?_) (fun e s1 q => q))
  · obtain ⟨a, B, sI, pins', σ1, H1, cls, d, rfl, Jt, nb, up, sky, na, os, ag, hyes, hts⟩ := xx
    have J : Inv X pins σ1 H1 sI := Jt.ofTry okX
    rw [show (X.tr (X.pn ++ pins) _).stack = X.env :: X.outer from hst] at sky
    show wpAny (model X.prog X.w) X.A (noteFrame (.ref a) X.env) _ _ _
    refine Sky.land Zc.steady frm hfm sky fun h2 fl up2 => ?_
    have J2 : Inv X pins σ1 H1 { s1 with heap := h2 } := J.landed nb fl.1 (up.trans up2) os ag
    have Bn : B.get? a = none := fl.2.1
    obtain ⟨o2, vs2, g2, z2, d2⟩ := fl.there
    have offF : a ∉ frs (X.env :: X.outer) := fun hm => by
      obtain ⟨_, o', e', hnf⟩ := fl.2.2.1.mem hm
      rw [g2] at e'; cases e'
      exact hnf _ d2
    have offL : a ≠ X.env.locals := fun z => offF (List.mem_filterMap.mpr ⟨X.env, List.mem_cons_self, by rw [hfm, z]⟩)
    have offO : a ∉ X.fs := fun hm => by
      obtain ⟨e, he, q⟩ := List.mem_filterMap.mp hm
      exact offF (List.mem_filterMap.mpr ⟨e, List.mem_cons_of_mem _ he, q⟩)
    have offI : ∀ o, sI.heap.get? a = some o → False := fun o e => by
      have := nb a o e (by show a ∉ frs X.stack; rw [hst]; exact offF)
      rw [Bn] at this; cases this
    have n0 : a ∉ X.ex → X.s_0.heap.get? a = none := fun hx => by
      cases e : X.s_0.heap.get? a with
      | none => rfl
      | some o =>
        obtain ⟨o', e'⟩ := J.base.there a o e hx
        exact (offI _ e').elim
    have nC : ∀ x c, X.env.cells.lookup x = some c → c ≠ a := fun x c e z => by
      obtain ⟨v, q⟩ := J.cell x c e
      rw [z] at q
      obtain ⟨o, q1, _⟩ := q
      exact offI _ q1
    have nP : ∀ p ∈ X.pn ++ pins, p.1 ≠ a := fun p hp z => by
      have q := (J.pin p hp).1
      rw [z] at q
      exact offI _ q
    have S2 := J2.suite g2 d2 na offL offO
    refine wpAny_handleBy_cons (codeAny_handlers_test ?_) (by intro q; cases q)
    have ty : PySem.W.Looks (model X.prog X.w) h2 (typeOf (.ref a)) cls := fun _ _ _ _ k q =>
      wpAny_typeOf_ref (k _ _ g2) (by rw [z2.1]; exact q)
    have look := PySem.W.exm_one (M := model X.prog X.w) J2.kIn ty hyes
    have nam : ∀ {Q E : Value → Shared → Prop}, Q c { s1 with heap := h2 } →
        wpAny (model X.prog X.w) (X.A.mark (some (.ref a))) (eval (.Name x np) X.env) Q E { s1 with heap := h2 } := fun {Q E} q => by
      rcases hc with ⟨hg, hdb, hm | ⟨hm, hv, hnn⟩⟩
      · exact ld_glob (X := X.suite a ((a, o2) :: (X.pn ++ pins))) S2 hg hm q hdb
      · exact ld_blt (X := X.suite a ((a, o2) :: (X.pn ++ pins))) S2 hg hm hv q hnn hdb
    refine nam (look.here (codeAny_handlers_suite_as (HandSPX.lands_againZ fl fun h3 fl3 up3 => ?_)))
    have J3 : Inv X pins σ1 H1 { s1 with heap := h3 } := J.landed nb fl3.1 ((up.trans up2).trans up3) os ag
    obtain ⟨o3, vs3, g3, z3, d3⟩ := fl3.there
    have S3 := J3.suite g3 d3 na offL offO
    refine store_ok (X := X.suite a ((a, o3) :: (X.pn ++ pins))) (v := .ref a) S3 hN hi (.inl hln) rfl (fun s4 S4 => ?_) (.inr hln)
    refine wpAny_mono ((hsu a o3 cls d (X.pn ++ pins) z3 ⟨_, d3⟩).run [] s4 _ H1 _ S4 (hts a na)) (fun f s5 q => ?_) (fun _ _ z => z.elim)
    cases f with
    | next =>
      obtain ⟨σ5, H5, S5, q5⟩ := q
      obtain ⟨g5, n5, _⟩ := S5.pin (a, o3) (by simp [Cx.suite])
      exact gone_ok (inv_adopt (S5.unsuite okX) n5 n0 offL nC nP (keO_ok g5 z3.1 z3.2 d3)) hN hi hln fun s6 J6 => ⟨_, _, J6, q5⟩
    | brk => obtain ⟨_, _, _, z⟩ := q; exact z.elim
    | cont => obtain ⟨_, _, _, z⟩ := q; exact z.elim
    | ret u => obtain ⟨_, _, _, _, _, z⟩ := q; exact z.elim
  · cases f with
    | next => obtain ⟨_, _, J, z⟩ := q; exact wpAny_execs_nil ⟨_, _, J.ofTry okX, z⟩
    | brk => obtain ⟨_, _, J, z⟩ := q; exact ⟨_, _, J.ofTry okX, z⟩
    | cont => obtain ⟨_, _, J, z⟩ := q; exact ⟨_, _, J.ofTry okX, z⟩
    | ret u => obtain ⟨_, _, _, J, r, z⟩ := q; exact ⟨_, _, _, J.ofTry okX, r, z⟩
end
end MB

set_option maxHeartbeats 4000000
namespace MB
open PySem PySem.Spec PyProof.Rows L2
/-! ### what a def or a lambda lets out, its caller takes -/
theorem takesX {P : Program} {w : World} {K : PySem.W.Frag} {mg : Str → Option Value} {base : Heap} {N : List Str} {qual : Str} {scope : Scope} {f : Addr} {cd : Value} {A : Around} {outer : List Env} {s : Shared} {H : Hp} {E : XK} :
    Takes (cxOf (L2.CX P w) P w K mg base N qual scope f cd A outer s H E) (fun cls d _ H => E cls d H) := takes_of rfl rfl rfl rfl
theorem passX {P : Program} {w : World} {K : PySem.W.Frag} {mg : Str → Option Value} {base : Heap} {N : List Str} {qual : Str} {scope : Scope} {f : Addr} {cd : Value} {A : Around} {outer : List Env} {s : Shared} {H : Hp} {E : XK} :
    Passes (L2.CX P w) (cxOf (L2.CX P w) P w K mg base N qual scope f cd A outer s H E) E := passes_call takesX fun _ _ _ _ h => h
theorem takesL {X : Cx} {A : Around} {outer : List Env} {s : Shared} {H : Hp} {E : XK} {scope : Scope} {f c' : Addr} : Takes (LamX.lamCx X A outer s H E scope f c') (fun cls d _ H => E cls d H) := takes_of rfl rfl rfl rfl
theorem passL' {X : Cx} {A : Around} {outer : List Env} {s : Shared} {H : Hp} {E : XK} {scope : Scope} {f c' : Addr} : Passes (L2.CX X.prog X.w) (LamX.lamCx X A outer s H E scope f c') E := passes_call takesL fun _ _ _ _ h => h
/-- a def that may raise, called where it does not -/
theorem passN {P : Program} {w : World} {X : Cx} : Passes (L2.CX P w) X E0 := fun _ _ _ _ _ _ _ ⟨_, _, _, _, _, _, _, _, _, _, _, _, h⟩ => h.elim
/-! ### raise C(value) -/
theorem raise_read {K : PySem.W.Frag} {C : Addr} {ta : TA} {σ : L2.St} {H : Hp} {W : XK} (h : ta σ H fun vs H1 => ∃ y, vs = [y] ∧ ∀ d H2, Same H1 H2 → H1 d = none → H2 d = some (.xd [("value", y)]) → W (.ref C) (some d) H2)
    (mono : ∀ (R R' : List V → Hp → Prop), (∀ vs H1, R vs H1 → R' vs H1) → ta σ H R → ta σ H R') : tMkO C (sp_init K C "value") [] ta σ H W := by
  refine mono _ _ ?_ h
  rintro vs H1 ⟨y, rfl, q⟩
  refine ⟨by simp, fun a na => ⟨a, y, rfl, upd_same, fun dx ndx ne => ⟨rfl, dx, [("value", y)], upd_same, ?_, ?_, ?_⟩⟩⟩
  · rw [upd_ne ne]; exact upd_same
  · by_cases e : dx = a
    · exact absurd e ne
    · rw [upd_ne e] at ndx; exact ndx
  · have nd : H1 dx = none := by rw [upd_ne ne] at ndx; exact ndx
    refine q dx _ (fun b o eb => ?_) nd upd_same
    have h1 : b ≠ a := ne_of_none eb na
    have h2 : b ≠ dx := ne_of_none eb nd
    rw [upd_ne h2]
    unfold del
    rw [if_neg h1, upd_ne h1, upd_ne h2, upd_ne h1]
    exact eb
/-! ### what stays when a lambda is made -/
theorem extN_seq {K : PySem.W.Frag} {H H' : Hp} (e : LamX.ExtN H H') {a : Addr} {xs : List V} (h : SqL K H a xs) : SqL K H' a xs := by
  rcases h with (h | ⟨o, h⟩) | h
  · exact .inl (.inl (e _ _ h fun _ z => nomatch z))
  · exact .inl (.inr ⟨o, e _ _ h fun _ z => nomatch z⟩)
  · exact .inr h
theorem extN_tup {K : PySem.W.Frag} {H H' : Hp} (e : LamX.ExtN H H') {a : Addr} {xs : List V} (h : SqT K H a xs) : SqT K H' a xs := by
  rcases h with (h | ⟨o, h⟩) | h
  · exact .inl (.inl (e _ _ h fun _ z => nomatch z))
  · exact .inl (.inr ⟨o, e _ _ h fun _ z => nomatch z⟩)
  · exact .inr h
theorem Dq.extN {K : PySem.W.Frag} {H H' : Hp} (e : LamX.ExtN H H') {v : V} {d : PyData} (h : Dq K H v d) : Dq K H' v d := by
  refine Dq.rec (motive_1 := fun v d _ => Dq K H' v d) (motive_2 := fun vs ds _ => DqAll K H' vs ds) ?_ ?_ ?_ ?_ ?_ ?_ ?_ ?_ ?_ h
  · exact .nonq
  · intro b; exact .blq b
  · intro i; exact .intq i
  · intro x; exact .strq x
  · intro a xs ds hs hne _ ih; exact .lstq (extN_seq e hs) hne ih
  · intro a xs ds hs _ ih; exact .tupq (extN_tup e hs) ih
  · intro a kvs des he hk _ ih; exact .dctq (e _ _ he fun _ z => nomatch z) hk ih
  · exact .nil
  · intro v vs d ds _ _ h1 h2; exact .cons h1 h2
theorem tabs_but {T : List (Addr × Str)} {H H' : Hp} {a : Addr} {xs : List V} (t : LamX.Tabs T H) (b : But a H H') (h : H a = some (.lst xs)) : LamX.Tabs T H' := fun p hp => by
  obtain ⟨ps, h1, h2, h3⟩ := t p hp
  refine ⟨ps, b _ _ (fun z => by rw [z, h] at h1; cases h1) h1, h2, fun pos cv hc => ?_⟩
  obtain ⟨c, e1, e2⟩ := h3 pos cv hc
  refine ⟨c, e1, b _ _ (fun z => ?_) e2⟩
  rw [z, h] at e2
  have e3 := Option.some.inj e2
  unfold LamX.CodeO at e3
  cases e3
theorem Tabs.same {T : List (Addr × Str)} {H H' : Hp} (t : LamX.Tabs T H) (s : Same H H') : LamX.Tabs T H' := LamX.Tabs.ext t s
/-! ### bs.count(True) -/
theorem dpBs {K : PySem.W.Frag} {H : Hp} : ∀ (bs : List Bool), DpAll K H (bs.map V.bl) (bs.map PyData.bool)
  | [] => .nil
  | b :: bs => .cons (.bl b) (dpBs bs)
def rCountB (K : PySem.W.Frag) : V → List V → Hp → VK → Prop := fun x xs H Q => ∃ (a : Addr) (bs : List Bool), x = .ref a ∧ xs = [.bl true] ∧ SqL K H a (bs.map V.bl) ∧ Q (.int (bs.countP id : Nat)) H
theorem mt_countB {X : Cx} (hu : X.A.units + 65 < cLine) : MtR X "list.count" (rCountB X.K) := by
  intro pins s σ H x xs v us Q I rx rxs h
  obtain ⟨a, bs, rfl, rfl, hs, q⟩ := h
  cases rx
  cases rxs with
  | cons ry rt =>
    rename_i uy ut
    cases rt
    cases ry
    obtain ⟨its, rv, ⟨o, n, ho, hc, hdn, hdt⟩, hlen⟩ := I.list hs
    obtain ⟨as, h4⟩ := Dp.readsAll I (bs.map PyData.bool) _ its (dpBs bs) rv
    have pl : ∀ l : List Bool, PyData.plainAll (l.map PyData.bool) = true := fun l => by
      induction l with
      | nil => rfl
      | cons b l ih => simp [PyData.plainAll, PyData.plain, ih]
    have dp : ∀ l : List Bool, PyData.depthAll (l.map PyData.bool) = 0 := fun l => by
      induction l with
      | nil => rfl
      | cons b l ih => simp [PyData.depthAll, PyData.depth, ih]
    refine SeqAt.count_list_data (xs := bs.map PyData.bool) (vs := its.toArray) (d := .bool true) ⟨o, ho, hc, n, hdt⟩ (by simpa using h4) (.bool true) (pl bs) rfl (by rw [dp]; omega) ?_
    have e : (bs.map PyData.bool).countP (fun y => PyData.eqv y (.bool true)) = bs.countP id := by
      rw [List.countP_map]
      congr 1
      funext b
      cases b <;> rfl
    rw [e]
    exact ⟨.int (bs.countP id : Nat), H, I.tok _, ⟨_, rfl⟩, q⟩
end MB

set_option maxHeartbeats 4000000
namespace MB
open PySem PySem.Spec PyProof.Rows L2
/-- a law's call: no repr is under way, sysModules is tracked, and so are the tables ts of code objects (cs: code object and table) -/
theorem law_callT {P : Program} {w : World} {K : PySem.W.Frag} {mg mb : Str → Option Value} {k : Nat} {fa a : Addr} {fd : FuncData} {x : Str} {sp : Sp} {s₁ : Shared} {vs : List Value} {ns : List Int} {oY : Obj} {cs : List (Addr × Addr)}
    (hKs : K.lookup sysModules = none) (hsy : s₁.heap.get? sysModules = some oY) (hyT : ∀ p ∈ cs, p.2 ≠ sysModules) (hna : a ≠ sysModules) (KX : K.In s₁.heap) (hns : s₁.heap.Ns mainGlobals mg) (hb : s₁.heap.Ns builtinsNs mb)
    (hbb : ∀ x : Str, x ≠ "__name__" → mb x = bootBuiltins x) (hlim : s₁.heap.NoLimit) (hg : s₁.gens = #[])
    (hT : ∀ p ∈ cs, s₁.heap.get? p.2 = some { cls := .none, data := .fields #[] }) (nT : ∀ p ∈ cs, K.lookup p.2 = none) (hC : ∀ p ∈ cs, PySem.W.CodeHd s₁.heap p.1 p.2) (hCy : ∀ p ∈ cs, p.1 ≠ sysModules)
    (hbm : ∃ (bm : Addr) (ob : Obj), mg "__builtins__" = some (.ref bm) ∧ bm ≠ builtinsNs ∧ s₁.heap.get? bm = some ob ∧ ob.cls = .type "module" ∧ ob.dict = some builtinsNs ∧ ob.data = .plain)
    (hyd : ∃ es ep, oY.data = .dict es ep)
    (ha : s₁.heap.get? a = some { cls := .type "list", data := .seq vs.toArray }) (hi : IntsAre vs ns) (hl : ns.length ≤ sizeLine) (hr : Room k callerA)
    (F : ∀ base : Heap, K.In base → base.Ns mainGlobals mg → (∀ p ∈ cs, LamX.TabB base mg p.1 p.2) → FnG P w K mg base CX0 k fa fd [x] sp) (hbind : ∀ (s : Shared) (u : Value), BindsTo s fd ⟨[u], []⟩ [(x, u)])
    (hsp : ∀ (H : Hp) (o : HO), SqL K H a (ns.map V.int) → H sysModules = some o → (∀ ps, o ≠ .tbl ps) → (∀ p ∈ cs, H p.2 = some (.tbl #[])) → sp [.ref a] H (fun v _ => v = .bl true) fun _ _ _ => False) :
    codeAny (model P w) callerA (.call (.ref fa) ⟨[.ref a], []⟩) (fun r s' => r = .ok (.ret (.bool true)) ∧ OldK s₁.heap s'.heap ∧ s'.os = s₁.os ∧ AllBare s'.gens) s₁ := by
  let oS : Obj := { cls := .type "list", data := .seq vs.toArray }
  let H : Hp := fun b => if b = a ∧ K.lookup a = none then some (.frz oS (.lst (ns.map V.int))) else if b = sysModules then some (sysO oY) else if b ∈ cs.map (·.2) then some (.tbl #[]) else none
  have isT : ∀ b : Addr, b ∈ cs.map (·.2) → s₁.heap.get? b = some { cls := .none, data := .fields #[] } ∧ K.lookup b = none ∧ b ≠ sysModules := fun b hb => by
    obtain ⟨p, hp, rfl⟩ := List.mem_map.mp hb
    exact ⟨hT p hp, nT p hp, hyT p hp⟩
  have aT : a ∉ cs.map (·.2) := fun z => by
    have q := (isT a z).1
    rw [ha] at q
    cases q
  have Ha : K.lookup a = none → H a = some (.frz oS (.lst (ns.map V.int))) := fun hk => if_pos ⟨rfl, hk⟩
  have Hy : H sysModules = some (sysO oY) := (if_neg fun z => hna z.1.symm).trans (if_pos rfl)
  have Ht : ∀ b, b ∈ cs.map (·.2) → H b = some (.tbl #[]) := fun b hb => (if_neg fun z => aT (by rw [← z.1]; exact hb)).trans ((if_neg (isT b hb).2.2).trans (if_pos hb))
  have rv := vals_ints hi
  have Hsome : ∀ {b : Addr} {o : HO}, H b = some o → (b = a ∧ o = .frz oS (.lst (ns.map V.int))) ∨ (b = sysModules ∧ o = sysO oY) ∨ (b ∈ cs.map (·.2) ∧ o = .tbl #[]) := fun {b o} e => by
    by_cases c : b = a ∧ K.lookup a = none
    · have e' := (if_pos c).symm.trans e
      exact .inl ⟨c.1, (Option.some.inj e').symm⟩
    · by_cases c2 : b = sysModules
      · rw [c2, Hy] at e; exact .inr (.inl ⟨c2, (Option.some.inj e).symm⟩)
      · by_cases c3 : b ∈ cs.map (·.2)
        · rw [Ht b c3] at e; exact .inr (.inr ⟨c3, (Option.some.inj e).symm⟩)
        · have e' : H b = none := (if_neg c).trans ((if_neg c2).trans (if_neg c3))
          rw [e'] at e; cases e
  have hfree : ∀ {b : Addr}, (b = a → K.lookup a ≠ none) → b ≠ sysModules → b ∉ cs.map (·.2) → H b = none := fun {b} c c2 c3 => (if_neg fun z => c z.1 z.2).trans ((if_neg c2).trans (if_neg c3))
  have hS : SqL K H a (ns.map V.int) := by
    cases hk : K.lookup a with
    | none => exact .inl (.inr ⟨oS, Ha hk⟩)
    | some o =>
      have e := (KX a o hk).symm.trans ha
      cases e
      exact .inr ⟨_, vs.toArray, _, hk, rfl, rfl, rfl, by rw [List.size_toArray, hi.length]; exact hl, by simpa using rv⟩
  have hok : HOk P w H s₁.heap := fun b o e => by
    rcases Hsome e with ⟨rfl, rfl⟩ | ⟨rfl, rfl⟩ | ⟨h1, rfl⟩
    · exact ⟨ha, by rw [List.length_map]; exact hl, vs, _, rv, ha⟩
    · exact ⟨hsy, hsy, ⟨_, hsy⟩, fun h1 h2 z kk => kk _ z⟩
    · exact (isT b h1).1
  have noD : ∀ {b : Addr} {o : Obj}, s₁.heap.get? b = some o → b ≠ sysModules → (∀ us n, o.data ≠ .seq us n) → o.data ≠ .fields #[] → H b = none := fun {b o} e c h1 h2 => hfree (fun z => by
      rw [z, ha] at e
      cases e
      exact (h1 _ _ rfl).elim) c fun z => by
      rw [(isT b z).1] at e
      cases e
      exact h2 rfl
  have ns_hid : ∀ {b : Addr} {m : Str → Option Value}, b ≠ sysModules → s₁.heap.Ns b m → (hidT s₁.heap H).Ns b m := fun {b m} hb x => by
    obtain ⟨o, es, ep, e, d, r⟩ := x
    exact ⟨o, es, ep, hidT_get e (noD e hb (fun us n z => by rw [d] at z; cases z) fun z => by rw [d] at z; cases z), d, r⟩
  have hKb : K.In (hidT s₁.heap H) := fun b o e => hidT_get (KX b o e) (hfree (fun z => by rw [z] at e; rw [e]; exact fun y => nomatch y) (fun z => by rw [z, hKs] at e; cases e) fun z => by rw [(isT b z).2.1] at e; cases e)
  have hM : Mod K mg (hidT s₁.heap H) := ⟨hKb, ns_hid (by decide) hns, ⟨mb, ns_hid (by decide) hb, hbb⟩, let ⟨mc, h1, h2⟩ := hlim; ⟨mc, ns_hid (by decide) h1, h2⟩⟩
  have TB : ∀ p ∈ cs, LamX.TabB (hidT s₁.heap H) mg p.1 p.2 := fun p hp => by
    have hTp := hT p hp
    refine ⟨?_, ?_, fun z => ?_⟩
    · obtain ⟨o, us, file, tf, flags, tg, inF, text, tt, e1, r1, r2, r3, r4⟩ := hC p hp
      refine ⟨o, us, file, tf, flags, tg, inF, text, tt, hidT_get e1 (noD e1 (hCy p hp) (fun us' n z => ?_) fun z => ?_), r1, r2, r3, r4⟩
      · rw [r2] at z; cases z
      · rw [r2] at z; cases z; simp at r3
    · obtain ⟨bm, ob, b1, b2, b3, b4, b5, b6⟩ := hbm
      have nY : bm ≠ sysModules := fun q => by
        obtain ⟨es, ep, hd⟩ := hyd
        rw [q, hsy] at b3
        cases b3
        rw [hd] at b6; cases b6
      have nG : bm ≠ mainGlobals := fun q => by
        obtain ⟨o, es, ep, e, hd, _⟩ := hns
        rw [q, e] at b3
        cases b3
        rw [hd] at b6; cases b6
      have nP : bm ≠ p.2 := fun q => by rw [q, hTp] at b3; cases b3; cases b6
      exact ⟨bm, ob, b1, b2, nG, nP, hidT_get b3 (noD b3 nY (fun us' n z => by rw [b6] at z; cases z) fun z => by rw [b6] at z; cases z), b4, b5, b6⟩
    · obtain ⟨o, es, ep, e, hd, _⟩ := hns
      rw [z, hTp] at e
      cases e
      cases hd
  have e0 : Env0 P w K mg (hidT s₁.heap H) callerA [] s₁ H := ⟨rfl, hM, fun b o e => of_hidT e, Nat.le_of_eq (hidT_size _ _), trivial, (fun b hb => absurd (show b ∈ ([] : List Addr) from hb) (by simp)), hok, .of_eq hg⟩
  refine codeAny_mono ((F _ hKb (ns_hid (by decide) hns) TB).run callerA rfl hr [] s₁ H ⟨[.ref a], []⟩ [.ref a] [.ref a] _ _ e0 (hbind s₁ (.ref a)) (.cons rfl .nil) (hsp H _ hS Hy (fun ps z => by unfold sysO at z; cases z) fun p hp => Ht _ (List.mem_map.mpr ⟨p, hp, rfl⟩))) fun r s' h => ?_
  rcases r with e | fl
  · exact False.elim h
  rcases fl with _ | _ | _ | u
  · exact False.elim h
  · exact False.elim h
  · exact False.elim h
  obtain ⟨v, H', os, bare, un, hok', r', q⟩ := h
  have q' : v = .bl true := q
  subst q'
  obtain rfl : u = Value.bool true := r'
  have key : ∀ b o, b ∉ cs.map (·.2) → s₁.heap.get? b = some o → s'.heap.get? b = some o := fun b o nb e => by
    cases hb' : H b with
    | none => exact un.keep b o e hb' (fun z => absurd (show b ∈ ([] : List Addr) from z) (by simp)) (by simp)
    | some u =>
      rcases Hsome hb' with ⟨rfl, rfl⟩ | ⟨rfl, rfl⟩ | ⟨h1, _⟩
      · have e2 := (hok' _ _ (un.frzs _ oS _ hb')).1
        rw [ha] at e
        cases e
        exact e2
      · have e2 := (hok' _ _ (un.frzs _ oY _ hb')).1
        rw [hsy] at e
        cases e
        exact e2
      · exact absurd h1 nb
  have grown : ∀ p ∈ cs, ∃ more : Array Value, s'.heap.get? p.2 = some { cls := .none, data := .fields more } := fun p hp => by
    obtain ⟨more, z⟩ := un.tbls p.2 #[] (Ht _ (List.mem_map.mpr ⟨p, hp, rfl⟩))
    exact ⟨_, hok' p.2 _ z⟩
  refine ⟨rfl, ⟨fun b o e => ?_, fun b o e => ?_⟩, os, bare⟩
  · by_cases hb : b ∈ cs.map (·.2)
    · obtain ⟨p, hp, rfl⟩ := List.mem_map.mp hb
      obtain ⟨more, hm⟩ := grown p hp
      rw [hT p hp] at e
      cases e
      exact .inr (.inl ⟨((hC p hp).tab (hT p hp)).isCodeTable, rfl, #[], more, rfl, by rw [Array.empty_append]; exact hm⟩)
    · exact .inl (key b o hb e)
  · by_cases hb : b ∈ cs.map (·.2)
    · obtain ⟨p, hp, rfl⟩ := List.mem_map.mp hb
      obtain ⟨more, hm⟩ := grown p hp
      exact ⟨_, hm⟩
    · exact ⟨o, key b o hb e⟩
theorem walk_ofT {l : PySem.W.OpenLaw} {n k : Nat} {q : Program} {loose : List Str} {XP : (Str → Option Value) → Heap → Prop} {YP : World → Heap → Prop} {d : DefRec} {K : Params → PySem.W.Frag} {sp : PySem.W.Frag → List (Addr × Addr) → Sp} {x : Str}
    (hn : l.most = some n) (hn2 : n ≤ sizeLine) (hdf : d.params.defaults = []) (hr : Room k callerA) (him : importsNone q = true) (hKs : ∀ p, (K p).lookup sysModules = none)
    (hY : ∀ (w : World) (h : Heap), YP w h → (K w.params).In h)
    (F : ∀ (w : World) (mg : Str → Option Value) (fa : Addr) (h : Heap), YP w h → (K w.params).In h → h.Ns mainGlobals mg → mg d.name = some (.ref fa) →
      ∃ (fd : FuncData) (cs : List (Addr × Addr)), (∀ p ∈ cs, h.get? p.2 = some { cls := .none, data := .fields #[] }) ∧ (∀ p ∈ cs, (K w.params).lookup p.2 = none) ∧ (∀ p ∈ cs, PySem.W.CodeHd h p.1 p.2) ∧ (∀ p ∈ cs, p.1 ≠ sysModules ∧ p.2 ≠ sysModules) ∧ (∀ (s : Shared) (u : Value), BindsTo s fd ⟨[u], []⟩ [(x, u)]) ∧
        (∀ base : Heap, (K w.params).In base → base.Ns mainGlobals mg → (∀ p ∈ cs, LamX.TabB base mg p.1 p.2) → FnG l.prog w (K w.params) mg base CX0 k fa fd [x] (sp (K w.params) cs)) ∧
        ∀ (H : Hp) (a : Addr) (ns : List Int) (o : HO), ns.length ≤ n → SqL (K w.params) H a (ns.map V.int) → H sysModules = some o → (∀ ps, o ≠ .tbl ps) → (∀ p ∈ cs, H p.2 = some (.tbl #[])) → sp (K w.params) cs [.ref a] H (fun v _ => v = .bl true) fun _ _ _ => False) :
    PySem.W.WalkO q loose XP YP l.row.toRowW d [] (fun f vs => PySem.call f vs) :=
  Att.attach_call hn hdf fun w s₀ s₁ mg mb fa o pm cd doc a vs ns G Y ho hd hcd hmg hobj hints hlen hg =>
    have KX := hY w _ Y
    let ⟨fd, cs, hT, nT, hC, hy, hb, hF, hsp⟩ := F w mg fa _ Y KX G.T.g hmg
    let ⟨mm, hmm, _⟩ := (G.T.seer him).mods
    let ⟨oY, es, ep, eY, dY, _⟩ := hmm
    law_callT (hKs w.params) eY (fun p hp => (hy p hp).2) (fun z => by rw [z, eY] at hobj; cases hobj; cases dY) KX G.T.g G.T.b G.T.builtins G.T.nolimit hg hT nT hC (fun p hp => (hy p hp).1) G.T.bmain ⟨es, ep, dY⟩ hobj hints (Nat.le_trans hlen hn2) hr hF hb fun H o hS hyy hoo hTT => hsp H a ns o hlen hS hyy hoo hTT
end MB

set_option maxHeartbeats 4000000
namespace MB
open PySem PySem.Spec PyProof.Rows L2
/-! ### a lambda handed to a def, whose handler reads the def's own names: what the call lets out is told at the slots of the call -/
section
variable {X : Cx} {pins : List (Addr × Obj)} {σ : L2.St} {H : Hp} {s : Shared}
theorem pe_actE {CXg : CXT} {Eg : XK} {Ng : List Str} {qg : Str} {sg : Scope} {g f c' : Addr} {cdg pm ctv : Value} {params : Arguments} {body : Expr} {scope : Scope} {k i : Nat} {a : Str} {pn : List (Addr × Obj)} {xe : Value → Shared → Prop} {W : WX} {E : XK} {tb : TE} {p1 p2 : Pos}
    (I : Inv X pins σ H s) (L : LamX.LamS X.env.scope scope) (hf : s.heap.get? f = some (PySem.W.kla_obj "<lambda>" (X.env.qual ++ "<lambda>") params body scope (cloFrom X.env.cells scope.names []) pm c' ctv)) (hfn : H f = none) (hfr : f ∉ frs X.stack)
    (bnd : bindArgs (PySem.W.kla_fn "<lambda>" (X.env.qual ++ "<lambda>") params body scope (cloFrom X.env.cells scope.names []) pm (.ref c') ctv) ⟨[], []⟩ = pure [])
    (tk : Takes ((cxOf CXg X.prog X.w X.K X.mg X.base Ng qg sg g cdg X.A X.stack s H Eg).tr pn xe) W) (hr : Room (k + 1) (X.A.deeper (envOfC qg sg s.heap.objs.size g cdg)))
    (bodyOk : ∀ (A : Around) (outer : List Env) (s : Shared) (H : Hp), Room k (A.deeper (LamX.lamEnv X scope s.heap.objs.size f c')) → PE (LamX.lamCx X A outer s H E scope f c') body tb)
    (hN : Ng[i]? = some a) (vis : Vis sg a) (hd : (a == ("__debug__" : Str)) = false := by decide) (hcd : (a == ("__classdict__" : Str)) = false := by decide) :
    PE ((cxOf CXg X.prog X.w X.K X.mg X.base Ng qg sg g cdg X.A X.stack s H Eg).tr pn xe) (.Call (.Name a p1) [] [] p2)
      (fun σ2 H2 Q => σ2[i]? = some (some (.ref f)) ∧ H2 c' = some (LamX.CodeO c' (X.env.qual ++ "<lambda>")) ∧ (∀ cls d H', E cls d H' → W cls d σ2 H') ∧ tb σ H2 Q) :=
  ⟨fun pins2 s2 σ2 H2 Q J ⟨hs, hc, hW, ht⟩ => wpAny_Call_Name_kw (thn ((pe_var (pos := p1) (i := i) hN vis hd hcd).run pins2 s2 σ2 H2 (fun v G => v = .ref f ∧ G = H2) J ⟨.ref f, hs, rfl, rfl⟩) fun u s1 ⟨v, H1, J1, r1, ev, eH⟩ => by
    subst ev eH
    obtain rfl : u = Value.ref f := r1
    have kf := J1.base.keep f _ hf hfn hfr (fun z => nomatch (show f ∈ ([] : List Addr) from z))
    have un : Un (frs X.stack) [] H H1 s.heap s1.heap := J1.base
    obtain ⟨⟨oc, vs, t, q1, q2, q3⟩, _, _⟩ := J1.hok c' _ hc
    have run : codeAny (model X.prog X.w) (X.A.deeper (envOfC qg sg s.heap.objs.size g cdg)) (.call (.ref f) ⟨[], []⟩) (CR (L2.CX X.prog X.w) (envOfC qg sg s.heap.objs.size g cdg :: X.stack) X.prog X.w H1 s1 Q E) s1 := by
      refine PySem.W.kla_callFunE hr.depth kf rfl L.co L.gen rfl ⟨c', oc, vs, t, rfl, q1, q2, q3⟩ ?_
      rw [bnd]
      refine wpAny_pure (wpAny_newFunctionEnv (fun y hy => (L.own y hy).2) (fun y hy => absurd hy (by simp)) (fun h₁ n1 n2 => ⟨J1.nolimit.fresh _ n2, show codeAny _ _ (.expr body (LamX.lamEnv X scope s1.heap.objs.size f c')) _ _ from ?_⟩) L.kind)
      have st : Inv (LamX.lamCx X (X.A.deeper (envOfC qg sg s.heap.objs.size g cdg)) (envOfC qg sg s.heap.objs.size g cdg :: X.stack) s1 H1 E scope f c') [] σ H1 { s1 with heap := h₁, toks := s1.toks + ([] : List (Str × Value)).length } :=
        LamX.lam_start2 I L J1.env0 hr.hd un n1 fun b o e => n2.extBut b o (Nat.ne_of_lt (Heap.lt_size e)) (Heap.get?_push_of_some _ e)
      exact PySem.W.kla_codeExpr (wpAny_mono ((bodyOk _ _ s1 H1 (hr.deeper _)).run [] _ _ H1 Q st ht) (fun v s' ⟨y, H', J', rv, z⟩ => ⟨y, H', J'.os, J'.bare, J'.base, J'.hok, rv, z⟩) fun e s' z => z)
    refine PySem.W.callWith_F0 ⟨_, _, _, _, kf⟩ (wpAny_call (codeAny_mono run fun r s' z => ?_))
    rcases r with e | fl
    · exact tk e s' (XE.of_call J1 (fun cls d H' h => hW cls d H' h) z)
    · rcases fl with _ | _ | _ | u
      · exact False.elim z
      · exact False.elim z
      · exact False.elim z
      · exact J1.after z)⟩
end
/-- the def that calls what it got, TT: what it makes of the lambda's reading -/
def GivesE (X : Cx) (Ng : List Str) (x : Str) (sg : Scope) (g : Addr) (cdg : Value) (bg : List Stmt) (a : Str) (q : Str) (TT : (XK → Hp → VK → Prop) → Hp → VK → Prop) : Prop :=
  ∀ (f c' : Addr) (s : Shared) (H : Hp) (Q : VK) (tl : XK → Hp → VK → Prop),
    (∀ (W : WX) (pn : List (Addr × Obj)) (xe : Value → Shared → Prop) (E : XK) (p1 p2 : Pos), Takes ((cxOf CX0 X.prog X.w X.K X.mg X.base Ng x sg g cdg X.A X.stack s H E0).tr pn xe) W →
      PE ((cxOf CX0 X.prog X.w X.K X.mg X.base Ng x sg g cdg X.A X.stack s H E0).tr pn xe) (.Call (.Name a p1) [] [] p2) (fun σ2 H2 Q => σ2[0]? = some (some (.ref f)) ∧ H2 c' = some (LamX.CodeO c' q) ∧ (∀ cls d H', E cls d H' → W cls d σ2 H') ∧ tl E H2 Q)) →
    H c' = some (LamX.CodeO c' q) → TT tl H Q →
    ∃ t, PSs (cxOf CX0 X.prog X.w X.K X.mg X.base Ng x sg g cdg X.A X.stack s H E0).nox bg t ∧ t { nx := fun _ H' => Q .non H', rt := Q } (L2.start Ng [.ref f]) H
section
variable {X : Cx}
/-- x(lambda: body) -/
theorem pe_lamE {T : List (Addr × Str)} {TT : (XK → Hp → VK → Prop) → Hp → VK → Prop} {x a : Str} {g c P : Addr} {k : Nat} {pg : Arguments} {bg : List Stmt} {sg : Scope} {dV kV doc pm cdv ct oc : Value} {an od : Option Addr} {osl : Array (Option Value)} {Ng : List Str}
    {params : Arguments} {body : Expr} {scope : Scope} {t : XK → TE} {p lpos pos : Pos} (hg : Gl X x) (hm : X.mg x = some (.ref g)) (hk : PySem.W.keepIn X.K (.ref g) = true)
    (lk : X.K.lookup g = some ⟨oc, od, .func (PySem.W.fnOf x x pg bg sg dV kV doc pm an cdv ct), osl⟩) (hcg : PySem.W.codeIn X.K cdv x = true) (hb : L2.Binds X.K (PySem.W.fnOf x x pg bg sg dV kV doc pm an cdv ct) [a] []) (Sg : FnScope Ng [a] sg) (hNg : Ng[0]? = some a) (hva : Vis sg a)
    (hG : GivesE X Ng x sg g cdv bg a (X.env.qual ++ "<lambda>") TT)
    (TB : LamX.TabB X.base X.mg c P) (hcode : X.env.code = .ref c) (hmT : (P, X.env.qual ++ "<lambda>") ∈ T) (hu : ∀ p ∈ T, p.1 = P → p.2 = X.env.qual ++ "<lambda>") (hr : Room (k + 2) X.A) (L : LamX.LamS X.env.scope scope) (hdef : defaultsOf params X.env = ([], []))
    (hbind : ∀ (q : Str) (cl : List (Str × Addr)) (pm cv ctv : Value), bindArgs (PySem.W.kla_fn "<lambda>" q params body scope cl pm cv ctv) ⟨[], []⟩ = pure [])
    (hbody : ∀ (A : Around) (outer : List Env) (s : Shared) (H : Hp) (E : XK) (f c' : Addr), Room k (A.deeper (LamX.lamEnv X scope s.heap.objs.size f c')) → PE (LamX.lamCx X A outer s H E scope f c') body (t E))
    (hdb : (x == ("__debug__" : Str)) = false := by decide) (hd : (a == ("__debug__" : Str)) = false := by decide) (hcd : (a == ("__classdict__" : Str)) = false := by decide) :
    PE X (.Call (.Name x p) [.Lambda params body scope lpos] [] pos) (LamX.tLam T TT t) :=
  ⟨fun pins s σ H Q I ⟨hT, h⟩ => wpAny_Call_Name_kw (ld_glob I hg hm (PySem.W.callWith_K (h₀ := X.base) I.ok.mod.kin hk
      (show wpAny _ _ (spliced ((false, eval (.Lambda params body scope lpos) X.env) :: backTo pos (starEach [] X.env))) _ _ s from Calls.spliced_cons (LamX.lam_make2 I TB hcode hmT hu hT hdef (L.has I.ok) fun f c' pm' ctv H1 s1 J eN T1 hf hfn hfr hco => Calls.spliced_nil ⟨J.kIn, by
        have run : codeAny (model X.prog X.w) X.A (.call (.ref g) ⟨[.ref f], []⟩) (CR CX0 X.stack X.prog X.w H1 s1 Q E0) s1 := by
          refine LamX.run_ofS (N := Ng) (ps := [a]) (us := [.ref f]) (vs := [.ref f]) lk hcg Sg hr J.env0 (hb s1 [.ref f] J.kIn rfl) (.cons rfl .nil) rfl fun hr' => ?_
          obtain ⟨t', g1, g2⟩ := hG f c' s1 H1 Q (fun E H' Q' => t E σ H' Q') (fun W pn xe E p1 p2 tk => pe_actE (i := 0) J L hf hfn hfr (hbind _ _ _ _ _) tk hr' (fun A outer s H hr2 => hbody A outer s H E f c' hr2) hNg hva hd hcd) hco (h H1 eN T1)
          exact ⟨t', g1.nox, g2⟩
        refine wpAny_call (codeAny_mono run fun r s2 z => ?_)
        rcases r with e | fl
        · exact (show False from z).elim
        · rcases fl with _ | _ | _ | u
          · exact False.elim z
          · exact False.elim z
          · exact False.elim z
          · exact J.after z⟩)) (by rfl) (by rfl)) hdb)⟩
end
end MB

set_option maxHeartbeats 4000000
/-! ### x not in a tuple of 1-tuples of texts, for x of at most one item of any kind -/
namespace MB
open PySem PySem.Spec PyProof.Rows L2 PySem.SeqAt
section
open PySem.Builtin
theorem dict_eq_declines_str (l : Addr) (dt : Data) (dd : Option Addr) (sl : Array (Option Value)) (b : Str) (u : Tok) :
    Meets (Builtin.«dict.__eq__» ⟨[.ref l, .str b u], []⟩) (fun _ R s => (s.heap.get? l = some { cls := .type "dict", dict := dd, data := dt, slots := sl } ∧ ∃ es k, dt = .dict es k) ∧ R (.ok (.ret .notImplemented)) s) :=
  .of_wp fun prog w A R s h => by obtain ⟨hp, g, d, tk, os⟩ := s; obtain ⟨⟨hl, es, k, rfl⟩, h⟩ := h; have f1 := F.sub_str_dict; wp_walk using wpAny_loadPart' hl, wpAny_load hl; exact ⟨_, rfl, h⟩
theorem str_eq_declines_dict (b : Str) (u : Tok) (l : Addr) (dt : Data) (dd : Option Addr) (sl : Array (Option Value)) :
    Meets (Builtin.«str.__eq__» ⟨[.str b u, .ref l], []⟩) (fun _ R s => (s.heap.get? l = some { cls := .type "dict", dict := dd, data := dt, slots := sl } ∧ ∃ es k, dt = .dict es k) ∧ R (.ok (.ret .notImplemented)) s) :=
  .of_wp fun prog w A R s h => by obtain ⟨hp, g, d, tk, os⟩ := s; obtain ⟨⟨hl, es, k, rfl⟩, h⟩ := h; wp_walk using wpAny_loadPart' hl, wpAny_load hl; exact ⟨_, rfl, h⟩
theorem eqAt_str_dict {A : Around} {s : Shared} {l : Addr} {dt : Data} {dd : Option Addr} {sl : Array (Option Value)} {es : _} {k : _} (b : Str) (u : Tok) (ho : s.heap.get? l = some { cls := .type "dict", dict := dd, data := dt, slots := sl }) (hd : dt = .dict es k) (hu : A.units < cLine) : EqAt A s (.str b u) (.ref l) false := fun prog w E Q h => by
  have rc : RcAt A s (.str b u) (.ref l) false := fun prog w E Q h =>
    rc_eq_decline_or (k := false) (typeIs_str s b u) ⟨_, ho, rfl⟩ (by decide) F.sub_dict_str F.slot_str_eq F.slot_dict_eq_refl
      (fun _ hq => call_meets F.slot_str_eq (typeIs_str s b u) F.entry_str_eq (F.args_str_eq_2 _ _) (str_eq_declines_dict b u l dt dd sl) ⟨⟨ho, _, _, hd⟩, hq⟩)
      (fun _ hq => call_meets F.slot_dict_eq_refl ⟨_, ho, rfl⟩ F.entry_dict_eq (F.args_dict_eq_2 _ _) (dict_eq_declines_str l dt dd sl b u) ⟨⟨ho, _, _, hd⟩, hq⟩)
      (fun _ hq => wpAny_of_eq (rfl : isSame (.str b u) (.ref l) = pure false) hq) (.inr hu) h
  unfold eqBool
  refine wpAny_holding ?_
  refine wpAny_ite_split (fun hab => absurd (eq_of_beq hab) nofun) (fun _ => ?_)
  exact wpAny_bind (rc prog w E _ (wpAny_truthy_bool h))
end
def strIs (z : Str) : PyData → Bool
  | .str y => z == y
  | _ => false
def oneIs (ds : List PyData) (z : Str) : Bool := match ds with
  | [d] => strIs z d
  | _ => false
/-- a text compared with a value of any kind -/
theorem eqAt_str_any {A : Around} {s : Shared} {v : Value} {d : PyData} {as : List Addr} (z : Str) (u : Tok) (r : Reads s.heap v d as) (hu : A.units < cLine) : EqAt A s (.str z u) v (strIs z d) := by
  cases r with
  | none => exact EqAt.str_none z u
  | bool b => exact EqAt.str_bool z u b
  | int i t => exact EqAt.str_int z u i t
  | str y t => exact EqAt.str_str z u y t
  | @list a o vs n xs as h1 h2 h3 h4 =>
    exact EqAt.str_list z u ⟨o, h1, h2, n, h3⟩ hu
  | @tuple a o vs n xs as h1 h2 h3 h4 =>
    exact EqAt.str_tuple z u ⟨o, h1, h2, n, h3⟩ hu
  | @dict a o es n kvs as bs h1 h2 h3 h4 h5 =>
    obtain ⟨cls, dd, data, sl⟩ := o
    simp only at h2 h3
    subst h2
    exact eqAt_str_dict z u h1 h3 hu
theorem valsMem {xs : List V} {us : List Value} (h : Vals xs us) {y : Value} (hy : y ∈ us) : ∃ v ∈ xs, RelV v y := by
  induction h with
  | nil => cases hy
  | cons r t ih =>
    rcases List.mem_cons.mp hy with rfl | hy
    · exact ⟨_, List.mem_cons_self .., r⟩
    · obtain ⟨v, h1, h2⟩ := ih hy
      exact ⟨v, List.mem_cons_of_mem _ h1, h2⟩
/-- x, a tuple of at most one item, not in a tuple of 1-tuples of texts -/
def rNotIn1 (K : PySem.W.Frag) : R2 := fun x y H Q => ∃ (a b : Addr) (xs : List V) (ds : List PyData) (ps : List Addr) (f : Addr → Str), x = .ref a ∧ y = .ref b ∧ SqT K H a xs ∧ DqAll K H xs ds ∧ xs.length ≤ 1 ∧ SqT K H b (ps.map V.ref) ∧ (∀ p ∈ ps, SqT K H p [.str (f p)]) ∧ Q (.bl (!(ps.any fun p => oneIs ds (f p)))) H
theorem op_notIn1 {X : Cx} {K : PySem.W.Frag} (hK : X.K = K) (hu : X.A.units + 64 < cLine) : OpR X (compareOp .NotIn) (rNotIn1 K) := by
  subst hK
  intro pins s σ H x y v u Q I rx ry h
  obtain ⟨a, b, xs, ds, ps, f, rfl, rfl, ha, hds, hl, hb, hps, q⟩ := h
  cases rx; cases ry
  obtain ⟨its, ra, ta, hz⟩ := I.tuple ha
  clear hz
  obtain ⟨jts, rb, tb, hz⟩ := I.tuple hb
  clear hz
  have hlen := ra.length
  have hj : ∀ y, y ∈ jts → ∃ p ∈ ps, y = .ref p := by
    intro y hy
    obtain ⟨v, hv, r⟩ := valsMem rb hy
    obtain ⟨p, hp, rfl⟩ := List.mem_map.mp hv
    cases r
    exact ⟨p, hp, rfl⟩
  have e : ∀ p, p ∈ ps → EqAt X.A.in1 s (.ref p) (.ref a) (oneIs ds (f p)) := fun p hp => by
    have hp1 := hps p hp
    obtain ⟨kts, rp, tp, _⟩ := I.tuple hp1
    by_cases hne : p = a
    · subst hne
      have ei : kts = its := by
        obtain ⟨o1, a1, a2, n1, a3⟩ := tp
        obtain ⟨o2, b1, b2, n2, b3⟩ := ta
        rw [a1] at b1
        cases b1
        rw [a3] at b3
        have := (Data.seq.inj b3).1
        simpa using this
      subst ei
      cases rp with
      | cons r t =>
        cases t
        obtain ⟨tk, rfl⟩ := r
        cases ra with
        | @cons v _ _ _ rw t =>
          cases t
          cases hds with
          | cons hd hds =>
            cases hds
            have hv : v = .str (f p) := by
              cases v with
              | str y => obtain ⟨t2, e⟩ := rw; cases e; rfl
              | int i => obtain ⟨t2, e⟩ := rw; cases e
              | byt i => cases hd
              | flt i => cases hd
              | _ => cases rw
            subst hv
            cases hd
            have : oneIs [.str (f p)] (f p) = true := by simp [oneIs, strIs]
            rw [this]
            exact EqAt.same _
    have hkl := rp.length
    refine EqAt.of_refs hne ?_
    have hu1 : X.A.in1.units < cLine := by show X.A.units + 1 < cLine; omega
    have hu2 : X.A.in1.in1.units < cLine := by show X.A.units + 1 + 1 < cLine; omega
    cases hds with
    | nil =>
      cases ra
      have := RcAt.tuples (A := X.A.in1) (s := s) (items := kts.toArray) (items2 := #[]) (e := fun _ => true) tp ta hu1 (fun j h1 h2 => absurd h2 (by simp))
      cases rp with
      | cons r t => cases t; exact this
    | @cons v vs d ds hd hds =>
      have : vs = [] := by simp at hl; exact hl
      subst this
      cases hds
      cases ra with
      | @cons _ w _ _ rw t =>
        cases t
        obtain ⟨as, rd, _⟩ := Dq.reads I hd w rw
        cases rp with
        | cons r t =>
          cases t
          obtain ⟨tk, rfl⟩ := r
          have e0 := eqAt_str_any (A := X.A.in1.in1) (s := s) (f p) tk rd hu2
          have := RcAt.tuples (A := X.A.in1) (s := s) (items := #[Value.str (f p) tk]) (items2 := #[w]) (e := fun _ => strIs (f p) d) tp ta hu1 (fun j h1 h2 => by
              have hj : j = 0 := by simp at h1; exact h1
              subst hj
              exact e0)
          have h2 : ((List.range (min (#[Value.str (f p) tk] : Array Value).size (#[w] : Array Value).size)).all (fun _ => strIs (f p) d) && (#[Value.str (f p) tk] : Array Value).size == (#[w] : Array Value).size) = oneIs [d] (f p) := by simp [oneIs, List.range_succ]
          rw [← h2]
          exact this
  have key : ∀ y, y ∈ jts.toArray → EqAt X.A.in1 s y (.ref a) (match y with
      | .ref p => oneIs ds (f p)
      | _ => false) := fun y hy => by
    obtain ⟨p, hp, rfl⟩ := hj y (by simpa using hy)
    exact e p hp
  refine SeqAt.notIn_tupleAt _ tb key ⟨.bl _, H, I, rfl, ?_⟩
  have hany : (jts.toArray.any fun y => match y with
      | .ref p => oneIs ds (f p)
      | _ => false) = ps.any fun p => oneIs ds (f p) := by
    rw [← Array.any_toList]
    clear hb tb hj key hps e q
    generalize hm : ps.map V.ref = ms at rb
    induction rb generalizing ps with
    | nil => cases ps with
      | nil => rfl
      | cons p ps => cases hm
    | cons r t ih => cases ps with
      | nil => cases hm
      | cons p ps =>
        simp only [List.map_cons, List.cons.injEq] at hm
        obtain ⟨rfl, hm⟩ := hm
        cases r
        have := ih ps hm
        simp only [List.any_cons] at this ⊢
        rw [this]
  rw [hany]
  exact q
end MB

set_option maxHeartbeats 4000000
namespace MB
open PySem PySem.Spec PyProof.Rows L2
/-- tuple(range(i, j, k)) -/
def tTupR3 (ta : TA) : TE := fun σ H Q => ta σ H fun vs H1 => ∃ (i j k : Int) (n : Nat), vs = [.int i, .int j, .int k] ∧ RgC i j k n ∧ n ≤ 2 ^ 24 ∧ ∀ q, H1 q = none → Q (.ref q) (upd H1 q (.tup ((List.range n).map fun (m : Nat) => V.int (i + (m : Int) * k))))
theorem pe_tupR3 {X : Cx} {a b c : Expr} {ta : TA} {p p' pos pos' : Pos} (hc : X.calm = true) (hg : Gl X "tuple") (hm : X.mg "tuple" = none) (hg' : Gl X "range") (hm' : X.mg "range" = none) (ha : PA X [a, b, c] ta)
    (hs : starEach [a, b, c] X.env = (false, eval a X.env) :: starEach [b, c] X.env := by rfl) (hpl : (backTo pos' (starEach [b, c] X.env)).any (·.1) = false := by rfl)
    (na : starEach [.Call (.Name "range" p') [a, b, c] [] pos'] X.env = (false, eval (.Call (.Name "range" p') [a, b, c] [] pos') X.env) :: starEach [] X.env := by rfl) :
    PE X (.Call (.Name "tuple" p) [.Call (.Name "range" p') [a, b, c] [] pos'] [] pos) (tTupR3 ta) := by
  refine ⟨fun pins s σ H Q I h => ?_⟩
  refine Call_ (ld_blt I hg hm boot_tuple (PyProof.Rows.callWith_type1 (args_cons (Call_ (ld_blt I hg' hm' boot_range (PyProof.Rows.callWith_type1 (thn (ha.run pos' pins s σ H _ I h) fun us s1 ⟨vs, H1, I1, r1, q1⟩ => ?_) hs hpl))) na) na))
  obtain ⟨i, j, k, n, rfl, ⟨c0, c1, c2, c3⟩, hn, q⟩ := q1
  obtain ⟨u1, u2, u3, rfl, ⟨t1, rfl⟩, ⟨t2, rfl⟩, ⟨t3, rfl⟩⟩ : ∃ u1 u2 u3, us = [u1, u2, u3] ∧ RelV (.int i) u1 ∧ RelV (.int j) u2 ∧ RelV (.int k) u3 := by
    cases r1 with
    | cons x1 y1 => cases y1 with
      | cons x2 y2 => cases y2 with
        | cons x3 y3 => cases y3; exact ⟨_, _, _, rfl, x1, x2, x3⟩
  refine call_range_3 c0 (args_nil ?_) (.inl (PyProof.noPylong_small c1))
  have I2 : Inv X pins σ H1 { s1 with heap := s1.heap.push { cls := .type "range", data := .fields #[.int i t1, .int j t2, .int k t3] } } := I1.kept (t' := s1.toks) fun b o e => Heap.get?_push_of_some _ e
  refine call_tuple_range (n := n) (I2.ok.hd hc) (IsRange.new ..) c2 c3 hn fun h' tk acc hk hi => ?_
  have I3 : Inv X pins σ H1 { s1 with heap := h', toks := tk } := I2.kept hk
  have hv : Vals ((List.range n).map fun (m : Nat) => V.int (i + (m : Int) * k)) acc.toList := by
    have e : acc.toList.length = n := by rw [Array.length_toList]; exact hi.1
    rw [← e]
    refine vals_of_get acc.toList _ fun m u hj => ?_
    obtain ⟨t, rfl⟩ := hi.2 m u (by rw [← hj, Array.getElem?_toList])
    exact ⟨t, rfl⟩
  refine ⟨.ref h'.objs.size, _, I3.laid (o := .tup ((List.range n).map fun (m : Nat) => V.int (i + (m : Int) * k))) (t' := tk) (fun c o e => Heap.get?_push_of_some _ e) (Nat.le_refl _) ⟨?_, acc.toList, hv, ?_⟩, rfl, q _ (I3.hok.fresh (Nat.le_refl _))⟩
  · rw [List.length_map, List.length_range, sizeLine_eq]; omega
  · rw [Array.toArray_toList]; exact IsTup.new _ _
end MB

set_option maxHeartbeats 4000000
namespace MB
open PySem PySem.Spec PyProof.Rows L2
theorem blT {c : Prop} [Decidable c] (h : c) : V.bl (decide c) = V.bl true := by rw [decide_eq_true h]
theorem blF {c : Prop} [Decidable c] (h : ¬ c) : V.bl (decide c) = V.bl false := by rw [decide_eq_false h]
theorem nblF {c : Prop} [Decidable c] (h : c) : V.bl (!decide c) = V.bl false := by rw [decide_eq_true h]; rfl
theorem nblT {c : Prop} [Decidable c] (h : ¬ c) : V.bl (!decide c) = V.bl true := by rw [decide_eq_false h]; rfl
theorem int_ne {i j : Int} (h : i ≠ j) : ¬ V.int i = V.int j := fun e => h (by injection e)
theorem dp_bls_inv {K : PySem.W.Frag} {H : Hp} : ∀ {ns : List Bool} {vs : List V}, DpAll K H vs (ns.map PyData.bool) → vs = ns.map V.bl
  | [], _, .nil => rfl
  | n :: ns, _, .cons a b => by
    cases a
    rw [dp_bls_inv b]
    rfl
/-- a comprehension whose items are truth values -/
theorem lc_bools {K : PySem.W.Frag} {J : It} {n : Nat} {G : Hp → Prop} {Y : Nat → Hp → V → Hp → Prop} (w : Walk J n G Y) {g : TG} {tt : TT} {te : TE} {vs : List Nat} {σ : L2.St} {H1 : Hp} {D : Addr} {Qd : Hp → Prop}
    (bs : List Bool) (hl : bs.length = n) (hn : n ≤ 1000) (hD : H1 D = none) (hG : ∀ H, Same H1 H → G H)
    (hs : ∀ i x H H', i < n → Same H1 H → Y i H x H' → ∀ b, bs[i]? = some b → ∀ R : V → Hp → Prop, (∀ H4, Same H H4 → R (.bl b) H4) →
      g x (wipe σ vs) H' fun σ2 H2 => wipe σ2 vs = wipe σ vs ∧ tt σ2 H2 fun b H3 => b = true ∧ te σ2 H3 R)
    (hd : ∀ H, Same H1 H → H D = some (.lst (bs.map V.bl)) → Qd H)
    (mg : ∀ x σ' H' (Q Q' : L2.St → Hp → Prop), (∀ a b, Q a b → Q' a b) → g x σ' H' Q → g x σ' H' Q') (mt : ∀ σ' H' (Q Q' : Bool → Hp → Prop), (∀ a b, Q a b → Q' a b) → tt σ' H' Q → tt σ' H' Q') :
    ∃ W : Nat → Nat → Hp → Prop, (∃ m, W 0 m (upd H1 D (.lst []))) ∧ ∀ i m H, W i m H →
      (J.stop i H ∧ Qd H) ∨ (J.go i H ∧ ∃ Nx : Hp → Prop, (∀ H', Nx H' → ∃ m', m' < m ∧ W (i + 1) m' H') ∧ ∀ x H', J.yld i H x H' → g x (wipe σ vs) H' fun σ2 H2 => wipe σ2 vs = wipe σ vs ∧ tt σ2 H2 fun b H3 =>
        if b = true then te σ2 H3 fun y H4 => ∃ acc, H4 D = some (.lst acc) ∧ acc.length < sizeLine ∧ Nx (upd H4 D (.lst (acc ++ [y]))) else Nx H3) := by
  refine lc_all (K := K) w (bs.map PyData.bool) (by rw [List.length_map, hl]) (fun d h => ?_) hn hD hG ?_ ?_ mg mt
  · obtain ⟨b, _, rfl⟩ := List.mem_map.mp h
    exact .bl b
  · intro i x H H' hi s y d hd' R hR
    rw [List.getElem?_map] at hd'
    cases e : bs[i]? with
    | none => rw [e] at hd'; cases hd'
    | some b =>
      rw [e] at hd'
      cases hd'
      exact hs i x H H' hi s y b e R fun H4 s4 => hR _ _ s4 (.bl b)
  · intro H acc s ha hA
    rw [dp_bls_inv hA] at ha
    exact hd H s ha
/-- a comprehension whose items are numbers -/
theorem lc_ints {K : PySem.W.Frag} {J : It} {n : Nat} {G : Hp → Prop} {Y : Nat → Hp → V → Hp → Prop} (w : Walk J n G Y) {g : TG} {tt : TT} {te : TE} {vs : List Nat} {σ : L2.St} {H1 : Hp} {D : Addr} {Qd : Hp → Prop}
    (bs : List Int) (hl : bs.length = n) (hn : n ≤ 1000) (hD : H1 D = none) (hG : ∀ H, Same H1 H → G H)
    (hs : ∀ i x H H', i < n → Same H1 H → Y i H x H' → ∀ b, bs[i]? = some b → ∀ R : V → Hp → Prop, (∀ H4, Same H H4 → R (.int b) H4) →
      g x (wipe σ vs) H' fun σ2 H2 => wipe σ2 vs = wipe σ vs ∧ tt σ2 H2 fun b H3 => b = true ∧ te σ2 H3 R)
    (hd : ∀ H, Same H1 H → H D = some (.lst (bs.map V.int)) → Qd H)
    (mg : ∀ x σ' H' (Q Q' : L2.St → Hp → Prop), (∀ a b, Q a b → Q' a b) → g x σ' H' Q → g x σ' H' Q') (mt : ∀ σ' H' (Q Q' : Bool → Hp → Prop), (∀ a b, Q a b → Q' a b) → tt σ' H' Q → tt σ' H' Q') :
    ∃ W : Nat → Nat → Hp → Prop, (∃ m, W 0 m (upd H1 D (.lst []))) ∧ ∀ i m H, W i m H →
      (J.stop i H ∧ Qd H) ∨ (J.go i H ∧ ∃ Nx : Hp → Prop, (∀ H', Nx H' → ∃ m', m' < m ∧ W (i + 1) m' H') ∧ ∀ x H', J.yld i H x H' → g x (wipe σ vs) H' fun σ2 H2 => wipe σ2 vs = wipe σ vs ∧ tt σ2 H2 fun b H3 =>
        if b = true then te σ2 H3 fun y H4 => ∃ acc, H4 D = some (.lst acc) ∧ acc.length < sizeLine ∧ Nx (upd H4 D (.lst (acc ++ [y]))) else Nx H3) := by
  refine lc_all (K := K) w (bs.map PyData.int) (by rw [List.length_map, hl]) (tf_ints _) hn hD hG ?_ ?_ mg mt
  · intro i x H H' hi s y d hd' R hR
    rw [List.getElem?_map] at hd'
    cases e : bs[i]? with
    | none => rw [e] at hd'; cases hd'
    | some b =>
      rw [e] at hd'
      cases hd'
      exact hs i x H H' hi s y b e R fun H4 s4 => hR _ _ s4 (.int b)
  · intro H acc s ha hA
    rw [dp_ints_inv hA] at ha
    exact hd H s ha
theorem k_pgTN {X : Cx} {K : PySem.W.Frag} {x y z : Str} {px py pz p1 : Pos} {k k1 : Nat} {pos : Pos} {t1 t2 : TG} (hK : X.K = K) (hc : X.calm = true) (h1 : PG X (.Tuple [.Name x px, .Name y py] k1 p1) t1) (h2 : PG X (.Name z pz) t2) : PG X (.Tuple [.Tuple [.Name x px, .Name y py] k1 p1, .Name z pz] k pos) (gTup K 2 (gCons t1 (gCons t2 gNil))) := by
  subst hK
  exact pg_tup hc (pgs_cons h1 (pgs_cons h2 pgs_nil))
theorem mono_pair2 {K : PySem.W.Frag} {n n' i j l : Nat} (x : V) (σ' : L2.St) (H' : Hp) (Q Q' : L2.St → Hp → Prop) (h : ∀ a b, Q a b → Q' a b) (e : gTup K n (gCons (gTup K n' (gCons (gName i) (gCons (gName j) gNil))) (gCons (gName l) gNil)) x σ' H' Q) : gTup K n (gCons (gTup K n' (gCons (gName i) (gCons (gName j) gNil))) (gCons (gName l) gNil)) x σ' H' Q' := by
  obtain ⟨a, xs, e1, e2, e3, v, r, e4, b, ys, f1, f2, f3, v1, r1, f4, v2, r2, f5, f6, v', r', e5, e6, q⟩ := e
  exact ⟨a, xs, e1, e2, e3, v, r, e4, b, ys, f1, f2, f3, v1, r1, f4, v2, r2, f5, f6, v', r', e5, e6, h _ _ q⟩
theorem ci_sum : ∀ p : List Nat, (ci p).sum = ((p.sum : Nat) : Int)
  | [] => rfl
  | x :: p => by
    have := ci_sum p
    simp only [ci, List.map_cons, List.sum_cons, Int.natCast_add] at this ⊢
    rw [this]
theorem cutV_to {p : List Nat} {m : Nat} (h : m ≤ p.length) : cutV (vi p) none (some (m : Int)) = vi (p.take m) := by
  rw [cut_to (by rw [vi_len]; exact h)]; simp [vi, List.map_take]
theorem cutV_from {p : List Nat} {m : Nat} (h : m ≤ p.length) : cutV (vi p) (some (m : Int)) none = vi (p.drop m) := by
  rw [cut_from (by rw [vi_len]; exact h)]; simp [vi, List.map_drop]
theorem cut_drop {p : List Nat} {m : Nat} (h : m ≤ p.length) : cutV (vi p) (some (m : Int)) none = (ci (p.drop m)).map V.int := by
  rw [cutV_from h, vi_ci]
theorem isi_int {K : PySem.W.Frag} {H : Hp} {i : Int} {Q : VK} (q : Q (.bl true) H) : rIsi K [.int i, .ty "int"] H Q :=
  ⟨.int i, .ty "int", .type "int", .type "int", true, rfl, .ty _, .base (.int i), kit_ty (by decide +kernel), q⟩
theorem isi_bool {K : PySem.W.Frag} {H : Hp} {i : Int} {Q : VK} (q : Q (.bl false) H) : rIsi K [.int i, .ty "bool"] H Q :=
  ⟨.int i, .ty "bool", .type "int", .type "bool", false, rfl, .ty _, .base (.int i), kit_ty (by decide +kernel), q⟩
theorem nth3 {n : Nat} (x : List V) (h : x.length = n) (i : Nat) (hi : i < (if (if (x.length : Int) < 3 then (x.length : Int) else 3) > 1 then (if (x.length : Int) < 3 then (x.length : Int) else 3) else 1 : Int).toNat) : i ≤ 62 := by
  have : (if (if (x.length : Int) < 3 then (x.length : Int) else 3) > 1 then (if (x.length : Int) < 3 then (x.length : Int) else 3) else 1) ≤ 3 := by split <;> split <;> omega
  omega
end MB

set_option maxHeartbeats 4000000
namespace MB
open PySem PySem.Spec PyProof.Rows L2
/-! ### a tuple from its end: t[::-1] -/
theorem adj_rev (n : Nat) : Builtin.Slice.sliceAdjust none none (-1) (n : Int) = ((n : Int) - 1, -1) := rfl
theorem places_rev (n : Nat) : Builtin.Slice.slicePlaces ((n : Int) - 1) (-1) (-1) = n := by
  unfold Builtin.Slice.slicePlaces
  have h1 : ¬ ((-1 : Int) > 0) := by omega
  simp only [h1, if_false]
  have h2 : -(-1 : Int) = 1 := by decide
  rw [h2, Int.ediv_one]
  split <;> omega
theorem pick_rev (xs : Array Value) : ((List.range xs.size).filterMap fun (k : Nat) => xs[(((xs.size : Int) - 1) + (k : Int) * (-1)).toNat]?).toArray = xs.toList.reverse.toArray := by
  congr 1
  have key : ∀ k, k < xs.size → xs[(((xs.size : Int) - 1) + (k : Int) * (-1)).toNat]? = some (xs.toList.reverse.getD k .none) := fun k hk => by
    have e : (((xs.size : Int) - 1) + (k : Int) * (-1)).toNat = xs.size - 1 - k := by omega
    have hl : k < xs.toList.reverse.length := by simpa using hk
    rw [e, List.getD_eq_getElem?_getD, List.getElem?_eq_getElem hl, Option.getD_some, List.getElem_reverse]
    rw [Array.getElem?_eq_getElem (by omega)]
    simp
  have h2 : (List.range xs.size).filterMap (fun (k : Nat) => xs[(((xs.size : Int) - 1) + (k : Int) * (-1)).toNat]?) = (List.range xs.size).map fun k => xs.toList.reverse.getD k .none := by
    have aux : ∀ (l : List Nat), (∀ k, k ∈ l → k < xs.size) → l.filterMap (fun (k : Nat) => xs[(((xs.size : Int) - 1) + (k : Int) * (-1)).toNat]?) = l.map fun k => xs.toList.reverse.getD k .none := by
      intro l
      induction l with
      | nil => intro _; rfl
      | cons a l ih =>
        intro h
        rw [List.filterMap_cons, key a (h a (List.mem_cons_self ..)), ih fun k hk => h k (List.mem_cons_of_mem _ hk)]
        rfl
    exact aux _ fun k hk => List.mem_range.mp hk
  rw [h2]
  refine List.ext_getElem (by simp) fun k h3 h4 => ?_
  rw [List.getElem_map, List.getElem_range, List.getD_eq_getElem?_getD, List.getElem?_eq_getElem h4, Option.getD_some]
section
variable {prog : Program} {w : World} {A : Around} {E : Value → Shared → Prop} {s : Shared}
theorem applied_rev {sl : Addr} {vl vu vs : Value} {n : Nat} {Q : Int × Int × Nat → Shared → Prop} (hs : s.heap.IsSliceOf sl vl vu vs) (pl : IsPart vl none) (pu : IsPart vu none) (ps : IsPart vs (some (-1)))
    (h : Q ((n : Int) - 1, -1, n) s) : wpAny (model prog w) A (Builtin.Slice.sliceApplied (.ref sl) (pure (n : Int))) Q E s := by
  obtain ⟨os, hos, hcs, hds⟩ := id hs
  unfold Builtin.Slice.sliceApplied Builtin.Slice.sliceFields
  refine wpAny_bind (wpAny_bind (wpAny_field hos hds (x := vl) rfl (wpAny_bind (wpAny_field hos hds (x := vu) rfl (wpAny_bind (wpAny_field hos hds (x := vs) rfl (wpAny_pure ?_)))))))
  refine wpAny_bind (HT.slicePart_ ps ?_)
  show wpAny _ _ (if ((-1 : Int) == 0) = true then _ else _) _ _ s
  rw [if_neg (by decide)]
  refine wpAny_bind (HT.slicePart_ pl (wpAny_bind (HT.slicePart_ pu (wpAny_bind (wpAny_pure ?_)))))
  show wpAny _ _ (match Builtin.Slice.sliceAdjust none none (-1) (n : Int) with | (lo, hi) => pure (lo, (-1 : Int), Builtin.Slice.slicePlaces lo hi (-1))) _ _ s
  rw [adj_rev]
  show wpAny _ _ (pure ((n : Int) - 1, (-1 : Int), Builtin.Slice.slicePlaces ((n : Int) - 1) (-1) (-1))) _ _ s
  rw [places_rev]
  exact wpAny_pure h
theorem getItem_rev {t sl : Addr} {items : Array Value} {vl vu vs : Value} {Q : Value → Shared → Prop} (ht : IsTup s.heap t items) (hs : s.heap.IsSliceOf sl vl vu vs) (pl : IsPart vl none) (pu : IsPart vu none) (ps : IsPart vs (some (-1)))
    (h : Q (.ref s.heap.objs.size) { s with heap := s.heap.push { cls := .type "tuple", data := .seq items.toList.reverse.toArray } }) (hsz : items.size ≤ sizeLine) : wpAny (model prog w) A (getItem (.ref t) (.ref sl)) Q E s := by
  have hok : sizeOk (.seq items.toList.reverse.toArray) := by
    show items.toList.reverse.toArray.size ≤ sizeLine
    simpa using hsz
  obtain ⟨os, hos, hcs, hds⟩ := id hs
  have hTs : s.TypeIs (.ref sl) "slice" := ⟨os, hos, hcs⟩
  unfold getItem
  (try with_reducible refine wpAny_holding ?_)
  (first | refine wpAny_bind (wpAny_pure ?_) | skip)
  refine wpAny_bind (wpAny_sequenceKey ht.typeIs (by decide) (wpAny_bind (wpAny_callSpecial?_slot (name := Str.ofString "__getitem__") ht.typeIs PyProof.Rows.slot_tuple_getitem (wpAny_call_entry PyProof.Rows.slot_tuple_getitem ht.typeIs entry_tuple_getitem ?_ (args_tuple_getitem _ _)))))
  show wpAny _ _ (Builtin.Tuple.tupleItemsOf (.ref t) >>= _) _ _ s
  refine wpAny_bind (tupleItemsOf_ ht (wpAny_bind (wpAny_typeOf hTs ?_)))
  rw [if_pos (by decide)]
  refine wpAny_bind (applied_rev hs pl pu ps ?_)
  show wpAny _ _ (if (((items.size : Int) - 1) == 0 && (-1 : Int) == 1 && items.size == items.size) = true then _ else _) _ _ s
  rw [if_neg (by simp), pick_rev]
  exact wpAny_bind (m := Builtin.Tuple.tupleExact _) (wpAny_newObj_type (wpAny_pure ⟨_, rfl, wpAny_pure h⟩) hok)
end
def tRevT (K : PySem.W.Frag) (te : TE) : TE := fun σ H Q => te σ H fun x H1 => ∃ a xs, x = .ref a ∧ SqT K H1 a xs ∧ ∀ p, H1 p = none → Q (.ref p) (upd H1 p (.tup xs.reverse))
theorem pe_revT {X : Cx} {K : PySem.W.Frag} (hK : X.K = K) {e : Expr} {te : TE} {k : Nat} {p1 p2 p3 pos : PySem.Pos} (he : PE X e te) : PE X (.Subscript e (.Slice none none (some (.UnaryOp .USub (.Constant (.int 1) k p1) p2)) p3) pos) (tRevT K te) := by
  subst hK
  refine ⟨fun pins s σ H Q I h => ?_⟩
  refine Subscript_ (thn (he.run pins s σ H _ I h) fun v s1 ⟨x, H1, I1, r1, q1⟩ => ?_)
  obtain ⟨a, xs, rfl, hx, q⟩ := q1
  cases r1
  have hst : PO X (some (.UnaryOp .USub (.Constant (.int 1) k p1) p2)) (tPart (tUn (rU fun i => .int (-i)) (tC (.int 1)))) := po_some (pe_un un_neg pe_int)
  refine wpAny_Slice (thn (po_none.run pins s1 σ H1 (fun o H2 => o = none ∧ H2 = H1) I1 ⟨rfl, rfl⟩) fun vl s2 ⟨lo, H2, I2, pl, elo, eH⟩ => ?_)
  cases elo; cases eH
  refine thn (po_none.run pins s2 σ H1 (fun o H3 => o = none ∧ H3 = H1) I2 ⟨rfl, rfl⟩) fun vu s3 ⟨hi, H3, I3, pu, ehi, eH⟩ => ?_
  cases ehi; cases eH
  refine thn (hst.run pins s3 σ H1 (fun o H4 => o = some (-1) ∧ H4 = H1) I3 ⟨1, rfl, -1, rfl, rfl, rfl⟩) fun vs s4 ⟨st, H4, I4, ps, est, eH⟩ => ?_
  cases est; cases eH
  have I5 : Inv X pins σ H1 { s4 with heap := s4.heap.push { cls := .type "slice", data := .fields #[vl, vu, vs] } } := I4.kept (t' := s4.toks) fun b ob e => Heap.get?_push_of_some _ e
  obtain ⟨its, r, ht, hz⟩ := I5.tuple hx
  have hlen := r.length
  show wpAny (model X.prog X.w) X.A (subscriptTail e (.Slice none none (some (.UnaryOp .USub (.Constant (.int 1) k p1) p2)) p3) (.ref a) (.ref s4.heap.objs.size)) (EP X pins σ Q) X.xe { s4 with heap := s4.heap.push { cls := .type "slice", data := .fields #[vl, vu, vs] } }
  refine tail_any (ops := [.ref a, .ref s4.heap.objs.size]) ht.typeIs (PyProof.Rows.slot_tuple_getitem.lookup) ?_ (by with_unfolding_all rfl)
  refine getItem_rev ht (Heap.IsSliceOf.new _ vl vu vs) pl pu ps ?_ (by rw [List.size_toArray]; omega)
  refine ⟨.ref _, _, I5.laid (t' := s4.toks) (o := .tup xs.reverse) (fun b ob e => Heap.get?_push_of_some _ e) (Nat.le_refl _) ?_, rfl, q _ (I5.hok.fresh (Nat.le_refl _))⟩
  exact ⟨by rw [List.length_reverse]; exact hz, its.reverse, r.reverse, IsTup.new _ _⟩
end MB

set_option maxHeartbeats 4000000
namespace MB
open PySem PySem.Spec PyProof.Rows L2
/-! ### a tuple times a number from 1 on -/
theorem tuple_mul1 (l : Addr) (items : Array Value) (n : Nat) (dd : Option Addr) (sl : Array (Option Value)) (u : Tok) :
    Meets (Builtin.«tuple.__mul__» ⟨[.ref l, .int 1 u], []⟩) (fun _ R s => s.heap.get? l = some { cls := .type "tuple", dict := dd, data := .seq items n, slots := sl } ∧ R (.ok (.ret (Value.ref l))) s) :=
  .of_wp fun prog w A R s h => by
    obtain ⟨hp, g, d, tk, os⟩ := s
    obtain ⟨hl, h⟩ := h
    have f1 := AutoSeq1.idx_int
    have c1 : (items.isEmpty || ((1 : Int) == 1)) = true := by simp
    wp_walk using wpAny_loadPart' hl
    exact ⟨_, rfl, h⟩
def rRepQ (K : PySem.W.Frag) : R2 := fun x y H Q => ∃ l k xs, x = .ref l ∧ y = .int k ∧ SqT K H l xs ∧ xs ≠ [] ∧ 1 ≤ k ∧ k ≤ 1000 ∧ xs.length ≤ 1000 ∧ (k = 1 → Q (.ref l) H) ∧ ∀ p, H p = none → Q (.ref p) (upd H p (.tup (List.replicate k.toNat xs).flatten))
theorem op_repQ {X : Cx} : OpR X (binaryOp .Mult) (rRepQ X.K) := by
  intro pins s σ H x y v u Q I rx ry h
  obtain ⟨l, k, xs, rfl, rfl, hT, hne, g1, g2, hz, q1, q⟩ := h
  by_cases hk : k = 1
  · subst hk
    cases rx
    obtain ⟨t, rfl⟩ := ry
    obtain ⟨its, r, ⟨⟨cls, dd, data, sl⟩, ho, hc, n, hd⟩, hs⟩ := I.tuple hT
    simp only at hc hd
    subst hc hd
    refine wpAny_binaryOp_repeat_ref (T := "tuple") (U := "int") (by decide) ⟨_, ho, rfl⟩ (fun s' => typeIs_int s' 1 t) noFill_tuple_mul F.fills_int_mul F.slot_int_rmul repeat_tuple F.slot_int_index.lookup (call_meets F.slot_int_rmul (typeIs_int s 1 t) F.entry_int_rmul (F.args_int_rmul_2 _ _) (int_rmul_tuple 1 t l its.toArray n dd sl) ⟨ho, rfl, ⟨_, ho, rfl⟩, ?_⟩)
    exact call_meets F.slot_tuple_mul ⟨_, ho, rfl⟩ F.entry_tuple_mul (F.args_tuple_mul_2 _ _) (tuple_mul1 l its.toArray n dd sl t) ⟨ho, .ref l, H, I, rfl, q1 rfl⟩
  · exact op_repT pins s σ H _ _ v u Q I rx ry ⟨l, k, xs, rfl, rfl, hT, hne, by omega, g2, hz, q⟩
theorem rep_read {K : PySem.W.Frag} {H : Hp} {l : Addr} {k : Int} {xs : List V} {Q : VK} (h : SqT K H l xs) (hn : xs ≠ []) (h1 : 1 ≤ k) (h2 : k ≤ 1000) (hz : xs.length ≤ 1000) (q : ∀ p H', Same H H' → SqT K H' p (List.replicate k.toNat xs).flatten → Q (.ref p) H') : rRepQ K (.ref l) (.int k) H Q := by
  refine ⟨l, k, xs, rfl, rfl, h, hn, h1, h2, hz, fun e => q l H (Same.refl H) ?_, fun p np => q p _ (same_upd np) (.inl (.inl upd_same))⟩
  rw [e]
  simpa using h
end MB

namespace MB
/-! `in` and `not in` of deep lists: HandS.Deep -/
end MB

set_option maxHeartbeats 4000000
namespace MB
open PySem PySem.Spec PyProof.Rows L2
/-! ### a body whose first statement never ends in order -/
theorem pss_stop {X : Cx} {st : Stmt} {rest : List Stmt} {t : TS} (h1 : PS X st t) : PSs X (st :: rest) (fun D σ H => t { D with nx := fun _ _ => False } σ H) := by
  refine ⟨fun pins s σ H D I h => ?_⟩
  refine wpAny_execs_cons (thn (h1.run pins s σ H { D with nx := fun _ _ => False } I h) fun f s1 q => ?_)
  cases f with
  | next =>
    obtain ⟨_, _, _, q⟩ := q
    exact q.elim
  | ret v => exact q
  | brk => exact q
  | cont => exact q
/-! ### texts of data are texts -/
theorem strOk_of (s : String) : PyData.strOk (Str.ofString s) = true := by
  rw [Str.ofString_eq_toList]
  unfold PyData.strOk
  rw [← Array.all_toList, List.all_eq_true]
  intro c hc
  obtain ⟨z, _, rfl⟩ := List.mem_map.mp hc
  refine decide_eq_true ?_
  have h := z.valid
  have e : z.toNat = z.val.toNat := rfl
  rcases h with h | h
  · exact Nat.lt_trans (show z.toNat < 0xd800 from h) (by decide)
  · exact h.2
theorem strOk_app {a b : Str} (h1 : PyData.strOk a = true) (h2 : PyData.strOk b = true) : PyData.strOk (a ++ b) = true := by
  show (a.cps ++ b.cps).all _ = true
  rw [Array.all_append]
  rw [Bool.and_eq_true]
  exact ⟨h1, h2⟩
theorem strOk_join {sep : Str} (hs : PyData.strOk sep = true) : ∀ {ts : List Str}, (∀ t, t ∈ ts → PyData.strOk t = true) → PyData.strOk (Str.join sep ts) = true
  | [], _ => by show PyData.strOk Str.empty = true; decide +kernel
  | [x], h => h x (List.mem_cons_self ..)
  | x :: y :: r, h => by
    show PyData.strOk (x ++ sep ++ Str.join sep (y :: r)) = true
    exact strOk_app (strOk_app (h x (List.mem_cons_self ..)) hs) (strOk_join hs fun t ht => h t (List.mem_cons_of_mem _ ht))
theorem strOk_from : ∀ {ts : List Str} {k : Nat} {acc : Str}, PyData.strOk acc = true → (∀ t, t ∈ ts → PyData.strOk t = true) → PyData.strOk (textFrom k acc ts) = true
  | [], _, _, h, _ => h
  | t :: r, k, acc, h, ht => by
    refine strOk_from (ts := r) (k := k + 1) (acc := acc ++ (if k > 0 then ", " else "" : String) ++ t) (strOk_app (strOk_app h (strOk_of _)) (ht t (List.mem_cons_self ..))) fun x hx => ht x (List.mem_cons_of_mem _ hx)
theorem k_reprD {X : Cx} {K : PySem.W.Frag} (e : X.K = K) (hgd : X.A.guards = some []) (hu : X.A.units + 64 < cLine) : CallR X (.builtin "repr") (rReprD K) := by
  rw [← e]; exact call_reprD hgd hu
def SOk (d : PyData) : Prop := PyData.strOk d.shown = true
theorem shownAll_map : ∀ ds : List PyData, PyData.shownAll ds = ds.map PyData.shown
  | [] => rfl
  | d :: ds => by simp only [PyData.shownAll, List.map_cons, shownAll_map ds]
theorem SOk.int {i : Int} : SOk (.int i) := by unfold SOk; simp only [PyData.shown]; exact strOk_of _
theorem SOk.none : SOk .none := by unfold SOk; simp only [PyData.shown]; exact strOk_of _
theorem SOk.bool {b : Bool} : SOk (.bool b) := by unfold SOk; simp only [PyData.shown]; cases b <;> exact strOk_of _
theorem SOk.tup {ds : List PyData} (h : ∀ d, d ∈ ds → SOk d) : SOk (.tuple ds) := by
  unfold SOk
  simp only [PyData.shown]
  rw [shownAll_map]
  unfold tupleText
  refine strOk_app (strOk_app (strOk_of _) (strOk_join (strOk_of _) fun t ht => ?_)) (strOk_of _)
  obtain ⟨d, hd, rfl⟩ := List.mem_map.mp ht
  exact h d hd
theorem SOk.lst {ds : List PyData} (h : ∀ d, d ∈ ds → SOk d) : SOk (.list ds) := by
  unfold SOk
  simp only [PyData.shown]
  rw [shownAll_map]
  unfold listText
  refine strOk_app (strOk_from (strOk_of _) fun t ht => ?_) (strOk_of _)
  obtain ⟨d, hd, rfl⟩ := List.mem_map.mp ht
  exact h d hd
theorem SOk.ints {ns : List Int} : ∀ d, d ∈ ns.map PyData.int → SOk d := fun d hd => by
  obtain ⟨i, _, rfl⟩ := List.mem_map.mp hd
  exact .int
theorem SOk.dic1 {x : Str} {d : PyData} (hx : SOk (.str x)) (h : SOk d) : SOk (.dict [(.str x, d)]) := by
  unfold SOk at *
  simp only [PyData.shown, PyData.shownKv] at *
  unfold dictText
  exact strOk_app (strOk_app (strOk_of _) (strOk_join (strOk_of _) fun t ht => by
    rw [List.mem_singleton.mp ht]
    exact strOk_app (strOk_app hx (strOk_of _)) h)) (strOk_of _)
theorem Sh.str {x : Str} {k : Nat} (h : PyData.strOk x = true) : Sh k (.str x) := ⟨by simp only [PyData.canLay0]; exact h, by simp [PyData.depth]⟩
end MB

set_option maxHeartbeats 4000000
namespace MB
open PySem PySem.Spec PyProof.Rows L2
/-! ### the repr of a text is a text -/
theorem reprChar_ok {q c : Nat} (hc : c < 0x110000) : ∀ e, e ∈ PySem.Builtin.Str.reprChar q c → e < 0x110000 := by
  have hex : ∀ w e, e ∈ List.replicate (w - ((Nat.toDigits 16 c).map Char.toNat).length) 48 ++ (Nat.toDigits 16 c).map Char.toNat → e < 0x110000 := fun w e he => by
    rcases List.mem_append.mp he with h | h
    · rw [List.eq_of_mem_replicate h]; decide
    · obtain ⟨z, _, rfl⟩ := List.mem_map.mp h
      have h := z.valid
      rcases h with h | h
      · exact Nat.lt_trans (show z.toNat < 0xd800 from h) (by decide)
      · exact h.2
  intro e he
  unfold PySem.Builtin.Str.reprChar at he
  dsimp only at he
  split at he
  · simp only [List.mem_cons, List.not_mem_nil, or_false] at he
    rcases he with rfl | rfl
    · decide
    · exact hc
  split at he
  · simp only [List.mem_cons, List.not_mem_nil, or_false] at he
    rcases he with rfl | rfl <;> decide
  split at he
  · simp only [List.mem_cons, List.not_mem_nil, or_false] at he
    rcases he with rfl | rfl <;> decide
  split at he
  · simp only [List.mem_cons, List.not_mem_nil, or_false] at he
    rcases he with rfl | rfl <;> decide
  split at he
  · simp only [List.mem_cons, List.not_mem_nil, or_false] at he
    rw [he]; exact hc
  split at he
  · rcases List.mem_append.mp he with h | h
    · simp only [List.mem_cons, List.not_mem_nil, or_false] at h
      rcases h with rfl | rfl <;> decide
    · exact hex _ _ h
  split at he
  · rcases List.mem_append.mp he with h | h
    · simp only [List.mem_cons, List.not_mem_nil, or_false] at h
      rcases h with rfl | rfl <;> decide
    · exact hex _ _ h
  · rcases List.mem_append.mp he with h | h
    · simp only [List.mem_cons, List.not_mem_nil, or_false] at h
      rcases h with rfl | rfl <;> decide
    · exact hex _ _ h
theorem reprText_ok {x : Str} (h : PyData.strOk x = true) : PyData.strOk (reprText x) = true := by
  unfold PyData.strOk at h ⊢
  rw [← Array.all_toList, List.all_eq_true] at h
  have hq : reprQuote x < 0x110000 := by unfold reprQuote; split <;> decide
  have key : ∀ (l : List Nat) (acc : Array Nat), (∀ c, c ∈ l → c < 0x110000) → (∀ e, e ∈ acc.toList → e < 0x110000) → ∀ e, e ∈ (l.foldl (fun out c => out ++ (PySem.Builtin.Str.reprChar (reprQuote x) c).toArray) acc).toList → e < 0x110000 := fun l => by
    induction l with
    | nil => intro acc _ h2; exact h2
    | cons c l ih =>
      intro acc h1 h2
      refine ih _ (fun d hd => h1 d (List.mem_cons_of_mem _ hd)) fun e he => ?_
      rw [Array.toList_append] at he
      rcases List.mem_append.mp he with he | he
      · exact h2 e he
      · exact reprChar_ok (h1 c (List.mem_cons_self ..)) e (by simpa using he)
  unfold reprText
  rw [← Array.all_toList, List.all_eq_true]
  intro e he
  refine decide_eq_true ?_
  rw [Array.toList_push] at he
  rcases List.mem_append.mp he with he | he
  · rw [← Array.foldl_toList] at he
    refine key _ _ (fun c hc => of_decide_eq_true (h c hc)) (fun e he => ?_) e he
    simp only [List.mem_cons, List.not_mem_nil, or_false] at he
    rw [he]; exact hq
  · rw [List.mem_singleton.mp he]; exact hq
theorem SOk.str {x : Str} (h : PyData.strOk x = true) : SOk (.str x) := by unfold SOk; simp only [PyData.shown]; exact reprText_ok h
end MB

namespace MB
open PySem PySem.Spec PyProof.Rows L2
/-! a bool where an int is meant: x + 1, x - 1, x == 1, str(x) -/
/-- the int that an int or a bool is -/
def biV : V → Option Int
  | .int i => some i
  | .bl b => some (if b = true then 1 else 0)
  | _ => none
def rBI (g : Int → Int → V) : R2 := fun x y H Q => ∃ i j, biV x = some i ∧ y = .int j ∧ Q (g i j) H
theorem op_addX {X : Cx} : OpR X (binaryOp .Add) (rBI fun i j => .int (i + j)) := by
  intro pins s σ H x y v u Q I rx ry h
  obtain ⟨i, j, e, rfl, q⟩ := h
  obtain ⟨t', rfl⟩ := ry
  cases x with
  | int k =>
    obtain ⟨t, rfl⟩ := rx
    cases e
    exact add_int ⟨.int (i + j), H, I.tok _, ⟨_, rfl⟩, q⟩
  | bl b =>
    cases rx
    cases e
    exact PySem.IntBool.add_bool_int ⟨.int (_ + j), H, I.tok _, ⟨_, rfl⟩, q⟩
  | _ => cases e
theorem op_subX {X : Cx} : OpR X (binaryOp .Sub) (rBI fun i j => .int (i - j)) := by
  intro pins s σ H x y v u Q I rx ry h
  obtain ⟨i, j, e, rfl, q⟩ := h
  obtain ⟨t', rfl⟩ := ry
  cases x with
  | int k =>
    obtain ⟨t, rfl⟩ := rx
    cases e
    exact sub_int ⟨.int (i - j), H, I.tok _, ⟨_, rfl⟩, q⟩
  | bl b =>
    cases rx
    cases e
    exact PySem.IntBool.sub_bool_int ⟨.int (_ - j), H, I.tok _, ⟨_, rfl⟩, q⟩
  | _ => cases e
theorem op_eqX {X : Cx} : OpR X (compareOp .Eq) (rBI fun i j => .bl (i == j)) := by
  intro pins s σ H x y v u Q I rx ry h
  obtain ⟨i, j, e, rfl, q⟩ := h
  obtain ⟨t', rfl⟩ := ry
  cases x with
  | int k =>
    obtain ⟨t, rfl⟩ := rx
    cases e
    exact eq_int ⟨.bl (i == j), H, I, rfl, q⟩
  | bl b =>
    cases rx
    cases e
    exact PySem.EqBoolInt.eq_bool_int ⟨.bl (_ == j), H, I, rfl, q⟩
  | _ => cases e
theorem call_strX {X : Cx} : CallR X (.type "str") (fun xs H Q => ∃ x i, xs = [x] ∧ biV x = some i ∧ i.natAbs.log2 < 1920 ∧ ∀ z, (∃ k, x = .int k ∧ z = Str.ofString (toString k)) ∨ z = Str.ofString "True" ∨ z = Str.ofString "False" → Q (.str z) H) := by
  intro pins s σ H xs us Q I r h
  obtain ⟨x, i, rfl, e, hz, q⟩ := h
  cases x with
  | int k =>
    obtain ⟨u, rfl, t, rfl⟩ := vals1 r
    cases e
    exact PySem.P.str_of_int hz ⟨.str _, H, I.tok _, ⟨_, rfl⟩, q _ (.inl ⟨_, rfl, rfl⟩)⟩
  | bl b =>
    obtain ⟨u, rfl, r1⟩ := vals1 r
    cases r1
    refine PySem.P.str_of_bool ⟨.str _, H, I.tok _, ⟨_, rfl⟩, q _ (.inr ?_)⟩
    cases b
    · exact .inr rfl
    · exact .inl rfl
  | _ => cases e
/-- a tuple != () -/
def rNeE (K : PySem.W.Frag) : R2 := fun x y H Q => ∃ a b xs, x = .ref a ∧ y = .ref b ∧ SqT K H a xs ∧ SqT K H b [] ∧ Q (.bl (!xs.isEmpty)) H
theorem op_neE {X : Cx} {K : PySem.W.Frag} (hK : X.K = K) (hu : X.A.units + 64 < cLine) : OpR X (compareOp .NotEq) (rNeE K) := by
  subst hK
  intro pins s σ H x y v u Q I rx ry h
  obtain ⟨a, b, xs, rfl, rfl, h1, h2, q⟩ := h
  cases rx; cases ry
  obtain ⟨i1, r1, t1, _⟩ := I.tuple h1
  obtain ⟨i2, r2, t2, _⟩ := I.tuple h2
  cases r2
  have hl := r1.length
  refine PySem.EqBoolInt.of_rcne (PySem.SeqAt.RcNeAt.tuples (items := i1.toArray) (items2 := #[]) (e := fun _ => true) t1 t2 (by omega) (fun j h1 h2 => absurd h2 (by simp))) ?_
  refine ⟨.bl (!xs.isEmpty), H, I, ?_, q⟩
  cases xs with
  | nil => cases r1; rfl
  | cons x xs => cases r1; simp; rfl
end MB

set_option maxHeartbeats 4000000
namespace MB
open PySem PySem.Spec PyProof.Rows L2
/-! methods called by keywords -/
def tMethK (C : Addr) (m : Str) (n : Nat) (sp : Sp) (gV : List V → List V → List V) (E : XK) (ta : TE) (tk : TA) : TE := fun σ H Q => ta σ H fun x H1 => ∃ a dx fs, x = .ref a ∧ H1 a = some (.ins C dx fs) ∧ fs.lookup m = none ∧ tk σ H1 fun zs H2 => zs.length = n ∧ sp (gV [x] zs) H2 Q E
section
variable {X : Cx} {CX : CXT} {k n : Nat} {C f : Addr} {fd : FuncData} {ps ks : List Str} {sp : Sp} {E : XK} {m : Str} {o : Expr} {apos : _} {pos : Pos} {kws : List Keyword} {ta : TE} {tk : TA} {g : List Value → List Value → List Value} {gV : List V → List V → List V}
theorem pe_methK0 {pl : Sem Bool} (he : PE X o ta) (c : Cls X.K C) (hm : Meth X.K C m f) (F : FnOk X.prog X.w X.K X.mg X.base CX k f fd ps sp) (hr : Room k X.A) (hb : KBn X.K fd ps 1 ks g gV) (hx : Passes CX X E) (hkw : PK X kws tk)
    (hall : (backToKw pos (keywordEach kws X.env)).all (·.1.isSome) = true := by rfl) (hks : (backToKw pos (keywordEach kws X.env)).filterMap (·.1) = ks := by rfl)
    (hpl : ((backTo pos (starEach [] X.env)).any (·.1) || (backToKw pos (keywordEach kws X.env)).any (·.1.isNone)) = false := by rfl)
    (ht : eval (.Call (.Attribute o m apos) [] kws pos) X.env = (do
      let ov ← eval o X.env
      standAt apos.atName
      let (f, first) ← holding [ov] (getMethod ov m pl)
      callWith pos f first (backTo pos (starEach [] X.env)) (backToKw pos (keywordEach kws X.env))) := by rfl) :
    PE X (.Call (.Attribute o m apos) [] kws pos) (tMethK C m ks.length sp gV E ta tk) := by
  refine ⟨fun pins s σ H Q I h => ?_⟩
  refine PySem.W.methodCall_KW (pl := pl) (thn (he.run pins s σ H _ I h) fun u s1 ⟨x, H1, I1, rx, a, dx, fs, ex, ea, l, q⟩ => ?_) ht
  subst ex
  obtain rfl : u = Value.ref a := rx
  refine getmeth_ok I1 ea c hm l ?_
  refine PySem.W.callWith_KW0 (first := [.ref a]) (h₀ := X.base) I.ok.mod.kin hm.kp hall ?_ hpl
  refine thn (hkw.run pos pins s1 σ H1 _ I1 q) fun ws s2 ⟨zs, H2, I2, rz, l2, q2⟩ => ⟨I2.kIn, ?_⟩
  rw [hks]
  exact run_fnN (us := [.ref a]) (vs := [.ref a]) F hr hb hx I2 (.cons rfl .nil) rz rfl l2 q2
end
theorem FunD.okN {P : Program} {w : World} {K : PySem.W.Frag} {mg : Str → Option Value} {base : Heap} {x qual : Str} {params : Arguments} {body : List Stmt} {scope : Scope} {dvs : List V} {kws : List (Str × V)} {f : Addr} {fd : FuncData} {N ps : List Str} {k : Nat} {sp : Sp} (F : FunD K x qual params body scope dvs kws f fd) (S : FnScope N ps scope) (len : ∀ vs H Q E, sp vs H Q E → vs.length = ps.length)
    (hbody : ∀ (cdv : Value) (A : Around) (outer : List Env) (s : Shared) (H : Hp) (vs : List V) (Q : VK) (E : XK), Room k (A.deeper (envOfC qual scope s.heap.objs.size f cdv)) → sp vs H Q E →
      ∃ t, PSs (cxOf CX0 P w K mg base N qual scope f cdv A outer s H E).nox body t ∧ t { nx := fun _ H' => Q .non H', rt := Q } (start N vs) H) : FnOk P w K mg base CX0 (k + 1) f fd ps sp :=
  F.ok S len fun cdv A outer s H vs Q E hr hsp => let ⟨t, h, q⟩ := hbody cdv A outer s H vs Q E hr hsp; ⟨t, h.nox, q⟩
/-- all positional, then the keywords, in their order -/
def gA {α : Type} (us ws : List α) : List α := us ++ ws
theorem kbA {K : PySem.W.Frag} {x qual : Str} {params : Arguments} {body : List Stmt} {scope : Scope} {dvs : List V} {kws : List (Str × V)} {f : Addr} {fd : FuncData} {ps ks : List Str} (F : FunD K x qual params body scope dvs kws f fd) (n : Nat) (hd : dvs ≠ [])
    (h : ∀ (T : Addr) (kV doc pm : Value) (an : Option Addr) (cdv ct : Value) (us its ws : List Value), us.length = n → its.length = dvs.length → ws.length = ks.length →
      ∃ k, bindArgs (PySem.W.fnOf x qual params body scope (.ref T) kV doc pm an cdv ct) ⟨us, ks.zip ws⟩ = seqItems? (.ref T) >>= k ∧ k (some its.toArray) = pure (ps.zip (us ++ ws))) : KBn K fd ps n ks gA gA := by
  obtain ⟨oc, od, dV, kV, doc, pm, an, cdv, ct, osl, rfl, lk, hcd, hD, hK⟩ := F.ex
  rcases hD with ⟨e, _⟩ | ⟨_, T, o, its, m, rfl, lT, oT, rT⟩
  · exact absurd e hd
  · refine ⟨fun s us ws X l1 l2 => ?_, fun r1 r2 => r1.append r2⟩
    obtain ⟨k, e1, e2⟩ := h T kV doc pm an cdv ct us its ws l1 rT.length.symm l2
    refine BindsTo.of_looks fun M => ?_
    rw [e1]
    exact looks_items X lT oT (.of_pure e2)
end MB

set_option maxHeartbeats 4000000
namespace MB
open PySem PySem.Spec PyProof.Rows L2
/-! o.m(e, .., k = v): by place and by keywords; keyword-only parameters -/
def tMethK1 (C : Addr) (m : Str) (np n : Nat) (sp : Sp) (gV : List V → List V → List V) (E : XK) (ta : TE) (tp tk : TA) : TE := fun σ H Q => ta σ H fun x H1 => ∃ a dx fs, x = .ref a ∧ H1 a = some (.ins C dx fs) ∧ fs.lookup m = none ∧
  tp σ H1 fun ys H2 => ys.length + 1 = np ∧ tk σ H2 fun zs H3 => zs.length = n ∧ sp (gV (x :: ys) zs) H3 Q E
section
variable {X : Cx} {CX : CXT} {k np : Nat} {C f : Addr} {fd : FuncData} {ps ks : List Str} {sp : Sp} {E : XK} {m : Str} {o e : Expr} {es : List Expr} {apos : _} {pos : Pos} {kws : List Keyword} {ta : TE} {tp tk : TA} {g : List Value → List Value → List Value} {gV : List V → List V → List V}
theorem pe_methK1 {pl : Sem Bool} (he : PE X o ta) (c : Cls X.K C) (hm : Meth X.K C m f) (F : FnOk X.prog X.w X.K X.mg X.base CX k f fd ps sp) (hr : Room k X.A) (hb : KBn X.K fd ps np ks g gV) (hx : Passes CX X E) (hpa : PA X (e :: es) tp) (hkw : PK X kws tk)
    (hall : (backToKw pos (keywordEach kws X.env)).all (·.1.isSome) = true := by rfl) (hks : (backToKw pos (keywordEach kws X.env)).filterMap (·.1) = ks := by rfl)
    (hpl : ((backTo pos (starEach (e :: es) X.env)).any (·.1) || (backToKw pos (keywordEach kws X.env)).any (·.1.isNone)) = false := by rfl)
    (hst : starEach (e :: es) X.env = (false, eval e X.env) :: starEach es X.env := by rfl)
    (ht : eval (.Call (.Attribute o m apos) (e :: es) kws pos) X.env = (do
      let ov ← eval o X.env
      standAt apos.atName
      let (f, first) ← holding [ov] (getMethod ov m pl)
      callWith pos f first (backTo pos (starEach (e :: es) X.env)) (backToKw pos (keywordEach kws X.env))) := by rfl) :
    PE X (.Call (.Attribute o m apos) (e :: es) kws pos) (tMethK1 C m np ks.length sp gV E ta tp tk) := by
  refine ⟨fun pins s σ H Q I h => ?_⟩
  refine PySem.W.methodCall_KW (pl := pl) (thn (he.run pins s σ H _ I h) fun u s1 ⟨x, H1, I1, rx, a, dx, fs, ex, ea, l, q⟩ => ?_) ht
  subst ex
  obtain rfl : u = Value.ref a := rx
  refine getmeth_ok I1 ea c hm l ?_
  refine PySem.W.callWith_KW (first := [.ref a]) (h₀ := X.base) I.ok.mod.kin hm.kp hall ?_ hpl hst
  refine thn (hpa.run pos pins s1 σ H1 _ I1 q) fun us s2 ⟨ys, H2, I2, ry, l2, q2⟩ => ?_
  refine thn (hkw.run pos pins s2 σ H2 _ I2 q2) fun ws s3 ⟨zs, H3, I3, rz, l3, q3⟩ => ⟨I3.kIn, ?_⟩
  rw [hks]
  exact run_fnN (us := .ref a :: us) (vs := .ref a :: ys) F hr hb hx I3 (.cons rfl ry) rz l2 l3 q3
end
/-- no defaults by place: the keyword-only parameters are given -/
theorem kbB {K : PySem.W.Frag} {x qual : Str} {params : Arguments} {body : List Stmt} {scope : Scope} {kws : List (Str × V)} {f : Addr} {fd : FuncData} {ps ks : List Str} (F : FunD K x qual params body scope [] kws f fd) (n : Nat)
    (h : ∀ (kV doc pm : Value) (an : Option Addr) (cdv ct : Value) (us ws : List Value), us.length = n → ws.length = ks.length →
      bindArgs (PySem.W.fnOf x qual params body scope .none kV doc pm an cdv ct) ⟨us, ks.zip ws⟩ = pure (ps.zip (us ++ ws))) : KBn K fd ps n ks gA gA := by
  obtain ⟨oc, od, dV, kV, doc, pm, an, cdv, ct, osl, rfl, lk, hcd, hD, hK⟩ := F.ex
  rcases hD with ⟨_, rfl⟩ | ⟨h0, _⟩
  · exact ⟨fun s us ws X l1 l2 => .of_eq (h kV doc pm an cdv ct us ws l1 l2), fun r1 r2 => r1.append r2⟩
  · exact absurd rfl h0
end MB

set_option maxHeartbeats 4000000
/-! ### texts: a text times a number -/
namespace MB
open PySem PySem.Spec PyProof.Rows L2
/-- n copies of a text -/
def repS (x : Str) (n : Nat) : Str := ⟨(List.replicate n x.cps).foldl (· ++ ·) #[]⟩
theorem fold_rep (a : Array Nat) : ∀ (n : Nat) (acc : Array Nat), ((List.replicate n a).foldl (· ++ ·) acc).toList = acc.toList ++ (List.replicate n a.toList).flatten
  | 0, acc => by simp
  | n + 1, acc => by
    rw [List.replicate_succ, List.foldl_cons, fold_rep a n, List.replicate_succ, List.flatten_cons, Array.toList_append, List.append_assoc]
theorem repS_tl (x : Str) (n : Nat) : (repS x n).cps.toList = (List.replicate n x.cps.toList).flatten := by
  unfold repS
  rw [fold_rep]; simp
theorem repS_len (x : Str) (n : Nat) : (repS x n).length = n * x.length := by
  show (repS x n).cps.size = _
  rw [← Array.length_toList, repS_tl, List.length_flatten, List.map_replicate, List.sum_replicate_nat]
  rfl
def rMulS : R2 := fun x y H Q => ∃ (z : Str) (n : Nat), x = .str z ∧ y = .int (n : Int) ∧ 1 ≤ z.length ∧ z.length ≤ 100 ∧ 2 ≤ n ∧ n ≤ 100000 ∧ Q (.str (repS z n)) H
theorem op_mulS {X : Cx} : OpR X (binaryOp .Mult) rMulS := by
  intro pins s σ H x y v u Q I rx ry h
  obtain ⟨z, n, rfl, rfl, h1, h2, h3, h4, q⟩ := h
  obtain ⟨t, rfl⟩ := rx
  obtain ⟨t', rfl⟩ := ry
  have e1 : ¬ ((n : Int) < 1) := by omega
  have e2 : ((n : Int) == 1 || z.length == 0) = false := by
    rw [Bool.or_eq_false_iff, beq_eq_false_iff_ne, beq_eq_false_iff_ne]
    omega
  refine PySem.P.mul_str ?_ (fun _ _ => ?_) (fun _ _ => ?_) ?_
  · rw [Bool.or_eq_false_iff, decide_eq_false_iff_not, decide_eq_false_iff_not]; omega
  · have : (100000 : Int) ≤ (2 ^ 63 - 1) / (n : Int) := (Int.le_ediv_iff_mul_le (by omega)).mpr (by omega)
    omega
  · have h5 : z.length * ((n : Int)).toNat ≤ 100 * 100000 := Nat.mul_le_mul h2 (by omega)
    unfold Builtin.Str.tooLong
    exact decide_eq_false (by have : sizeLine = 16777216 := by decide
                              omega)
  · rw [if_neg e1, e2]
    refine ⟨?_, ⟨.str _, H, I.tok _, ⟨_, rfl⟩, q⟩⟩
    have h6 := repS_len z n
    have h5 : n * z.length ≤ 100000 * 100 := Nat.mul_le_mul h4 h2
    have : sizeLine = 16777216 := by decide
    show (repS z n).length ≤ sizeLine
    omega
end MB

set_option maxHeartbeats 4000000
namespace MB
open PySem PySem.Spec PyProof.Rows L2
def topS (i : Nat) : Stmt := PySem.Challenge.pw_mergebudget_k61_schedule_texts.main.body.getD i (.Pass ⟨0, 0, 0, 0⟩)
abbrev s_is_int : Stmt := topS 5
abbrev N_is_int : List Str := ["value"]
theorem sc_is_int : FnScope N_is_int ["value"] (defScope s_is_int) := ⟨rfl, rfl, rfl, by decide +kernel, rfl, by decide +kernel, by decide +kernel⟩
abbrev s_is_count : Stmt := topS 6
abbrev N_is_count : List Str := ["value"]
theorem sc_is_count : FnScope N_is_count ["value"] (defScope s_is_count) := ⟨rfl, rfl, rfl, by decide +kernel, rfl, by decide +kernel, by decide +kernel⟩
abbrev s_is_count_up_to : Stmt := topS 7
abbrev N_is_count_up_to : List Str := ["value", "most"]
theorem sc_is_count_up_to : FnScope N_is_count_up_to ["value", "most"] (defScope s_is_count_up_to) := ⟨rfl, rfl, rfl, by decide +kernel, rfl, by decide +kernel, by decide +kernel⟩
abbrev s_is_schedule : Stmt := topS 10
abbrev N_is_schedule : List Str := ["value", "runs", "merge"]
theorem sc_is_schedule : FnScope N_is_schedule ["value"] (defScope s_is_schedule) := ⟨rfl, rfl, rfl, by decide +kernel, rfl, by decide +kernel, by decide +kernel⟩
abbrev s_number_in : Stmt := topS 14
abbrev N_number_in : List Str := ["word", "sign"]
theorem sc_number_in : FnScope N_number_in ["word"] (defScope s_number_in) := ⟨rfl, rfl, rfl, by decide +kernel, rfl, by decide +kernel, by decide +kernel⟩
abbrev s_joined_words : Stmt := topS 15
abbrev N_joined_words : List Str := ["words"]
theorem sc_joined_words : FnScope N_joined_words ["words"] (defScope s_joined_words) := ⟨rfl, rfl, rfl, by decide +kernel, rfl, by decide +kernel, by decide +kernel⟩
abbrev s_show_schedule : Stmt := topS 16
abbrev N_show_schedule : List Str := ["schedule", "merge"]
theorem sc_show_schedule : FnScope N_show_schedule ["schedule"] (defScope s_show_schedule) := ⟨rfl, rfl, rfl, by decide +kernel, rfl, by decide +kernel, by decide +kernel⟩
abbrev s_read_schedule : Stmt := topS 17
abbrev N_read_schedule : List Str := ["text", "schedule", "word"]
theorem sc_read_schedule : FnScope N_read_schedule ["text"] (defScope s_read_schedule) := ⟨rfl, rfl, rfl, by decide +kernel, rfl, by decide +kernel, by decide +kernel⟩
abbrev s_L_start_draws : Stmt := topS 19
abbrev N_L_start_draws : List Str := ["_law_script", "_law_nth", "_law_cell", "_law_great"]
theorem sc_L_start_draws : FnScope N_L_start_draws ["_law_script", "_law_nth"] (defScope s_L_start_draws) := ⟨rfl, rfl, rfl, by decide +kernel, rfl, by decide +kernel, by decide +kernel⟩
abbrev s_L_next : Stmt := topS 20
abbrev N_L_next : List Str := ["_law_deal", "_law_upto", "_law_digit", "_law_primes", "_law_prime", "_law_drawn"]
theorem sc_L_next : FnScope N_L_next ["_law_deal", "_law_upto"] (defScope s_L_next) := ⟨rfl, rfl, rfl, by decide +kernel, rfl, by decide +kernel, by decide +kernel⟩
abbrev s_L_pick : Stmt := topS 21
abbrev N_L_pick : List Str := ["_law_deal", "_law_some"]
theorem sc_L_pick : FnScope N_L_pick ["_law_deal", "_law_some"] (defScope s_L_pick) := ⟨rfl, rfl, rfl, by decide +kernel, rfl, by decide +kernel, by decide +kernel⟩
abbrev s_L_odd : Stmt := topS 22
abbrev N_L_odd : List Str := ["_law_deal", "_law_some", "_law_thing", "_law_turn"]
theorem sc_L_odd : FnScope N_L_odd ["_law_deal"] (defScope s_L_odd) := ⟨rfl, rfl, rfl, by decide +kernel, rfl, by decide +kernel, by decide +kernel⟩
abbrev s_L_count_in : Stmt := topS 23
abbrev N_L_count_in : List Str := ["_law_word", "_law_sign"]
theorem sc_L_count_in : FnScope N_L_count_in ["_law_word"] (defScope s_L_count_in) := ⟨rfl, rfl, rfl, by decide +kernel, rfl, by decide +kernel, by decide +kernel⟩
abbrev s_L_schedule : Stmt := topS 24
abbrev N_L_schedule : List Str := ["_law_deal", "_law_size", "_law_found", "_law_width", "_law_turn"]
theorem sc_L_schedule : FnScope N_L_schedule ["_law_deal", "_law_size"] (defScope s_L_schedule) := ⟨rfl, rfl, rfl, by decide +kernel, rfl, by decide +kernel, by decide +kernel⟩
abbrev s_L_is_schedule : Stmt := topS 25
abbrev N_L_is_schedule : List Str := ["_law_thing", "_law_width", "_law_one"]
theorem sc_L_is_schedule : FnScope N_L_is_schedule ["_law_thing"] (defScope s_L_is_schedule) := ⟨rfl, rfl, rfl, by decide +kernel, rfl, by decide +kernel, by decide +kernel⟩
abbrev s_L_expected : Stmt := topS 26
abbrev N_L_expected : List Str := ["_law_thing", "_law_found", "_law_word"]
theorem sc_L_expected : FnScope N_L_expected ["_law_thing"] (defScope s_L_expected) := ⟨rfl, rfl, rfl, by decide +kernel, rfl, by decide +kernel, by decide +kernel⟩
abbrev s_L_told : Stmt := topS 27
abbrev N_L_told : List Str := ["_law_ask", "_law_caught", "_law_found", "e"]
theorem sc_L_told : FnScope N_L_told ["_law_ask"] (defScope s_L_told) := ⟨rfl, rfl, rfl, by decide +kernel, rfl, by decide +kernel, by decide +kernel⟩
abbrev s_L_bent : Stmt := topS 28
abbrev N_L_bent : List Str := ["_law_deal", "_law_page", "_law_words", "_law_way", "_law_at", "_law_odd_here"]
theorem sc_L_bent : FnScope N_L_bent ["_law_deal", "_law_page"] (defScope s_L_bent) := ⟨rfl, rfl, rfl, by decide +kernel, rfl, by decide +kernel, by decide +kernel⟩
abbrev s_law : Stmt := topS 29
abbrev N_law : List Str := ["_law_script", "_law_nth", "_law_deal", "_law_turn", "_law_plan", "_law_page", "_law_texts", "_law_thing", "_law_things", "_law_told_here", "_law_good", "_law_again", "_law_one"]
theorem sc_law : FnScope N_law ["_law_script"] (defScope s_law) := ⟨rfl, rfl, rfl, by decide +kernel, rfl, by decide +kernel, by decide +kernel⟩
abbrev s_init_InvalidSchedule : Stmt := clsDef (topS 2)
abbrev N_init_InvalidSchedule : List Str := ["self", "value"]
theorem sc_init_InvalidSchedule : FnScope N_init_InvalidSchedule ["self", "value"] (defScope s_init_InvalidSchedule) := ⟨rfl, rfl, rfl, by decide +kernel, rfl, by decide +kernel, by decide +kernel⟩
abbrev s_init_InvalidText : Stmt := clsDef (topS 3)
abbrev N_init_InvalidText : List Str := ["self", "value"]
theorem sc_init_InvalidText : FnScope N_init_InvalidText ["self", "value"] (defScope s_init_InvalidText) := ⟨rfl, rfl, rfl, by decide +kernel, rfl, by decide +kernel, by decide +kernel⟩
set_option genInjectivity false in
set_option genSizeOfSpec false in
structure Tx (K : PySem.W.Frag) (mg : Str → Option Value) where
  a_is_int : Addr
  fd_is_int : FuncData
  f_is_int : Fun K "is_int" "is_int" s_is_int a_is_int fd_is_int
  g_is_int : mg "is_int" = some (.ref a_is_int)
  bd_is_int : Binds K fd_is_int ["value"] []
  a_is_count : Addr
  fd_is_count : FuncData
  f_is_count : Fun K "is_count" "is_count" s_is_count a_is_count fd_is_count
  g_is_count : mg "is_count" = some (.ref a_is_count)
  bd_is_count : Binds K fd_is_count ["value"] []
  a_is_count_up_to : Addr
  fd_is_count_up_to : FuncData
  f_is_count_up_to : Fun K "is_count_up_to" "is_count_up_to" s_is_count_up_to a_is_count_up_to fd_is_count_up_to
  g_is_count_up_to : mg "is_count_up_to" = some (.ref a_is_count_up_to)
  bd_is_count_up_to : Binds K fd_is_count_up_to ["value", "most"] []
  a_is_schedule : Addr
  fd_is_schedule : FuncData
  f_is_schedule : Fun K "is_schedule" "is_schedule" s_is_schedule a_is_schedule fd_is_schedule
  g_is_schedule : mg "is_schedule" = some (.ref a_is_schedule)
  bd_is_schedule : Binds K fd_is_schedule ["value"] []
  a_number_in : Addr
  fd_number_in : FuncData
  f_number_in : Fun K "number_in" "number_in" s_number_in a_number_in fd_number_in
  g_number_in : mg "number_in" = some (.ref a_number_in)
  bd_number_in : Binds K fd_number_in ["word"] []
  a_joined_words : Addr
  fd_joined_words : FuncData
  f_joined_words : Fun K "joined_words" "joined_words" s_joined_words a_joined_words fd_joined_words
  g_joined_words : mg "joined_words" = some (.ref a_joined_words)
  bd_joined_words : Binds K fd_joined_words ["words"] []
  a_show_schedule : Addr
  fd_show_schedule : FuncData
  f_show_schedule : Fun K "show_schedule" "show_schedule" s_show_schedule a_show_schedule fd_show_schedule
  g_show_schedule : mg "show_schedule" = some (.ref a_show_schedule)
  bd_show_schedule : Binds K fd_show_schedule ["schedule"] []
  a_read_schedule : Addr
  fd_read_schedule : FuncData
  f_read_schedule : Fun K "read_schedule" "read_schedule" s_read_schedule a_read_schedule fd_read_schedule
  g_read_schedule : mg "read_schedule" = some (.ref a_read_schedule)
  bd_read_schedule : Binds K fd_read_schedule ["text"] []
  a_L_start_draws : Addr
  fd_L_start_draws : FuncData
  f_L_start_draws : Fun K "_law_start_draws" "_law_start_draws" s_L_start_draws a_L_start_draws fd_L_start_draws
  g_L_start_draws : mg "_law_start_draws" = some (.ref a_L_start_draws)
  bd_L_start_draws : Binds K fd_L_start_draws ["_law_script", "_law_nth"] []
  a_L_next : Addr
  fd_L_next : FuncData
  f_L_next : Fun K "_law_next" "_law_next" s_L_next a_L_next fd_L_next
  g_L_next : mg "_law_next" = some (.ref a_L_next)
  bd_L_next : Binds K fd_L_next ["_law_deal", "_law_upto"] []
  a_L_pick : Addr
  fd_L_pick : FuncData
  f_L_pick : Fun K "_law_pick" "_law_pick" s_L_pick a_L_pick fd_L_pick
  g_L_pick : mg "_law_pick" = some (.ref a_L_pick)
  bd_L_pick : Binds K fd_L_pick ["_law_deal", "_law_some"] []
  a_L_odd : Addr
  fd_L_odd : FuncData
  f_L_odd : Fun K "_law_odd" "_law_odd" s_L_odd a_L_odd fd_L_odd
  g_L_odd : mg "_law_odd" = some (.ref a_L_odd)
  bd_L_odd : Binds K fd_L_odd ["_law_deal"] []
  a_L_count_in : Addr
  fd_L_count_in : FuncData
  f_L_count_in : Fun K "_law_count_in" "_law_count_in" s_L_count_in a_L_count_in fd_L_count_in
  g_L_count_in : mg "_law_count_in" = some (.ref a_L_count_in)
  bd_L_count_in : Binds K fd_L_count_in ["_law_word"] []
  a_L_schedule : Addr
  fd_L_schedule : FuncData
  f_L_schedule : Fun K "_law_schedule" "_law_schedule" s_L_schedule a_L_schedule fd_L_schedule
  g_L_schedule : mg "_law_schedule" = some (.ref a_L_schedule)
  bd_L_schedule : Binds K fd_L_schedule ["_law_deal", "_law_size"] []
  a_L_is_schedule : Addr
  fd_L_is_schedule : FuncData
  f_L_is_schedule : Fun K "_law_is_schedule" "_law_is_schedule" s_L_is_schedule a_L_is_schedule fd_L_is_schedule
  g_L_is_schedule : mg "_law_is_schedule" = some (.ref a_L_is_schedule)
  bd_L_is_schedule : Binds K fd_L_is_schedule ["_law_thing"] []
  a_L_expected : Addr
  fd_L_expected : FuncData
  f_L_expected : Fun K "_law_expected" "_law_expected" s_L_expected a_L_expected fd_L_expected
  g_L_expected : mg "_law_expected" = some (.ref a_L_expected)
  bd_L_expected : Binds K fd_L_expected ["_law_thing"] []
  a_L_told : Addr
  fd_L_told : FuncData
  f_L_told : Fun K "_law_told" "_law_told" s_L_told a_L_told fd_L_told
  g_L_told : mg "_law_told" = some (.ref a_L_told)
  bd_L_told : Binds K fd_L_told ["_law_ask"] []
  a_L_bent : Addr
  fd_L_bent : FuncData
  f_L_bent : Fun K "_law_bent" "_law_bent" s_L_bent a_L_bent fd_L_bent
  g_L_bent : mg "_law_bent" = some (.ref a_L_bent)
  bd_L_bent : Binds K fd_L_bent ["_law_deal", "_law_page"] []
  a_law : Addr
  fd_law : FuncData
  f_law : Fun K "law" "law" s_law a_law fd_law
  g_law : mg "law" = some (.ref a_law)
  bd_law : Binds K fd_law ["_law_script"] []
  b_isinstance : mg "isinstance" = none
  b_int : mg "int" = none
  b_bool : mg "bool" = none
  b_tuple : mg "tuple" = none
  b_len : mg "len" = none
  b_all : mg "all" = none
  b_str : mg "str" = none
  b_abs : mg "abs" = none
  b_range : mg "range" = none
  b_max : mg "max" = none
  b_min : mg "min" = none
  b_list : mg "list" = none
  b_repr : mg "repr" = none
  c_MergeBudgetError : Addr
  gc_MergeBudgetError : mg "MergeBudgetError" = some (.ref c_MergeBudgetError)
  kc_MergeBudgetError : PySem.W.keepIn K (.ref c_MergeBudgetError) = true
  xe_MergeBudgetError : ExcC K c_MergeBudgetError
  xf_MergeBudgetError : XfC K c_MergeBudgetError
  xi_MergeBudgetError : PySem.W.excIn K c_MergeBudgetError PySem.HandSPX.veTail "ValueError.__new__" = true
  c_InvalidSchedule : Addr
  gc_InvalidSchedule : mg "InvalidSchedule" = some (.ref c_InvalidSchedule)
  kc_InvalidSchedule : PySem.W.keepIn K (.ref c_InvalidSchedule) = true
  xe_InvalidSchedule : ExcC K c_InvalidSchedule
  xf_InvalidSchedule : XfC K c_InvalidSchedule
  ox_InvalidSchedule : OexC K c_InvalidSchedule
  no_InvalidSchedule : PySem.W.findIn K (.ref c_InvalidSchedule) "value" = some none
  fi_InvalidSchedule : Addr
  fdi_InvalidSchedule : FuncData
  ic_InvalidSchedule : PySem.W.findIn K (.ref c_InvalidSchedule) "__init__" = some (some (.ref fi_InvalidSchedule))
  ti_InvalidSchedule : PySem.W.typeIn K (.ref fi_InvalidSchedule) = some (.type "function")
  ui_InvalidSchedule : L2.Fun K "__init__" "InvalidSchedule.__init__" s_init_InvalidSchedule fi_InvalidSchedule fdi_InvalidSchedule
  bi_InvalidSchedule : Binds K fdi_InvalidSchedule ["self", "value"] []
  c_InvalidText : Addr
  gc_InvalidText : mg "InvalidText" = some (.ref c_InvalidText)
  kc_InvalidText : PySem.W.keepIn K (.ref c_InvalidText) = true
  xe_InvalidText : ExcC K c_InvalidText
  xf_InvalidText : XfC K c_InvalidText
  ox_InvalidText : OexC K c_InvalidText
  no_InvalidText : PySem.W.findIn K (.ref c_InvalidText) "value" = some none
  fi_InvalidText : Addr
  fdi_InvalidText : FuncData
  ic_InvalidText : PySem.W.findIn K (.ref c_InvalidText) "__init__" = some (some (.ref fi_InvalidText))
  ti_InvalidText : PySem.W.typeIn K (.ref fi_InvalidText) = some (.type "function")
  ui_InvalidText : L2.Fun K "__init__" "InvalidText.__init__" s_init_InvalidText fi_InvalidText fdi_InvalidText
  bi_InvalidText : Binds K fdi_InvalidText ["self", "value"] []
  kits : kitB K [c_InvalidSchedule, c_InvalidText] c_MergeBudgetError = true
  kitn : [c_InvalidSchedule, c_InvalidText].Nodup
  kitz : c_MergeBudgetError ∉ [c_InvalidSchedule, c_InvalidText]
  cdl : Addr
  ptl : Addr
  lawc : ∃ (oc : Value) (od : Option Addr) (kV doc pm : Value) (an : Option Addr) (ct : Value) (osl : Array (Option Value)), fd_law = PySem.W.fnOf "law" "law" (defArgs s_law) (defBody s_law) (defScope s_law) .none kV doc pm an (.ref cdl) ct ∧ K.lookup a_law = some ⟨oc, od, .func fd_law, osl⟩ ∧ PySem.W.codeIn K (.ref cdl) "law" = true
  t_MOST_FLUSHES : Tok
  c_MOST_FLUSHES : mg "MOST_FLUSHES" = some (.int (60) t_MOST_FLUSHES)
  t_MOST_DIGITS : Tok
  c_MOST_DIGITS : mg "MOST_DIGITS" = some (.int (60) t_MOST_DIGITS)
  t_NOTHING : Tok
  c_NOTHING : mg "NOTHING" = some (.str "-" t_NOTHING)
/-! ### the number that a word shows -/
def digB (c : Nat) : Bool := (!decide ([c] < ("0" : Str).cps.toList)) && !decide (("9" : Str).cps.toList < [c])
theorem digB_iff (c : Nat) : digB c = (decide (48 ≤ c) && decide (c ≤ 57)) := by
  have ea : ("0" : Str).cps.toList = [48] := by decide +kernel
  have ez : ("9" : Str).cps.toList = [57] := by decide +kernel
  unfold digB
  rw [ea, ez]
  have h1 : ([c] < [48]) ↔ c < 48 := by simp [List.cons_lt_cons_iff]
  have h2 : ([57] < [c]) ↔ 57 < c := by simp [List.cons_lt_cons_iff]
  rw [decide_eq_decide.mpr h1, decide_eq_decide.mpr h2, ← decide_not, ← decide_not]
  simp only [Nat.not_lt]
theorem digs_of {l : List Nat} (h : l.all digB = true) : NumText.AllDigits l := fun c hc => by
  have := List.all_eq_true.mp h c hc
  rw [digB_iff, Bool.and_eq_true, decide_eq_true_eq, decide_eq_true_eq] at this
  exact this
/-- its first sign is 0 and there are more -/
def lead0 (z : Str) : Bool := decide (z.cps.toList.head? = some 48) && decide (1 < z.length)
def numIn (z : Str) : Option Nat := if (decide (1 ≤ z.length) && decide (z.length ≤ 60) && z.cps.toList.all digB && !lead0 z) = true then some (NumText.digitsVal z.cps.toList) else none
def numV (z : Str) : V := match numIn z with
  | some n => .int (n : Int)
  | none => .non
section
variable {P : Program} {w : World} {K : PySem.W.Frag} {mg : Str → Option Value} {base : Heap}
def sp_number_in (K : PySem.W.Frag) : Sp := fun vs H Q _ => ∃ z : Str, vs = [.str z] ∧ z.length ≤ 1000000 ∧ ∀ H', Same H H' → Q (numV z) H'
theorem ok_number_in (TX : Tx K mg) : FnOk P w K mg base CX0 1 TX.a_number_in TX.fd_number_in ["word"] (sp_number_in K) := by
  refine TX.f_number_in.ok sc_number_in (fun vs H Q E h => ?_) (fun cdv A outer s H vs Q E hr h => ?_)
  · obtain ⟨z, rfl, _⟩ := h; rfl
  · obtain ⟨z, rfl, hz, q⟩ := h
    refine ⟨_, (pss_cons (ps_if (PW.pt (pw_or (pt_not (pt_chain op_le op_le pe_int (pe_callB (id := "len") call_len_str (by rfl) TX.b_len (by decide +kernel) (pa_cons (pv 0) pa_nil)) (pe_glob (v := .int (60)) (by rfl) TX.c_MOST_DIGITS ⟨_, rfl⟩))) (pw_or1 (pt_not (pt_val (pe_callB (id := "all") (cr_all rfl) (by rfl) TX.b_all (by decide +kernel) (pa_cons (pe_lc (own := [("sign", 1)]) (by rfl) sc_number_in.nd (pi_str (pv 0)) (blkOk_by (own := [("sign", 1)]) (N := N_number_in) (sc := defScope s_number_in) (by decide +kernel)) (fun _ _ _ _ _ => (pg_name (i := 1) sc_number_in.nd rfl (Or.inl rfl))) (fun _ _ _ _ _ => pts_nil) (fun _ _ _ _ _ => (pe_chain op_le_str op_le_str pe_str (pv 1) pe_str))) pa_nil)))))))
        (pss_one (ps_ret pe_non))
        pss_nil)
      (pss_cons (ps_if (PW.pt (pw_and (pt_cmpR op_eq (pe_ix ix_str (pv 0) pe_int (fun _ _ => rfl)) pe_str (nomark _)) (pw_and1 (pt_cmpR op_gt (pe_callB (id := "len") call_len_str (by rfl) TX.b_len (by decide +kernel) (pa_cons (pv 0) pa_nil)) pe_int (nomark _)))))
        (pss_one (ps_ret pe_non))
        pss_nil)
      (pss_one (ps_ret (pe_callTy (T := "int") call_int_str (by rfl) TX.b_int (by decide +kernel) (pa_cons (pv 0) pa_nil)))))), ?_⟩
    have h4 : z.cps.size = z.length := rfl
    have no : (decide (1 ≤ z.length) && decide (z.length ≤ 60) && z.cps.toList.all digB && !lead0 z) = false → ∀ H', Same H H' → Q .non H' := fun h H' s' => by
      have := q H' s'
      unfold numV numIn at this
      rw [h] at this
      exact this
    refine ⟨.str z, rfl, z, rfl, Nat.le_trans hz (by decide), 1, _, rfl, rfl, _, rfl, ?_⟩
    by_cases h1 : (1 : Int) ≤ (z.length : Int)
    case' neg =>
      refine decF h1 ⟨_, rfl, iteB1 (by rfl) (iteB1 (by rfl) ?_)⟩
      exact no (by rw [decide_eq_false (show ¬ 1 ≤ z.length by omega)]; rfl) _ (Same.refl _)
    refine decT h1 ⟨_, _, rfl, rfl, _, rfl, ?_⟩
    by_cases h2 : (z.length : Int) ≤ 60
    case' neg =>
      refine iteB1 (by rw [decide_eq_false h2]; rfl) ?_
      exact no (by rw [decide_eq_false (show ¬ z.length ≤ 60 by omega), Bool.and_false]; rfl) _ (Same.refl _)
    refine iteB0 (by rw [decide_eq_true h2]; rfl) ?_
    refine ⟨.str z, rfl, z, rfl, fun D nD => ?_⟩
    have eb : z.cps.toList.all digB = (z.cps.toList.map digB).all id := by rw [List.all_map]; rfl
    refine lc_bools (K := K) walk_str (z.cps.toList.map digB) (by simp) (by omega) nD (fun _ _ => trivial) ?_ ?_ (fun x σ' H' Q Q' h => h _ _) (fun σ' H' Q Q' h => h _ _)
    · rintro i x Hx Hx' hi sx ⟨rfl, c, hc, rfl⟩ b hb R hR
      have hb2 : b = digB c := by
        rw [List.getElem?_map, Array.getElem?_toList, hc] at hb
        exact (Option.some.inj hb).symm
      refine ⟨rfl, rfl, _, rfl, _, _, rfl, rfl, _, rfl, ?_⟩
      cases h5 : (!decide ([c] < ("0" : Str).cps.toList)) with
      | true =>
        refine iteB1 rfl ⟨_, _, rfl, rfl, ?_⟩
        have e2 : (!decide (("9" : Str).cps.toList < (⟨#[c]⟩ : Str).cps.toList)) = b := by
          rw [hb2]; unfold digB; rw [h5, Bool.true_and]
        rw [e2]
        exact hR _ (Same.refl _)
      | false =>
        refine iteB0 rfl ?_
        have e2 : b = false := by rw [hb2]; unfold digB; rw [h5, Bool.false_and]
        rw [e2] at hR
        exact hR _ (Same.refl _)
    intro H2 s2 ha
    refine ⟨D, _, rfl, .inl (.inl ha), ?_⟩
    rw [← eb]
    cases hd : z.cps.toList.all digB with
    | false =>
      refine ⟨false, rfl, iteB1 (by rfl) ?_⟩
      exact no (by rw [hd, Bool.and_false]; rfl) _ s2
    | true =>
      refine ⟨true, rfl, iteB0 (by rfl) ?_⟩
      have hne : z.cps.toList ≠ [] := fun e => by
        have : z.length = 0 := by rw [← h4, ← Array.length_toList, e]; rfl
        omega
      obtain ⟨c0, cs, hcs⟩ : ∃ c0 cs, z.cps.toList = c0 :: cs := by
        cases h : z.cps.toList with
        | nil => exact absurd h hne
        | cons c cs => exact ⟨c, cs, rfl⟩
      have h0 : atI z.cps.toList 0 = some c0 := atI_nat (j := 0) (by rw [hcs]; rfl)
      have e48 : (V.str ⟨#[c0]⟩ = V.str "0") ↔ c0 = 48 := by
        constructor
        · intro e
          have := congrArg (fun v => match v with | V.str y => y.cps.toList | _ => []) e
          have e0 : ("0" : Str).cps.toList = [48] := by decide +kernel
          simp only [e0] at this
          exact (List.cons.inj this).1
        · rintro rfl; decide +kernel
      have yes : lead0 z = false → ∀ H', Same H H' → Q (.int ((NumText.digitsVal z.cps.toList : Nat) : Int)) H' := fun h H' s' => by
        have := q H' s'
        unfold numV numIn at this
        rw [hd, h, decide_eq_true (show 1 ≤ z.length by omega), decide_eq_true (show z.length ≤ 60 by omega)] at this
        exact this
      have it := PySem.intText_digits (digs_of hd) hne (show z.length ≤ 4300 by omega)
      refine ⟨_, rfl, z, 0, c0, rfl, rfl, Nat.le_trans hz (by decide), h0, rfl, _, rfl, ?_⟩
      by_cases hc : c0 = 48
      · refine decT (e48.mpr hc) ⟨_, rfl, z, rfl, Nat.le_trans hz (by decide), _, _, rfl, rfl, _, rfl, ?_⟩
        by_cases h6 : (1 : Int) < (z.length : Int)
        · refine iteB1 (decide_eq_true h6) ?_
          refine no ?_ _ s2
          have : lead0 z = true := by
            unfold lead0
            rw [hcs, decide_eq_true (show (c0 :: cs).head? = some 48 by rw [hc]; rfl), decide_eq_true (show 1 < z.length by omega)]; rfl
          rw [this, Bool.not_true, Bool.and_false]
        · refine iteB0 (decide_eq_false h6) ?_
          refine ⟨_, rfl, z, _, rfl, it, by omega, yes ?_ _ s2⟩
          unfold lead0
          rw [decide_eq_false (show ¬ 1 < z.length by omega), Bool.and_false]
      · refine decF (fun e => hc (e48.mp e)) ?_
        refine ⟨_, rfl, z, _, rfl, it, by omega, yes ?_ _ s2⟩
        unfold lead0
        rw [hcs, decide_eq_false (show ¬ (c0 :: cs).head? = some 48 by intro e; exact hc (Option.some.inj e))]
        rfl
end
/-- a sign among the digits -/
theorem in_09 (c : Nat) : (!(Builtin.Str.occurrences (Str.ofString "0123456789") ⟨#[c]⟩ 0 (Str.ofString "0123456789").length 1).isEmpty) = digB c := by
  rw [digB_iff]
  by_cases h : 48 ≤ c ∧ c ≤ 57
  · rw [decide_eq_true h.1, decide_eq_true h.2]
    have all : ∀ i : Fin 10, (!(Builtin.Str.occurrences (Str.ofString "0123456789") ⟨#[48 + i.val]⟩ 0 (Str.ofString "0123456789").length 1).isEmpty) = true := by decide +kernel
    have := all ⟨c - 48, by omega⟩
    rw [show 48 + (⟨c - 48, by omega⟩ : Fin 10).val = c from by show 48 + (c - 48) = c; omega] at this
    rw [this]; rfl
  · have : (decide (48 ≤ c) && decide (c ≤ 57)) = false := by
      rw [Bool.and_eq_false_iff, decide_eq_false_iff_not, decide_eq_false_iff_not]; omega
    rw [this, PySem.W.occ_nil_of_no _ _ 1 (fun i hi => ?_)]
    · rfl
    · cases hs : Builtin.Str.subAt (Str.ofString "0123456789") ⟨#[c]⟩ i with
      | false => rfl
      | true =>
        exfalso
        have hm : c ∈ (Str.ofString "0123456789").cps := by
          have h2 : c ∈ (Str.ofString "0123456789").cps.extract i (i + (⟨#[c]⟩ : Str).length) := by
            rw [beq_iff_eq.mp hs]; simp
          obtain ⟨k, hk, e⟩ := Array.mem_extract_iff_getElem.mp h2
          rw [← e]; exact Array.getElem_mem _
        have hall : (Str.ofString "0123456789").cps.all (fun c => decide (48 ≤ c) && decide (c ≤ 57)) = true := by decide +kernel
        have := Array.all_eq_true_iff_forall_mem.mp hall c hm
        simp only [Bool.and_eq_true, decide_eq_true_eq] at this
        exact h this
section
variable {P : Program} {w : World} {K : PySem.W.Frag} {mg : Str → Option Value} {base : Heap}
def sp_L_count_in (K : PySem.W.Frag) : Sp := fun vs H Q _ => ∃ z : Str, vs = [.str z] ∧ z.length ≤ 1000000 ∧ ∀ H', Same H H' → Q (numV z) H'
theorem ok_L_count_in (TX : Tx K mg) : FnOk P w K mg base CX0 1 TX.a_L_count_in TX.fd_L_count_in ["_law_word"] (sp_L_count_in K) := by
  refine TX.f_L_count_in.ok sc_L_count_in (fun vs H Q E h => ?_) (fun cdv A outer s H vs Q E hr h => ?_)
  · obtain ⟨z, rfl, _⟩ := h; rfl
  · obtain ⟨z, rfl, hz, q⟩ := h
    refine ⟨_, (pss_cons (ps_if (PW.pt (pw_or (pt_not (pt_chain op_le op_le pe_int (pe_callB (id := "len") call_len_str (by rfl) TX.b_len (by decide +kernel) (pa_cons (pv 0) pa_nil)) pe_int)) (pw_or1 (pt_not (pt_val (pe_callB (id := "all") (cr_all rfl) (by rfl) TX.b_all (by decide +kernel) (pa_cons (pe_lc (own := [("_law_sign", 1)]) (by rfl) sc_L_count_in.nd (pi_str (pv 0)) (blkOk_by (own := [("_law_sign", 1)]) (N := N_L_count_in) (sc := defScope s_L_count_in) (by decide +kernel)) (fun _ _ _ _ _ => (pg_name (i := 1) sc_L_count_in.nd rfl (Or.inl rfl))) (fun _ _ _ _ _ => pts_nil) (fun _ _ _ _ _ => (pe_cmpR op_in_str (pv 1) pe_str (by rfl)))) pa_nil)))))))
        (pss_one (ps_ret pe_non))
        pss_nil)
      (pss_one (ps_ret (pe_ifExp (PW.pt (pw_and (pt_cmpR op_eq (pe_ix ix_str (pv 0) pe_int (fun _ _ => rfl)) pe_str (nomark _)) (pw_and1 (pt_cmpR op_ne (pv 0) pe_str (nomark _))))) pe_non (pe_callTy (T := "int") call_int_str (by rfl) TX.b_int (by decide +kernel) (pa_cons (pv 0) pa_nil)))))), ?_⟩
    have h4 : z.cps.size = z.length := rfl
    have no : (decide (1 ≤ z.length) && decide (z.length ≤ 60) && z.cps.toList.all digB && !lead0 z) = false → ∀ H', Same H H' → Q .non H' := fun h H' s' => by
      have := q H' s'
      unfold numV numIn at this
      rw [h] at this
      exact this
    refine ⟨.str z, rfl, z, rfl, Nat.le_trans hz (by decide), 1, _, rfl, rfl, _, rfl, ?_⟩
    by_cases h1 : (1 : Int) ≤ (z.length : Int)
    case' neg =>
      refine decF h1 ⟨_, rfl, iteB1 (by rfl) (iteB1 (by rfl) ?_)⟩
      exact no (by rw [decide_eq_false (show ¬ 1 ≤ z.length by omega)]; rfl) _ (Same.refl _)
    refine decT h1 ⟨_, _, rfl, rfl, _, rfl, ?_⟩
    by_cases h2 : (z.length : Int) ≤ 60
    case' neg =>
      refine iteB1 (by rw [decide_eq_false h2]; rfl) ?_
      exact no (by rw [decide_eq_false (show ¬ z.length ≤ 60 by omega), Bool.and_false]; rfl) _ (Same.refl _)
    refine iteB0 (by rw [decide_eq_true h2]; rfl) ?_
    refine ⟨.str z, rfl, z, rfl, fun D nD => ?_⟩
    have eb : z.cps.toList.all digB = (z.cps.toList.map digB).all id := by rw [List.all_map]; rfl
    refine lc_bools (K := K) walk_str (z.cps.toList.map digB) (by simp) (by omega) nD (fun _ _ => trivial) ?_ ?_ (fun x σ' H' Q Q' h => h _ _) (fun σ' H' Q Q' h => h _ _)
    · rintro i x Hx Hx' hi sx ⟨rfl, c, hc, rfl⟩ b hb R hR
      have hb2 : b = digB c := by
        rw [List.getElem?_map, Array.getElem?_toList, hc] at hb
        exact (Option.some.inj hb).symm
      refine ⟨rfl, rfl, _, rfl, _, _, rfl, rfl, ?_⟩
      rw [show (!(Builtin.Str.occurrences (Str.ofString "0123456789") ⟨#[c]⟩ 0 (Str.ofString "0123456789").length 1).isEmpty) = b from (in_09 c).trans hb2.symm]
      exact hR _ (Same.refl _)
    intro H2 s2 ha
    refine ⟨D, _, rfl, .inl (.inl ha), ?_⟩
    rw [← eb]
    cases hd : z.cps.toList.all digB with
    | false =>
      refine ⟨false, rfl, iteB1 (by rfl) ?_⟩
      exact no (by rw [hd, Bool.and_false]; rfl) _ s2
    | true =>
      refine ⟨true, rfl, iteB0 (by rfl) ?_⟩
      have hne : z.cps.toList ≠ [] := fun e => by
        have : z.length = 0 := by rw [← h4, ← Array.length_toList, e]; rfl
        omega
      obtain ⟨c0, cs, hcs⟩ : ∃ c0 cs, z.cps.toList = c0 :: cs := by
        cases h : z.cps.toList with
        | nil => exact absurd h hne
        | cons c cs => exact ⟨c, cs, rfl⟩
      have h0 : atI z.cps.toList 0 = some c0 := atI_nat (j := 0) (by rw [hcs]; rfl)
      have e48 : (V.str ⟨#[c0]⟩ = V.str "0") ↔ c0 = 48 := by
        constructor
        · intro e
          have := congrArg (fun v => match v with | V.str y => y.cps.toList | _ => []) e
          have e0 : ("0" : Str).cps.toList = [48] := by decide +kernel
          simp only [e0] at this
          exact (List.cons.inj this).1
        · rintro rfl; decide +kernel
      have yes : lead0 z = false → ∀ H', Same H H' → Q (.int ((NumText.digitsVal z.cps.toList : Nat) : Int)) H' := fun h H' s' => by
        have := q H' s'
        unfold numV numIn at this
        rw [hd, h, decide_eq_true (show 1 ≤ z.length by omega), decide_eq_true (show z.length ≤ 60 by omega)] at this
        exact this
      have it := PySem.intText_digits (digs_of hd) hne (show z.length ≤ 4300 by omega)
      have ez : (V.str z = V.str "0") ↔ z.cps.toList = [48] := by
        have e0 : ("0" : Str).cps.toList = [48] := by decide +kernel
        constructor
        · intro e; rw [V.str.inj e]; exact e0
        · intro e; congr 1; exact Str.ext' (Array.toList_inj.mp (e.trans e0.symm))
      refine ⟨_, rfl, z, 0, c0, rfl, rfl, Nat.le_trans hz (by decide), h0, rfl, _, rfl, ?_⟩
      by_cases hc : c0 = 48
      · refine decT (e48.mpr hc) ⟨_, rfl, rfl, _, rfl, ?_⟩
        by_cases h6 : cs = []
        · refine iteB0 (by rw [decide_eq_true (ez.mpr (by rw [hcs, h6, hc]))]; rfl) ?_
          refine ⟨_, rfl, z, _, rfl, it, by omega, yes ?_ _ s2⟩
          have : z.length = 1 := by rw [← h4, ← Array.length_toList, hcs, h6]; rfl
          unfold lead0
          rw [decide_eq_false (show ¬ 1 < z.length by omega), Bool.and_false]
        · refine iteB1 (by rw [decide_eq_false (fun e => h6 (by have := ez.mp e; rw [hcs] at this; exact (List.cons.inj this).2))]; rfl) ?_
          refine no ?_ _ s2
          have hl : 1 < z.length := by
            rw [← h4, ← Array.length_toList, hcs]
            cases cs with
            | nil => exact absurd rfl h6
            | cons c cs => simp
          have : lead0 z = true := by
            unfold lead0
            rw [hcs, decide_eq_true (show (c0 :: cs).head? = some 48 by rw [hc]; rfl), decide_eq_true hl]; rfl
          rw [this, Bool.not_true, Bool.and_false]
      · refine decF (fun e => hc (e48.mp e)) ?_
        refine ⟨_, rfl, z, _, rfl, it, by omega, yes ?_ _ s2⟩
        unfold lead0
        rw [hcs, decide_eq_false (show ¬ (c0 :: cs).head? = some 48 by intro e; exact hc (Option.some.inj e))]
        rfl
end
/-- the deal: a number not below 0, a seed, a count of at most n -/
def Deal (H : Hp) (a : Addr) (n : Int) : Prop := ∃ d s m : Int, H a = some (.lst [.int d, .int s, .int m]) ∧ 0 ≤ d ∧ 0 ≤ s ∧ s < 2 ^ 62 ∧ 0 ≤ m ∧ m ≤ n
theorem Deal.mono {H : Hp} {a : Addr} {n k : Int} (h : Deal H a n) (e : n ≤ k) : Deal H a k := by
  obtain ⟨d, s, m, h1, h2, h3, h4, h5, h6⟩ := h
  exact ⟨d, s, m, h1, h2, h3, h4, h5, by omega⟩
theorem Deal.same {H H' : Hp} {a : Addr} {n : Int} (h : Deal H a n) (e : Same H H') : Deal H' a n := by
  obtain ⟨d, s, m, h1, r⟩ := h
  exact ⟨d, s, m, e _ _ h1, r⟩
theorem Deal.ne {H : Hp} {a b : Addr} {n : Int} (h : Deal H a n) (e : H b = none) : b ≠ a := fun z => by
  obtain ⟨d, s, m, h1, r⟩ := h
  rw [z, h1] at e; cases e
theorem dl_nat {x : Int} {n : Nat} (h0 : 0 ≤ x) (h1 : x < ((2 ^ n : Nat) : Int)) : x.natAbs < 2 ^ n := by omega
theorem dl_bit (b : Bool) : (if b = true then (1 : Int) else 0).natAbs < 2 ^ 2 ∧ (0 : Int) ≤ (if b = true then (1 : Int) else 0) := by cases b <;> exact ⟨by decide, by decide⟩
theorem dl_prime {m : Int} (h0 : 0 ≤ m) : ∃ v : Int, atI [V.int 2147483647, V.int 2147483629, V.int 2147483587, V.int 2147483579, V.int 2147483563, V.int 2147483549, V.int 2147483543, V.int 2147483497] (m % 8) = some (.int v) ∧ 0 < v ∧ v < 2 ^ 31 := by
  have h : m % 8 = 0 ∨ m % 8 = 1 ∨ m % 8 = 2 ∨ m % 8 = 3 ∨ m % 8 = 4 ∨ m % 8 = 5 ∨ m % 8 = 6 ∨ m % 8 = 7 := by omega
  rcases h with h | h | h | h | h | h | h | h <;> rw [h] <;> exact ⟨_, rfl, by decide, by decide⟩
set_option exponentiation.threshold 2000
section
variable {P : Program} {w : World} {K : PySem.W.Frag} {mg : Str → Option Value} {base : Heap}
def sp_L_start_draws (K : PySem.W.Frag) : Sp := fun vs H Q _ => ∃ (a : Addr) (ns : List Int) (pl : Nat), vs = [.ref a, .int (pl : Int)] ∧ SqL K H a (ns.map V.int) ∧ pl ≤ 62 ∧ ∀ H' p, Same H H' → H p = none → Deal H' p 0 → Q (.ref p) H'
theorem ok_L_start_draws (TX : Tx K mg) : FnOk P w K mg base CX0 1 TX.a_L_start_draws TX.fd_L_start_draws ["_law_script", "_law_nth"] (sp_L_start_draws K) := by
  refine TX.f_L_start_draws.ok sc_L_start_draws (fun vs H Q E h => ?_) (fun cdv A outer s H vs Q E hr h => ?_)
  · obtain ⟨a, ns, pl, rfl, _⟩ := h; rfl
  · obtain ⟨a, ns, pl, rfl, hS, hpl, q⟩ := h
    refine ⟨_, (pss_cons (ps_set (i := 2) sc_L_start_draws.nd rfl (.inl rfl) (pe_ifExp (pt_cmpR op_lt (pv 1) (pe_callB (id := "len") (k_len (K := K) rfl) (by rfl) TX.b_len (by decide +kernel) (pa_cons (pv 0) pa_nil)) (nomark _)) (pe_ix (k_ixL (K := K) rfl) (pv 0) (pv 1) (fun _ _ => rfl)) pe_int))
      (pss_cons (ps_set (i := 3) sc_L_start_draws.nd rfl (.inl rfl) (pe_op op_mulW (pe_op op_mod (pe_callB (id := "abs") call_abs (by rfl) TX.b_abs (by decide +kernel) (pa_cons (pv 2) pa_nil)) (pe_op op_powW (pe_op op_powW pe_int pe_int) pe_int)) (pe_callTy (T := "int") call_int1 (by rfl) TX.b_int (by decide +kernel) (pa_cons (pe_cmpR op_ge (pe_callB (id := "abs") call_abs (by rfl) TX.b_abs (by decide +kernel) (pa_cons (pv 2) pa_nil)) (pe_op op_powW pe_int pe_int) (nomark _)) pa_nil))))
      (pss_one (ps_ret (pe_lst (pa_cons (pv 3) (pa_cons (pe_op op_add (pe_op op_add (pe_op op_mod (pv 2) pe_int) (pe_op op_mulW pe_int (pv 1))) pe_int) (pa_cons pe_int pa_nil)))))))), ?_⟩
    have P0 : (0 : Int) < (10 ^ (60 : Int).toNat) ^ (5 : Int).toNat := by decide +kernel
    have P1 : ((10 ^ (60 : Int).toNat) ^ (5 : Int).toNat : Int) < ((2 ^ 1000 : Nat) : Int) := by decide +kernel
    refine ⟨_, rfl, .ref a, rfl, a, _, rfl, .inl hS, _, _, rfl, rfl, _, rfl, ite2 (fun h => ?_) (fun h => ?_)⟩
    · have hlt : pl < ns.length := by
        have := of_decide_eq_true h
        rw [List.length_map] at this
        omega
      refine ⟨.ref a, rfl, _, rfl, a, _, _, .int ns[pl], rfl, rfl, hS, atI_nat (by rw [List.getElem?_map, List.getElem?_eq_getElem hlt]; rfl), ?_⟩
      have c0 := Int.emod_nonneg (ns[pl]) (show (2305843009213693951 : Int) ≠ 0 by decide)
      have c1 := Int.emod_lt_of_pos (ns[pl]) (show (0 : Int) < 2305843009213693951 by decide)
      refine ⟨_, rfl, _, rfl, _, _, rfl, rfl, ⟨by decide, by decide +kernel⟩, _, _, rfl, rfl, ⟨by decide, by decide +kernel⟩, _, _, rfl, rfl, P0, _, rfl, _, rfl, _, _, rfl, rfl, ⟨by decide, by decide +kernel⟩, _, _, rfl, rfl, .inr ⟨_, rfl, _, _, rfl, rfl, ?_, ?_⟩⟩
      · exact wide_mul (a := 1000) (b := 2) (dl_nat (Int.emod_nonneg _ (Int.ne_of_gt P0)) (Int.lt_trans (Int.emod_lt_of_pos _ P0) P1)) (dl_bit _).1 (by decide) (by decide) (by decide)
      · refine ⟨_, rfl, _, rfl, _, _, rfl, rfl, (show (0 : Int) < 2305843009213693951 by decide), _, rfl, _, _, rfl, rfl, wide_mul (a := 17) (b := 7) (by decide) (by omega) (by decide) (by decide) (by decide), _, _, rfl, rfl, _, _, rfl, rfl, sz60 (by simp), fun p np => q _ p (same_upd np) np ⟨_, _, _, upd_same, Int.mul_nonneg (Int.emod_nonneg _ (Int.ne_of_gt P0)) (dl_bit _).2, by omega, by omega, by decide, by decide⟩⟩
    · show tSeq _ _ _ _ _
      have c0 := Int.emod_nonneg (0) (show (2305843009213693951 : Int) ≠ 0 by decide)
      refine ⟨_, rfl, _, rfl, _, _, rfl, rfl, ⟨by decide, by decide +kernel⟩, _, _, rfl, rfl, ⟨by decide, by decide +kernel⟩, _, _, rfl, rfl, P0, _, rfl, _, rfl, _, _, rfl, rfl, ⟨by decide, by decide +kernel⟩, _, _, rfl, rfl, .inr ⟨_, rfl, _, _, rfl, rfl, ?_, ?_⟩⟩
      · exact wide_mul (a := 1000) (b := 2) (dl_nat (Int.emod_nonneg _ (Int.ne_of_gt P0)) (Int.lt_trans (Int.emod_lt_of_pos _ P0) P1)) (dl_bit _).1 (by decide) (by decide) (by decide)
      · refine ⟨_, rfl, _, rfl, _, _, rfl, rfl, (show (0 : Int) < 2305843009213693951 by decide), _, rfl, _, _, rfl, rfl, wide_mul (a := 17) (b := 7) (by decide) (by omega) (by decide) (by decide) (by decide), _, _, rfl, rfl, _, _, rfl, rfl, sz60 (by simp), fun p np => q _ p (same_upd np) np ⟨_, _, _, upd_same, Int.mul_nonneg (Int.emod_nonneg _ (Int.ne_of_gt P0)) (dl_bit _).2, by omega, by omega, by decide, by decide⟩⟩
def sp_L_next (K : PySem.W.Frag) : Sp := fun vs H Q _ => ∃ (a : Addr) (z n : Int), vs = [.ref a, .int z] ∧ Deal H a n ∧ n ≤ 100000 ∧ 1 ≤ z ∧ z ≤ 1000000 ∧ ∀ H' r, But a H H' → Deal H' a (n + 1) → 0 ≤ r → r < z → Q (.int r) H'
theorem ok_L_next (TX : Tx K mg) : FnOk P w K mg base CX0 1 TX.a_L_next TX.fd_L_next ["_law_deal", "_law_upto"] (sp_L_next K) := by
  refine TX.f_L_next.ok sc_L_next (fun vs H Q E h => ?_) (fun cdv A outer s H vs Q E hr h => ?_)
  · obtain ⟨a, z, n, rfl, _⟩ := h; rfl
  · obtain ⟨a, z, n, rfl, ⟨d, sd, m, hp, hd, hs0, hs1, hm0, hm1⟩, hn, hz1, hz2, q⟩ := h
    refine ⟨_, (pss_cons (ps_if (pt_cmpR op_gt (pe_ix (k_ixL (K := K) rfl) (pv 0) pe_int (fun _ _ => rfl)) pe_int (nomark _))
        (pss_cons (ps_set (i := 2) sc_L_next.nd rfl (.inl rfl) (pe_op op_mod (pe_ix (k_ixL (K := K) rfl) (pv 0) pe_int (fun _ _ => rfl)) (pv 1)))
        (pss_cons (ps_asg (pe_op op_fdivW (pe_ix (k_ixL (K := K) rfl) (pv 0) pe_int (fun _ _ => rfl)) (pv 1)) (pg_sub (pv 0) pe_int set_list))
        (pss_one (ps_ret (pv 2)))))
        pss_nil)
      (pss_cons (ps_asg (pe_op op_add (pe_ix (k_ixL (K := K) rfl) (pv 0) pe_int (fun _ _ => rfl)) pe_int) (pg_sub (pv 0) pe_int set_list))
      (pss_cons (ps_set (i := 3) sc_L_next.nd rfl (.inl rfl) (pe_lst (pa_cons pe_int (pa_cons pe_int (pa_cons pe_int (pa_cons pe_int (pa_cons pe_int (pa_cons pe_int (pa_cons pe_int (pa_cons pe_int pa_nil))))))))))
      (pss_cons (ps_set (i := 4) sc_L_next.nd rfl (.inl rfl) (pe_ix (k_ixL (K := K) rfl) (pv 3) (pe_op op_mod (pe_ix (k_ixL (K := K) rfl) (pv 0) pe_int (fun _ _ => rfl)) pe_int) (fun _ _ => rfl)))
      (pss_cons (ps_set (i := 5) sc_L_next.nd rfl (.inl rfl) (pe_op op_add (pe_op op_mod (pe_op op_mod (pe_op op_add (pe_ix (k_ixL (K := K) rfl) (pv 0) pe_int (fun _ _ => rfl)) (pe_op op_mulW (pe_op op_mulW pe_int (pe_ix (k_ixL (K := K) rfl) (pv 0) pe_int (fun _ _ => rfl))) (pe_ix (k_ixL (K := K) rfl) (pv 0) pe_int (fun _ _ => rfl)))) (pe_op op_pow (pv 4) pe_int)) (pv 4)) pe_int))
      (pss_one (ps_ret (pe_op op_mod (pe_op op_fdivW (pe_op op_mod (pe_op op_mulW (pv 5) (pe_op op_add (pe_op op_mod (pv 5) pe_int) (pe_ix (k_ixL (K := K) rfl) (pv 0) pe_int (fun _ _ => rfl)))) (pv 4)) pe_int) (pv 1))))))))), ?_⟩
    refine ⟨.ref a, rfl, a, _, _, .int d, rfl, rfl, .inl (.inl hp), rfl, _, _, rfl, rfl, _, rfl, ite2 (fun h => ?_) (fun h => ?_)⟩
    · refine ⟨.ref a, rfl, a, _, _, .int d, rfl, rfl, .inl (.inl hp), rfl, _, rfl, _, _, rfl, rfl, (show 0 < z by omega), ?_⟩
      refine ⟨.ref a, rfl, a, _, _, .int d, rfl, rfl, .inl (.inl hp), rfl, _, rfl, _, _, rfl, rfl, wide_div (b := 20) (by omega) (by omega) (by decide) (by decide), .ref a, rfl, a, _, 0, 0, rfl, rfl, hp, rfl, ?_⟩
      refine ⟨_, rfl, q _ _ But.upd ⟨d / z, sd, m, upd_same, Int.ediv_nonneg hd (by omega), hs0, hs1, hm0, by omega⟩ (Int.emod_nonneg _ (by omega)) (Int.emod_lt_of_pos _ (by omega))⟩
    · refine ⟨.ref a, rfl, a, _, _, .int m, rfl, rfl, .inl (.inl hp), rfl, _, _, rfl, rfl, .ref a, rfl, a, _, 2, 2, rfl, rfl, hp, rfl, ?_⟩
      have hp1 : (upd H a (.lst (List.set [V.int d, V.int sd, V.int m] 2 (V.int (m + 1))))) a = some (.lst [V.int d, V.int sd, V.int (m + 1)]) := upd_same
      have b1 : But a H (upd H a (.lst (List.set [V.int d, V.int sd, V.int m] 2 (V.int (m + 1))))) := But.upd
      generalize upd H a (.lst (List.set [V.int d, V.int sd, V.int m] 2 (V.int (m + 1)))) = H1 at hp1 b1 ⊢
      refine ⟨sz60 (by simp), fun pl npl => ?_⟩
      have s2 := same_upd (o := .lst [V.int 2147483647, V.int 2147483629, V.int 2147483587, V.int 2147483579, V.int 2147483563, V.int 2147483549, V.int 2147483543, V.int 2147483497]) npl
      have hp2 := s2 _ _ hp1
      obtain ⟨pr, hpr, pr0, pr1⟩ := dl_prime (m := m + 1) (by omega)
      refine ⟨_, rfl, .ref a, rfl, a, _, _, .int (m + 1), rfl, rfl, .inl (.inl hp2), rfl, _, _, rfl, rfl, (show (0 : Int) < 8 by decide), pl, _, _, .int pr, rfl, rfl, .inl (.inl upd_same), hpr, ?_⟩
      have k1 : (m + 1) * (m + 1) ≤ 100001 * 100001 := Int.mul_le_mul (by omega) (by omega) (by omega) (by omega)
      have k2 : (0 : Int) ≤ (m + 1) * (m + 1) := Int.mul_nonneg (by omega) (by omega)
      have p20 : (0 : Int) < pr ^ (2 : Int).toNat := Int.pow_pos pr0
      refine ⟨.ref a, rfl, a, _, _, .int sd, rfl, rfl, .inl (.inl hp2), rfl, .ref a, rfl, a, _, _, .int (m + 1), rfl, rfl, .inl (.inl hp2), rfl, _, _, rfl, rfl, wide_mul (a := 17) (b := 18) (by decide) (by omega) (by decide) (by decide) (by decide), .ref a, rfl, a, _, _, .int (m + 1), rfl, rfl, .inl (.inl hp2), rfl, _, _, rfl, rfl, wide_mul (a := 36) (b := 18) (by omega) (by omega) (by decide) (by decide) (by decide), _, _, rfl, rfl, _, rfl, _, _, rfl, rfl, ⟨by decide, by decide, by omega⟩, _, _, rfl, rfl, p20, _, rfl, _, _, rfl, rfl, pr0, _, _, rfl, rfl, ?_⟩
      generalize hmx : (sd + 69621 * (m + 1) * (m + 1)) % pr ^ (2 : Int).toNat % pr + 1 = mx
      have mx0 : 0 ≤ mx := by
        have := Int.emod_nonneg ((sd + 69621 * (m + 1) * (m + 1)) % pr ^ (2 : Int).toNat) (show pr ≠ 0 by omega)
        omega
      have mx1 : mx ≤ pr := by
        have := Int.emod_lt_of_pos ((sd + 69621 * (m + 1) * (m + 1)) % pr ^ (2 : Int).toNat) pr0
        omega
      refine ⟨_, rfl, _, rfl, _, _, rfl, rfl, (show (0 : Int) < 1009 by decide), .ref a, rfl, a, _, _, .int (m + 1), rfl, rfl, .inl (.inl hp2), rfl, _, _, rfl, rfl, _, _, rfl, rfl, wide_mul (a := 32) (b := 18) (by omega) (by omega) (by decide) (by decide) (by decide), _, rfl, _, _, rfl, rfl, pr0, _, _, rfl, rfl, wide_div (b := 3) (by decide) (by decide) (by decide) (by decide), _, rfl, _, _, rfl, rfl, (show 0 < z by omega), ?_⟩
      exact q _ _ (b1.trans (But.of s2)) ⟨d, sd, m + 1, hp2, hd, hs0, hs1, by omega, by omega⟩ (Int.emod_nonneg _ (by omega)) (Int.emod_lt_of_pos _ (by omega))
def sp_L_pick (K : PySem.W.Frag) : Sp := fun vs H Q _ => ∃ (a l : Addr) (xs : List V) (n : Int), vs = [.ref a, .ref l] ∧ Deal H a n ∧ n ≤ 100000 ∧ H l = some (.lst xs) ∧ l ≠ a ∧ xs ≠ [] ∧ xs.length ≤ 1000 ∧ ∀ H' v, But a H H' → Deal H' a (n + 1) → v ∈ xs → Q v H'
theorem ok_L_pick (TX : Tx K mg) : FnOk P w K mg base CX0 2 TX.a_L_pick TX.fd_L_pick ["_law_deal", "_law_some"] (sp_L_pick K) := by
  refine TX.f_L_pick.ok sc_L_pick (fun vs H Q E h => ?_) (fun cdv A outer s H vs Q E hr h => ?_)
  · obtain ⟨a, l, xs, n, rfl, _⟩ := h; rfl
  · obtain ⟨a, l, xs, n, rfl, hp, hn, hl, nla, hne, hlen, q⟩ := h
    refine ⟨_, (pss_one (ps_ret (pe_ix (k_ixL (K := K) rfl) (pv 1) (pe_call (ok_L_next TX) (hr.mono (by decide)) (by rfl) TX.g_L_next TX.f_L_next.kp TX.bd_L_next .nil pass0 (pa_cons (pv 0) (pa_cons (pe_callB (id := "len") (k_len (K := K) rfl) (by rfl) TX.b_len (by decide +kernel) (pa_cons (pv 1) pa_nil)) pa_nil))) (fun _ _ => rfl)))), ?_⟩
    have h0 : 0 < xs.length := List.length_pos_iff.mpr hne
    refine ⟨.ref l, rfl, .ref a, rfl, .ref l, rfl, l, _, rfl, .inl (.inl (.inl hl)), a, _, n, rfl, hp, hn, by omega, by omega, fun H' r b1 p1 r0 r1 => ?_⟩
    have er : r = ((r.toNat : Nat) : Int) := by omega
    have hr1 : r.toNat < xs.length := by omega
    have hat : atI xs r = some xs[r.toNat] := by
      have := atI_nat (List.getElem?_eq_getElem hr1)
      rwa [← er] at this
    exact ⟨l, xs, r, xs[r.toNat], rfl, rfl, .inl (.inl (b1 _ _ nla hl)), hat, q _ _ b1 p1 (List.getElem_mem ..)⟩
end
theorem Deal.keep {K : PySem.W.Frag} {H H' : Hp} {a : Addr} {n : Int} (h : Deal H a n) (e : But a H H') : Keep K H H' := by
  obtain ⟨d, s, m, h1, r⟩ := h
  exact But.keep e h1
theorem Deal.upd {H : Hp} {a l : Addr} {n : Int} {o : HO} (h : Deal H a n) (e : l ≠ a) : Deal (L2.upd H l o) a n := by
  obtain ⟨d, s, m, h1, r⟩ := h
  exact ⟨d, s, m, by rw [upd_ne e.symm]; exact h1, r⟩
theorem But.mut {a l : Addr} {H H' : Hp} {o : HO} (b : But a H H') (h : H l = none) : But a H (L2.upd H' l o) := fun c u n e => by
  rw [upd_ne (ne_of_none e h)]; exact b _ _ n e
/-- numbers drawn, each below z -/
theorem lc_drawn {lo : Int} {n j : Nat} {vs : List Nat} {σ : L2.St} {H1 : Hp} {D a : Addr} {Qd : Hp → Prop} {te : TE} {n0 : Int} {z : Nat} (hn : n ≤ 60) (hD : H1 D = none) (hp : Deal H1 a n0)
    (hw : ∀ x, wipe ((wipe σ vs).set j (some x)) vs = wipe σ vs)
    (ht : ∀ x H' m (R : V → Hp → Prop), m < n0 + n → But a H1 (H') → Deal H' a m → (∀ H'' (r : Nat), But a H' H'' → Deal H'' a (m + 1) → r < z → R (.int (r : Int)) H'') → te ((wipe σ vs).set j (some x)) H' R)
    (hd : ∀ H xs, But a H1 H → Deal H a (n0 + n) → H D = some (.lst (vi xs)) → xs.length = n → (∀ x, x ∈ xs → x < z) → Qd H) :
    ∃ W : Nat → Nat → Hp → Prop, (∃ m, W 0 m (upd H1 D (.lst []))) ∧ ∀ i m H, W i m H →
      ((Itr lo n).stop i H ∧ Qd H) ∨ ((Itr lo n).go i H ∧ ∃ Nx : Hp → Prop, (∀ H', Nx H' → ∃ m', m' < m ∧ W (i + 1) m' H') ∧ ∀ x H', (Itr lo n).yld i H x H' → gName j x (wipe σ vs) H' fun σ2 H2 => wipe σ2 vs = wipe σ vs ∧ tYes σ2 H2 fun b H3 =>
        if b = true then te σ2 H3 fun y H4 => ∃ acc, H4 D = some (.lst acc) ∧ acc.length < sizeLine ∧ Nx (upd H4 D (.lst (acc ++ [y]))) else Nx H3) := by
  have nDa : D ≠ a := hp.ne hD
  refine lc_it walk_range (fun i H => ∃ xs : List Nat, But a H1 H ∧ Deal H a (n0 + (i : Int)) ∧ H D = some (.lst (vi xs)) ∧ xs.length = i ∧ ∀ x, x ∈ xs → x < z)
    ⟨[], .of (same_upd hD), (hp.upd nDa).mono (by omega), upd_same, rfl, fun x h => nomatch h⟩ (fun _ _ _ _ => trivial) ?_ ?_
  · rintro i x H H' hi ⟨xs, b, p, hx, hl, hz⟩ ⟨rfl, rfl⟩
    refine ⟨hw _, ?_⟩
    simp only [tYes, if_true]
    refine ht _ _ _ _ (by omega) b p fun H2 r b2 p2 hr => ?_
    have hx2 := b2 _ _ nDa hx
    refine ⟨_, hx2, sz61 (by rw [vi_len]; omega), xs ++ [r], (b.trans b2).mut hD, (p2.upd nDa).mono (by omega), by rw [upd_same, vi_app]; rfl, by rw [List.length_append, hl]; rfl, fun y hy => ?_⟩
    rcases List.mem_append.mp hy with h | h
    · exact hz y h
    · rw [List.mem_singleton.mp h]; exact hr
  · rintro H ⟨xs, b, p, hx, hl, hz⟩
    exact hd H xs b p hx hl hz
/-- data whose repr is short -/
structure Sm (k n : Nat) (d : PyData) : Prop where
  dep : d.depth ≤ k
  shw : d.showable = true
  short : d.leavesShort 40 = true
  bulk : d.bulk ≤ n
  sok : PyData.strOk d.shown = true
theorem Sm.mono {k n k' n' : Nat} {d : PyData} (h : Sm k n d) (e : k ≤ k') (e' : n ≤ n') : Sm k' n' d := ⟨Nat.le_trans h.dep e, h.shw, h.short, Nat.le_trans h.bulk e', h.sok⟩
theorem Sm.t1 {k n : Nat} {d : PyData} (h : Sm k n d) : Sm (k + 1) (n + 4) (.tuple [d]) := by
  obtain ⟨a, b, c, e, zz⟩ := h
  refine ⟨?_, ?_, ?_, ?_, ?_⟩
  · simp [PyData.depth, PyData.depthAll]; omega
  · simp [PyData.showable, PyData.showableAll, b]
  · simp [PyData.leavesShort, PyData.leavesShortAll, c]
  · simp [PyData.bulk, PyData.bulkAll]; omega
  · exact SOk.tup fun y hy => by rw [List.mem_singleton.mp hy]; exact zz
theorem Sm.l1 {k n : Nat} {d : PyData} (h : Sm k n d) : Sm (k + 1) (n + 4) (.list [d]) := by
  obtain ⟨a, b, c, e, zz⟩ := h
  refine ⟨?_, ?_, ?_, ?_, ?_⟩
  · simp [PyData.depth, PyData.depthAll]; omega
  · simp [PyData.showable, PyData.showableAll, b]
  · simp [PyData.leavesShort, PyData.leavesShortAll, c]
  · simp [PyData.bulk, PyData.bulkAll]; omega
  · exact SOk.lst fun y hy => by rw [List.mem_singleton.mp hy]; exact zz
theorem Sm.d1 {k n : Nat} {d : PyData} (h : Sm k n d) : Sm (k + 1) (n + 4) (.dict [(.str "a", d)]) := by
  obtain ⟨a, b, c, e, zz⟩ := h
  have z : (Str.ofString "a").cps.size = 1 := by decide +kernel
  refine ⟨?_, ?_, ?_, ?_, ?_⟩
  · simp [PyData.depth, PyData.depthKv]; omega
  · simp [PyData.showable, PyData.showableKv, b]
  · simp only [PyData.leavesShort, PyData.leavesShortKv, c, Bool.and_true]
    decide +kernel
  · simp [PyData.bulk, PyData.bulkKv]; omega
  · exact SOk.dic1 (SOk.str (strOk_of "a")) zz
theorem But.free {a l : Addr} {H H' : Hp} (b : But a H H') (h : H' l = none) (n : l ≠ a) : H l = none := by
  cases e : H l with
  | none => rfl
  | some o => rw [b _ _ n e] at h; cases h
/-- what is new behind H -/
def nw (H G : Hp) : Hp := fun b => match H b with
  | none => G b
  | some _ => none
theorem nw_at {H G : Hp} {b : Addr} (h : H b = none) : nw H G b = G b := by unfold nw; rw [h]
theorem nw_old {H G : Hp} {b : Addr} {o : HO} (h : H b = some o) : nw H G b = none := by unfold nw; rw [h]
theorem nw_but {a : Addr} {H G G' : Hp} {o : HO} (ha : H a = some o) (b : But a G G') : Same (nw H G) (nw H G') := fun c u e => by
  cases h : H c with
  | some x => rw [nw_old h] at e; cases e
  | none =>
    rw [nw_at h] at e ⊢
    exact b _ _ (fun z => by rw [z, ha] at h; cases h) e
theorem nw_sub {H G : Hp} : Same (nw H G) G := fun c u e => by
  cases h : H c with
  | some x => rw [nw_old h] at e; cases e
  | none => rwa [nw_at h] at e
/-- what texts and numbers there are, where nothing is nested; what stands first in a tuple -/
def plB : PyData → Bool
  | .str z => z == Str.ofString "" || z == Str.ofString "a" || z == Str.ofString "1"
  | .int i => decide (i.natAbs ≤ 10 ^ 30)
  | .tuple (.str z :: ds) => (z == Str.ofString "" || z == Str.ofString "a" || z == Str.ofString "1" || z == Str.ofString "runs" || z == Str.ofString "manual") && decide (ds.length ≤ 1)
  | .tuple ds => decide (ds.length ≤ 1)
  | _ => true
theorem plB_t1 {d : PyData} (h : plB d = true) : plB (.tuple [d]) = true := by
  cases d with
  | str z =>
    have h2 : (z == Str.ofString "" || z == Str.ofString "a" || z == Str.ofString "1") = true := h
    show ((z == Str.ofString "" || z == Str.ofString "a" || z == Str.ofString "1" || z == Str.ofString "runs" || z == Str.ofString "manual") && decide (([] : List PyData).length ≤ 1)) = true
    rw [h2]; rfl
  | _ => rfl
section
variable {P : Program} {w : World} {K : PySem.W.Frag} {mg : Str → Option Value} {base : Heap}
def sp_L_odd (K : PySem.W.Frag) : Sp := fun vs H Q _ => ∃ (a : Addr) (n : Int) (o : HO), vs = [.ref a] ∧ Deal H a n ∧ n ≤ 90000 ∧ H sysModules = some o ∧ a ≠ sysModules ∧ ∀ H' x d, But a H H' → Deal H' a (n + 30) → Dq K (nw H H') x d → Sm 30 200 d → plB d = true → Q x H'
theorem ok_L_odd (TX : Tx K mg) : FnOk P w K mg base CX0 3 TX.a_L_odd TX.fd_L_odd ["_law_deal"] (sp_L_odd K) := by
  refine TX.f_L_odd.ok sc_L_odd (fun vs H Q E h => ?_) (fun cdv A outer s H vs Q E hr h => ?_)
  · obtain ⟨a, n, o, rfl, _⟩ := h; rfl
  · obtain ⟨a, n, o, rfl, hd, hn, hsys, nas, q⟩ := h
    refine ⟨_, (pss_cons (ps_set (i := 1) sc_L_odd.nd rfl (.inl rfl) (pe_lst (pa_cons pe_non (pa_cons pe_bl (pa_cons pe_bl (pa_cons pe_str (pa_cons pe_str (pa_cons pe_str (pa_cons (pe_tup pa_nil) (pa_cons (pe_lst pa_nil) (pa_cons pe_dnewK (pa_cons (pe_tup (pa_cons pe_int pa_nil)) (pa_cons (pe_lst (pa_cons pe_int pa_nil)) (pa_cons (pe_un un_neg pe_int) (pa_cons (pe_op op_powW pe_int pe_int) (pa_cons (pe_tup (pa_cons pe_str (pa_cons pe_int pa_nil))) (pa_cons (pe_tup (pa_cons pe_str pa_nil)) (pa_cons (pe_tup (pa_cons pe_str (pa_cons pe_int pa_nil))) pa_nil))))))))))))))))))
      (pss_cons (ps_set (i := 2) sc_L_odd.nd rfl (.inl rfl) (pe_call (ok_L_pick TX) (hr.mono (by decide)) (by rfl) TX.g_L_pick TX.f_L_pick.kp TX.bd_L_pick .nil pass0 (pa_cons (pv 0) (pa_cons (pv 1) pa_nil))))
      (pss_cons (ps_for PassesOwn.never rfl (pi_range1 (by rfl) TX.b_range (pa_cons (pe_ix (k_ixL (K := K) rfl) (pe_lst (pa_cons pe_int (pa_cons pe_int (pa_cons pe_int (pa_cons pe_int pa_nil))))) (pe_call (ok_L_next TX) (hr.mono (by decide)) (by rfl) TX.g_L_next TX.f_L_next.kp TX.bd_L_next .nil pass0 (pa_cons (pv 0) (pa_cons pe_int pa_nil))) (fun _ _ => rfl)) pa_nil)) (pg_name (i := 3) sc_L_odd.nd rfl (.inl rfl))
        (pss_one (ps_set (i := 2) sc_L_odd.nd rfl (.inl rfl) (pe_ix (k_ixL (K := K) rfl) (pe_lst (pa_cons (pe_tup (pa_cons (pv 2) pa_nil)) (pa_cons (pe_lst (pa_cons (pv 2) pa_nil)) (pa_cons (pe_disp (pps_cons pe_str (pv 2) pps_nil) (by rfl) (by rfl) (by simp) (by decide)) pa_nil)))) (pe_call (ok_L_next TX) (hr.mono (by decide)) (by rfl) TX.g_L_next TX.f_L_next.kp TX.bd_L_next .nil pass0 (pa_cons (pv 0) (pa_cons pe_int pa_nil))) (fun _ _ => rfl)))))
      (pss_one (ps_ret (pv 2)))))), ?_⟩
    refine ⟨sz60 (by simp), fun p1 n1 => ⟨sz60 (by simp), fun p2 n2 p3 n3 => ⟨sz60 (by simp), fun p4 n4 => ⟨sz60 (by simp), fun p5 n5 => ⟨1, rfl, _, _, rfl, rfl, ⟨by decide, by decide +kernel⟩, sz60 (by simp), fun p6 n6 => ⟨sz60 (by simp), fun p7 n7 => ⟨sz60 (by simp), fun p8 n8 => ⟨sz60 (by simp), fun l nl => ?_⟩⟩⟩⟩⟩⟩⟩⟩
    have s1 := same_upd (o := .tup []) n1
    have s2 := same_upd (o := .lst []) n2
    have s3 := same_upd (o := .dK []) n3
    have s4 := same_upd (o := .tup [V.int 0]) n4
    have s5 := same_upd (o := .lst [V.int 0]) n5
    have s6 := same_upd (o := .tup [V.str "a", V.int 1]) n6
    have s7 := same_upd (o := .tup [V.str "runs"]) n7
    have s8 := same_upd (o := .tup [V.str "manual", V.int 1]) n8
    have s9 := same_upd (o := .lst [V.non, V.bl true, V.bl false, V.str "", V.str "a", V.str "1", V.ref p1, V.ref p2, V.ref p3, V.ref p4, V.ref p5, V.int (-1), V.int (10 ^ (30 : Int).toNat), V.ref p6, V.ref p7, V.ref p8]) nl
    have t8 := s8.trans s9
    have t7 := s7.trans t8
    have t6 := s6.trans t7
    have t5 := s5.trans t6
    have t4 := s4.trans t5
    have t3 := s3.trans t4
    have t2 := s2.trans t3
    have sH := s1.trans t2
    have e1 := t2 _ _ (upd_same (H := H) (a := p1) (o := .tup []))
    have e2 := t3 _ _ (upd_same (a := p2) (o := .lst []))
    have e3 := t4 _ _ (upd_same (a := p3) (o := .dK []))
    have e4 := t5 _ _ (upd_same (a := p4) (o := .tup [V.int 0]))
    have e5 := t6 _ _ (upd_same (a := p5) (o := .lst [V.int 0]))
    have e6 := t7 _ _ (upd_same (a := p6) (o := .tup [V.str "a", V.int 1]))
    have e7 := t8 _ _ (upd_same (a := p7) (o := .tup [V.str "runs"]))
    have e8 := s9 _ _ (upd_same (a := p8) (o := .tup [V.str "manual", V.int 1]))
    have el := upd_same (H := upd (upd (upd (upd (upd (upd (upd (upd H p1 (.tup [])) p2 (.lst [])) p3 (.dK [])) p4 (.tup [V.int 0])) p5 (.lst [V.int 0])) p6 (.tup [V.str "a", V.int 1])) p7 (.tup [V.str "runs"])) p8 (.tup [V.str "manual", V.int 1])) (a := l) (o := .lst [V.non, V.bl true, V.bl false, V.str "", V.str "a", V.str "1", V.ref p1, V.ref p2, V.ref p3, V.ref p4, V.ref p5, V.int (-1), V.int (10 ^ (30 : Int).toNat), V.ref p6, V.ref p7, V.ref p8])
    have hda := hd
    obtain ⟨dd, ds, dm, hda', _⟩ := hda
    have fa : ∀ {b : Addr} {G : Hp}, Same H G → G b = none → b ≠ a := fun {b G} sg nb z => by rw [z, sg _ _ hda'] at nb; cases nb
    have fs : ∀ {b : Addr} {G : Hp}, Same H G → G b = none → b ≠ sysModules := fun {b G} sg nb z => by rw [z, sg _ _ hsys] at nb; cases nb
    have g1 : p1 ≠ a := fa (Same.refl H) n1
    have f1 : H p1 = none := n1
    have u2 := s1
    have g2 : p2 ≠ a := fa u2 n2
    have f2 : H p2 = none := u2.free n2
    have y2 : p2 ≠ sysModules := fs u2 n2
    have u3 := u2.trans s2
    have g3 : p3 ≠ a := fa u3 n3
    have f3 : H p3 = none := u3.free n3
    have u4 := u3.trans s3
    have g4 : p4 ≠ a := fa u4 n4
    have f4 : H p4 = none := u4.free n4
    have u5 := u4.trans s4
    have g5 : p5 ≠ a := fa u5 n5
    have f5 : H p5 = none := u5.free n5
    have y5 : p5 ≠ sysModules := fs u5 n5
    have u6 := u5.trans s5
    have g6 : p6 ≠ a := fa u6 n6
    have f6 : H p6 = none := u6.free n6
    have u7 := u6.trans s6
    have g7 : p7 ≠ a := fa u7 n7
    have f7 : H p7 = none := u7.free n7
    have u8 := u7.trans s7
    have g8 : p8 ≠ a := fa u8 n8
    have f8 : H p8 = none := u8.free n8
    have u9 := u8.trans s8
    have gl : l ≠ a := fa u9 nl
    generalize upd (upd (upd (upd (upd (upd (upd (upd (upd H p1 (.tup [])) p2 (.lst [])) p3 (.dK [])) p4 (.tup [V.int 0])) p5 (.lst [V.int 0])) p6 (.tup [V.str "a", V.int 1])) p7 (.tup [V.str "runs"])) p8 (.tup [V.str "manual", V.int 1])) l (.lst [V.non, V.bl true, V.bl false, V.str "", V.str "a", V.str "1", V.ref p1, V.ref p2, V.ref p3, V.ref p4, V.ref p5, V.int (-1), V.int (10 ^ (30 : Int).toNat), V.ref p6, V.ref p7, V.ref p8]) = H9 at sH e1 e2 e3 e4 e5 e6 e7 e8 el ⊢
    have hall : ∀ v, v ∈ [V.non, V.bl true, V.bl false, V.str "", V.str "a", V.str "1", V.ref p1, V.ref p2, V.ref p3, V.ref p4, V.ref p5, V.int (-1), V.int (10 ^ (30 : Int).toNat), V.ref p6, V.ref p7, V.ref p8] → ∃ d, Dq K (nw H H9) v d ∧ Sm 1 20 d ∧ plB d = true := by
      intro v hv
      simp only [List.mem_cons, List.not_mem_nil, or_false] at hv
      rcases hv with rfl | rfl | rfl | rfl | rfl | rfl | rfl | rfl | rfl | rfl | rfl | rfl | rfl | rfl | rfl | rfl
      · exact ⟨_, .nonq, by constructor <;> decide +kernel, by decide +kernel⟩
      · exact ⟨_, .blq _, by constructor <;> decide +kernel, by decide +kernel⟩
      · exact ⟨_, .blq _, by constructor <;> decide +kernel, by decide +kernel⟩
      · exact ⟨_, .strq _, by constructor <;> decide +kernel, by decide +kernel⟩
      · exact ⟨_, .strq _, by constructor <;> decide +kernel, by decide +kernel⟩
      · exact ⟨_, .strq _, by constructor <;> decide +kernel, by decide +kernel⟩
      · exact ⟨.tuple [], .tupq (.inl (.inl (by rw [nw_at f1]; exact e1))) .nil, by constructor <;> decide +kernel, by decide +kernel⟩
      · exact ⟨.list [], .lstq (.inl (.inl (by rw [nw_at f2]; exact e2))) y2 .nil, by constructor <;> decide +kernel, by decide +kernel⟩
      · exact ⟨.dict [], .dctq (kvs := []) (by rw [nw_at f3]; exact e3) rfl .nil, by constructor <;> decide +kernel, by decide +kernel⟩
      · exact ⟨.tuple [.int 0], .tupq (.inl (.inl (by rw [nw_at f4]; exact e4))) (.cons (.intq _) .nil), by constructor <;> decide +kernel, by decide +kernel⟩
      · exact ⟨.list [.int 0], .lstq (.inl (.inl (by rw [nw_at f5]; exact e5))) y5 (.cons (.intq _) .nil), by constructor <;> decide +kernel, by decide +kernel⟩
      · exact ⟨_, .intq _, by constructor <;> decide +kernel, by decide +kernel⟩
      · exact ⟨_, .intq _, by constructor <;> decide +kernel, by decide +kernel⟩
      · exact ⟨.tuple [.str "a", .int 1], .tupq (.inl (.inl (by rw [nw_at f6]; exact e6))) (.cons (.strq _) (.cons (.intq _) .nil)), by constructor <;> decide +kernel, by decide +kernel⟩
      · exact ⟨.tuple [.str "runs"], .tupq (.inl (.inl (by rw [nw_at f7]; exact e7))) (.cons (.strq _) .nil), by constructor <;> decide +kernel, by decide +kernel⟩
      · exact ⟨.tuple [.str "manual", .int 1], .tupq (.inl (.inl (by rw [nw_at f8]; exact e8))) (.cons (.strq _) (.cons (.intq _) .nil)), by constructor <;> decide +kernel, by decide +kernel⟩
    refine ⟨.ref a, rfl, .ref l, rfl, a, l, _, n, rfl, hd.same sH, by omega, el, gl, by simp, by simp, fun H10 v b10 d10 hv => ?_⟩
    obtain ⟨d0, hq0, hs0, hp0⟩ := hall v hv
    have b1 : But a H H10 := (But.of sH).trans b10
    have hq1 := Dq.same (nw_but hda' b10) hq0
    clear e1 e2 e3 e4 e5 e6 e7 e8 el s1 s2 s3 s4 s5 s6 s7 s8 s9 t2 t3 t4 t5 t6 t7 t8 u2 u3 u4 u5 u6 u7 u8 u9 hall hq0 hv
    refine ⟨sz60 (by simp), fun z nz => ⟨.ref a, rfl, a, 4, n + 1, rfl, d10.same (same_upd nz), by omega, by decide, by decide, fun H11 r b11 d11 r0 r1 => ?_⟩⟩
    have sz := same_upd (o := .lst [V.int 0, V.int 0, V.int 1, V.int 20]) nz
    have nza : z ≠ a := d10.ne nz
    obtain ⟨k, hk, hk2⟩ : ∃ k : Nat, atI [V.int 0, V.int 0, V.int 1, V.int 20] r = some (.int (k : Int)) ∧ k ≤ 20 := by
      have h : r = 0 ∨ r = 1 ∨ r = 2 ∨ r = 3 := by omega
      rcases h with rfl | rfl | rfl | rfl
      · exact ⟨0, rfl, by decide⟩
      · exact ⟨0, rfl, by decide⟩
      · exact ⟨1, rfl, by decide⟩
      · exact ⟨20, rfl, by decide⟩
    have b2 : But a H H11 := (b1.trans (But.of sz)).trans b11
    have hq2 := Dq.same (nw_but hda' ((But.of sz).trans b11)) hq1
    refine ⟨z, _, r, .int (k : Int), rfl, rfl, .inl (.inl (b11 _ _ nza upd_same)), hk, _, rfl, by omega, by omega, ?_⟩
    rw [show ((k : Int)).toNat = k by omega]
    refine for_range (lo := 0) (n := k) (fun i σ H' => ∃ x d y3, σ = [some (.ref a), some (.ref l), some x, y3] ∧ But a H H' ∧ Deal H' a (n + 2 + (i : Int)) ∧ Dq K (nw H H') x d ∧ Sm (1 + i) (20 + 4 * i) d ∧ plB d = true) ⟨v, d0, none, rfl, b2, d11.mono (by omega), hq2, hs0, hp0⟩ ?_ ?_
    · rintro i σ H1 hi ⟨x, d, y3, rfl, b3, d3, hq3, hs3, hp3⟩
      have hi' : i < k := hi
      have hsys1 : H1 sysModules = some o := b3 _ _ (Ne.symm nas) hsys
      refine ⟨x, rfl, sz60 (by simp), fun q1 m1 => ⟨x, rfl, sz60 (by simp), fun q2 m2 q3 m3 => ⟨x, rfl, upd_same, [(.inr "a", x)], rfl, by simp, ?_⟩⟩⟩
      rw [upd_upd]
      refine ⟨sz60 (by simp), fun q4 m4 => ?_⟩
      have w1 := same_upd (o := .tup [x]) m1
      have w2 := same_upd (o := .lst [x]) m2
      have w3 := same_upd (o := .dK [(.inr "a", x)]) m3
      have w4 := same_upd (o := .lst [V.ref q1, V.ref q2, V.ref q3]) m4
      have v3 := w3.trans w4
      have v2 := w2.trans v3
      have v1 := w1.trans v2
      have e1 := v2 _ _ (upd_same (a := q1) (o := .tup [x]))
      have e2 := v3 _ _ (upd_same (a := q2) (o := .lst [x]))
      have e3 := w4 _ _ (upd_same (a := q3) (o := .dK [(.inr "a", x)]))
      have g1 : q1 ≠ a := d3.ne m1
      have k1 : H q1 = none := b3.free m1 g1
      have g2 : q2 ≠ a := (d3.same w1).ne m2
      have k2 : H q2 = none := b3.free (w1.free m2) g2
      have y2 : q2 ≠ sysModules := fun z => by rw [z, w1 _ _ hsys1] at m2; cases m2
      have g3 : q3 ≠ a := (d3.same (w1.trans w2)).ne m3
      have k3 : H q3 = none := b3.free ((w1.trans w2).free m3) g3
      have g4 : q4 ≠ a := (d3.same ((w1.trans w2).trans w3)).ne m4
      refine ⟨.ref a, rfl, a, 3, _, rfl, d3.same v1, by omega, by decide, by decide, fun H5 r5 b5 d5 r50 r51 => ?_⟩
      have bb : But a H1 H5 := (But.of v1).trans b5
      have hx := Dq.same (nw_but hda' bb) hq3
      have hat : ∃ y d', atI [V.ref q1, V.ref q2, V.ref q3] r5 = some y ∧ Dq K (nw H H5) y d' ∧ Sm (1 + (i + 1)) (20 + 4 * (i + 1)) d' ∧ plB d' = true := by
        have h : r5 = 0 ∨ r5 = 1 ∨ r5 = 2 := by omega
        rcases h with rfl | rfl | rfl
        · exact ⟨_, .tuple [d], rfl, .tupq (.inl (.inl (by rw [nw_at k1]; exact b5 _ _ g1 e1))) (.cons hx .nil), hs3.t1, plB_t1 hp3⟩
        · exact ⟨_, .list [d], rfl, .lstq (.inl (.inl (by rw [nw_at k2]; exact b5 _ _ g2 e2))) y2 (.cons hx .nil), hs3.l1, rfl⟩
        · exact ⟨_, .dict [(.str "a", d)], rfl, .dctq (kvs := [(.inr "a", x)]) (by rw [nw_at k3]; exact b5 _ _ g3 e3) rfl (.cons hx .nil), hs3.d1, rfl⟩
      obtain ⟨y, d', hy, hyq, hys, hyp⟩ := hat
      refine ⟨q4, _, r5, y, rfl, rfl, .inl (.inl (b5 _ _ g4 upd_same)), hy, y, d', _, rfl, b3.trans bb, d5.mono ?_, hyq, hys, hyp⟩
      omega
    · rintro σ H1 ⟨x, d, y3, rfl, b3, d3, hq3, hs3, hp3⟩
      exact ⟨x, rfl, q _ x d b3 (d3.mono (by omega)) hq3 (hs3.mono (by omega) (by omega)) hp3⟩
end
/-- no int, or a bool -/
def NotJ (K : PySem.W.Frag) (H : Hp) (x : V) : Prop := ∃ T b1 b2, TyX K H x (.type T) ∧ L2.kitB T "int" = some b1 ∧ L2.kitB T "bool" = some b2 ∧ (b1 && !b2) = false
theorem tyx_same {K : PySem.W.Frag} {H H' : Hp} (s : Same H H') {x : V} {t : Value} (h : TyX K H x t) : TyX K H' x t := by
  cases h with
  | base h =>
    cases h with
    | non => exact .base .non
    | bl x => exact .base (.bl x)
    | int i => exact .base (.int i)
    | str x => exact .base (.str x)
    | flt x => exact .base (.flt x)
    | lst e => exact .base (.lst (s _ _ e))
    | frz e => exact .base (.frz (s _ _ e))
    | tup e => exact .base (.tup (s _ _ e))
    | dK e => exact .base (.dK (s _ _ e))
    | dT e => exact .base (.dT (s _ _ e))
    | ins e c1 c2 c3 c4 c5 => exact .base (.ins (s _ _ e) c1 c2 c3 c4 c5)
  | byt b => exact .byt b
  | set e => exact .set (s _ _ e)
  | kList e c => exact .kList e c
  | kTuple e c => exact .kTuple e c
  | kDict e c => exact .kDict e c
  | fTuple e => exact .fTuple (s _ _ e)
  | fDict e => exact .fDict (s _ _ e)
section
variable {P : Program} {w : World} {K : PySem.W.Frag} {mg : Str → Option Value} {base : Heap}
def sp_is_intD (K : PySem.W.Frag) : Sp := fun vs H Q _ => ∃ x T b1 b2, vs = [x] ∧ TyX K H x (.type T) ∧ L2.kitB T "int" = some b1 ∧ L2.kitB T "bool" = some b2 ∧ Q (.bl (b1 && !b2)) H
theorem ok_is_intD (TX : Tx K mg) : FnOk P w K mg base CX0 1 TX.a_is_int TX.fd_is_int ["value"] (sp_is_intD K) := by
  refine TX.f_is_int.ok sc_is_int (fun vs H Q E h => ?_) (fun cdv A outer s H vs Q E hr h => ?_)
  · obtain ⟨x, T, b1, b2, rfl, _⟩ := h; rfl
  · obtain ⟨x, T, b1, b2, rfl, hT, h1, h2, q⟩ := h
    refine ⟨_, (pss_one (ps_ret (pe_and (pe_callB (id := "isinstance") (k_isi (K := K) rfl) (by rfl) TX.b_isinstance (by decide +kernel) (pa_cons (pv 0) (pa_cons (pe_bltn (v := .ty "int") (by rfl) TX.b_int (by decide +kernel) rfl) pa_nil))) (pe_one (pe_not (pe_callB (id := "isinstance") (k_isi (K := K) rfl) (by rfl) TX.b_isinstance (by decide +kernel) (pa_cons (pv 0) (pa_cons (pe_bltn (v := .ty "bool") (by rfl) TX.b_bool (by decide +kernel) rfl) pa_nil)))))))), ?_⟩
    refine ⟨x, rfl, x, .ty "int", .type T, .type "int", b1, rfl, .ty _, hT, kit_ty h1, b1, rfl, ?_⟩
    cases b1 with
    | false => exact iteF q
    | true => exact iteT ⟨x, rfl, x, .ty "bool", .type T, .type "bool", b2, rfl, .ty _, hT, kit_ty h2, b2, rfl, q⟩
def sp_is_count (K : PySem.W.Frag) : Sp := fun vs H Q _ => ∃ x, vs = [x] ∧ ((∃ i, x = .int i ∧ Q (.bl (decide (0 ≤ i))) H) ∨ (NotJ K H x ∧ Q (.bl false) H))
theorem ok_is_count (TX : Tx K mg) : FnOk P w K mg base CX0 2 TX.a_is_count TX.fd_is_count ["value"] (sp_is_count K) := by
  refine TX.f_is_count.ok sc_is_count (fun vs H Q E h => ?_) (fun cdv A outer s H vs Q E hr h => ?_)
  · obtain ⟨x, rfl, _⟩ := h; rfl
  · obtain ⟨x, rfl, hx⟩ := h
    refine ⟨_, (pss_one (ps_ret (pe_and (pe_call (ok_is_intD TX) (hr.mono (by decide)) (by rfl) TX.g_is_int TX.f_is_int.kp TX.bd_is_int .nil pass0 (pa_cons (pv 0) pa_nil)) (pe_one (pe_cmpR op_ge (pv 0) pe_int (nomark _)))))), ?_⟩
    rcases hx with ⟨i, rfl, q⟩ | ⟨⟨T, b1, b2, hT, h1, h2, hb⟩, q⟩
    · exact ⟨_, rfl, .int i, "int", true, false, rfl, .base (.int i), by decide +kernel, by decide +kernel, true, rfl, iteT ⟨_, rfl, _, _, rfl, rfl, q⟩⟩
    · refine ⟨_, rfl, x, T, b1, b2, rfl, hT, h1, h2, ?_⟩
      rw [hb]
      exact ⟨false, rfl, iteF q⟩
def sp_is_count_up_to (K : PySem.W.Frag) : Sp := fun vs H Q _ => ∃ x m, vs = [x, .int m] ∧ ((∃ i, x = .int i ∧ Q (.bl (decide (0 ≤ i) && decide (i ≤ m))) H) ∨ (NotJ K H x ∧ Q (.bl false) H))
theorem ok_is_count_up_to (TX : Tx K mg) : FnOk P w K mg base CX0 3 TX.a_is_count_up_to TX.fd_is_count_up_to ["value", "most"] (sp_is_count_up_to K) := by
  refine TX.f_is_count_up_to.ok sc_is_count_up_to (fun vs H Q E h => ?_) (fun cdv A outer s H vs Q E hr h => ?_)
  · obtain ⟨x, m, rfl, _⟩ := h; rfl
  · obtain ⟨x, m, rfl, hx⟩ := h
    refine ⟨_, (pss_one (ps_ret (pe_and (pe_call (ok_is_count TX) (hr.mono (by decide)) (by rfl) TX.g_is_count TX.f_is_count.kp TX.bd_is_count .nil pass0 (pa_cons (pv 0) pa_nil)) (pe_one (pe_cmpR op_le (pv 0) (pv 1) (nomark _)))))), ?_⟩
    rcases hx with ⟨i, rfl, q⟩ | ⟨hN, q⟩
    · refine ⟨_, rfl, _, rfl, .inl ⟨i, rfl, _, rfl, ?_⟩⟩
      by_cases h0 : 0 ≤ i
      · rw [decide_eq_true h0] at q ⊢
        exact iteT ⟨_, rfl, _, rfl, _, _, rfl, rfl, q⟩
      · rw [decide_eq_false h0] at q ⊢
        exact iteF q
    · exact ⟨_, rfl, _, rfl, .inr ⟨hN, _, rfl, iteF q⟩⟩
theorem ok_init_InvalidSchedule (TX : Tx K mg) : FnOk P w K mg base CX0 1 TX.fi_InvalidSchedule TX.fdi_InvalidSchedule ["self", "value"] (sp_init K TX.c_InvalidSchedule "value") := by
  refine TX.ui_InvalidSchedule.ok sc_init_InvalidSchedule (fun vs H Q E h => ?_) (fun cdv A outer s H vs Q E hr h => ?_)
  · obtain ⟨a, y, rfl, _⟩ := h; rfl
  · obtain ⟨a, y, rfl, ha, q⟩ := h
    exact ⟨_, (pss_one (ps_ost (pv 0) (pv 1))), y, rfl, .ref a, rfl, a, TX.c_InvalidSchedule, rfl, TX.ox_InvalidSchedule, TX.no_InvalidSchedule, .inl ⟨ha, fun dx n ne => q dx n ne⟩⟩
theorem ok_init_InvalidText (TX : Tx K mg) : FnOk P w K mg base CX0 1 TX.fi_InvalidText TX.fdi_InvalidText ["self", "value"] (sp_init K TX.c_InvalidText "value") := by
  refine TX.ui_InvalidText.ok sc_init_InvalidText (fun vs H Q E h => ?_) (fun cdv A outer s H vs Q E hr h => ?_)
  · obtain ⟨a, y, rfl, _⟩ := h; rfl
  · obtain ⟨a, y, rfl, ha, q⟩ := h
    exact ⟨_, (pss_one (ps_ost (pv 0) (pv 1))), y, rfl, .ref a, rfl, a, TX.c_InvalidText, rfl, TX.ox_InvalidText, TX.no_InvalidText, .inl ⟨ha, fun dx n ne => q dx n ne⟩⟩
/-- a budget, or none -/
def Bud (m : Int) (x : V) : Prop := ∃ i, x = .int i ∧ 0 ≤ i ∧ i ≤ m
def NoBud (K : PySem.W.Frag) (H : Hp) (m : Int) (x : V) : Prop := (∃ i, x = .int i ∧ (decide (0 ≤ i) && decide (i ≤ m)) = false) ∨ NotJ K H x
theorem bud_no {H : Hp} {m : Int} {x : V} (h : Bud m x) (n : NoBud K H m x) : False := by
  obtain ⟨i, rfl, h1, h2⟩ := h
  rcases n with ⟨j, e, hj⟩ | ⟨T, b1, b2, hT, k1, k2, hb⟩
  · cases e
    rw [decide_eq_true h1, decide_eq_true h2] at hj
    cases hj
  · have eT : T = "int" := by
      cases hT with
      | base h => cases h; rfl
    subst eT
    have e1 : L2.kitB "int" "int" = some true := by decide +kernel
    have e2 : L2.kitB "int" "bool" = some false := by decide +kernel
    rw [e1] at k1
    rw [e2] at k2
    cases k1
    cases k2
    cases hb
end
def isTup : PyData → Bool
  | .tuple _ => true
  | _ => false
theorem tup_ty {K : PySem.W.Frag} {H : Hp} {x : V} {d : PyData} (h : Dq K H x d) : ∃ T, TyX K H x (.type T) ∧ L2.kitB T "tuple" = some (isTup d) := by
  cases h with
  | nonq => exact ⟨"NoneType", .base .non, show L2.kitB "NoneType" "tuple" = some false by decide +kernel⟩
  | blq b => exact ⟨"bool", .base (.bl b), show L2.kitB "bool" "tuple" = some false by decide +kernel⟩
  | intq i => exact ⟨"int", .base (.int i), show L2.kitB "int" "tuple" = some false by decide +kernel⟩
  | strq x => exact ⟨"str", .base (.str x), show L2.kitB "str" "tuple" = some false by decide +kernel⟩
  | lstq hs _ _ =>
    refine ⟨"list", ?_, show L2.kitB "list" "tuple" = some false by decide +kernel⟩
    rcases hs with (h | ⟨o, h⟩) | ⟨o, its, n, h1, h2, _⟩
    · exact .base (.lst h)
    · exact .base (.frz h)
    · exact .kList h1 h2
  | tupq hs _ =>
    refine ⟨"tuple", ?_, show L2.kitB "tuple" "tuple" = some true by decide +kernel⟩
    rcases hs with (h | ⟨o, h⟩) | ⟨o, its, n, h1, h2, _⟩
    · exact .base (.tup h)
    · exact .fTuple h
    · exact .kTuple h1 h2
  | dctq he _ _ => exact ⟨"dict", .base (.dK he), show L2.kitB "dict" "tuple" = some false by decide +kernel⟩
theorem DqAll.at {K : PySem.W.Frag} {H : Hp} : ∀ {vs : List V} {ds : List PyData} {i : Nat} {v : V}, DqAll K H vs ds → vs[i]? = some v → ∃ d, ds[i]? = some d ∧ Dq K H v d := fun {vs} => by
  induction vs with
  | nil => intro ds i v h e; simp at e
  | cons u us ih =>
    intro ds i v h e
    cases h with
    | cons a b =>
      cases i with
      | zero => cases e; exact ⟨_, rfl, a⟩
      | succ i => obtain ⟨d, h1, h2⟩ := ih b e; exact ⟨d, h1, h2⟩
theorem DqAll.len {K : PySem.W.Frag} {H : Hp} : ∀ {vs : List V} {ds : List PyData}, DqAll K H vs ds → vs.length = ds.length
  | _, _, .nil => rfl
  | _, _, .cons a b => by simp [DqAll.len b]
/-! ### bound tables, of values of any kind -/
def isIntD : PyData → Bool
  | .int _ => true
  | _ => false
theorem intD_ty {K : PySem.W.Frag} {H : Hp} {x : V} {d : PyData} (h : Dq K H x d) : ∃ T b1 b2, TyX K H x (.type T) ∧ L2.kitB T "int" = some b1 ∧ L2.kitB T "bool" = some b2 ∧ (b1 && !b2) = isIntD d := by
  cases h with
  | nonq => exact ⟨"NoneType", false, false, .base .non, by decide +kernel, by decide +kernel, rfl⟩
  | blq b => exact ⟨"bool", true, true, .base (.bl b), by decide +kernel, by decide +kernel, rfl⟩
  | intq i => exact ⟨"int", true, false, .base (.int i), by decide +kernel, by decide +kernel, rfl⟩
  | strq x => exact ⟨"str", false, false, .base (.str x), by decide +kernel, by decide +kernel, rfl⟩
  | lstq hs _ _ =>
    refine ⟨"list", false, false, ?_, by decide +kernel, by decide +kernel, rfl⟩
    rcases hs with (h | ⟨o, h⟩) | ⟨o, its, n, h1, h2, _⟩
    · exact .base (.lst h)
    · exact .base (.frz h)
    · exact .kList h1 h2
  | tupq hs _ =>
    refine ⟨"tuple", false, false, ?_, by decide +kernel, by decide +kernel, rfl⟩
    rcases hs with (h | ⟨o, h⟩) | ⟨o, its, n, h1, h2, _⟩
    · exact .base (.tup h)
    · exact .fTuple h
    · exact .kTuple h1 h2
  | dctq he _ _ => exact ⟨"dict", false, false, .base (.dK he), by decide +kernel, by decide +kernel, rfl⟩
def NoInt : PyData → Prop
  | .int _ => False
  | _ => True
theorem notJ_of {K : PySem.W.Frag} {H : Hp} {x : V} {d : PyData} (h : Dq K H x d) (hn : NoInt d) : NotJ K H x := by
  cases h with
  | nonq => exact ⟨"NoneType", false, false, .base .non, by decide +kernel, by decide +kernel, rfl⟩
  | blq b => exact ⟨"bool", true, true, .base (.bl b), by decide +kernel, by decide +kernel, rfl⟩
  | intq i => exact (show False from hn).elim
  | strq x => exact ⟨"str", false, false, .base (.str x), by decide +kernel, by decide +kernel, rfl⟩
  | lstq hs _ _ =>
    refine ⟨"list", false, false, ?_, by decide +kernel, by decide +kernel, rfl⟩
    rcases hs with (h | ⟨o, h⟩) | ⟨o, its, n, h1, h2, _⟩
    · exact .base (.lst h)
    · exact .base (.frz h)
    · exact .kList h1 h2
  | tupq hs _ =>
    refine ⟨"tuple", false, false, ?_, by decide +kernel, by decide +kernel, rfl⟩
    rcases hs with (h | ⟨o, h⟩) | ⟨o, its, n, h1, h2, _⟩
    · exact .base (.tup h)
    · exact .fTuple h
    · exact .kTuple h1 h2
  | dctq he _ _ => exact ⟨"dict", false, false, .base (.dK he), by decide +kernel, by decide +kernel, rfl⟩
theorem dpBoolsI {K : PySem.W.Frag} {H : Hp} : ∀ {vs : List V} {bs : List Bool}, DpAll K H vs (bs.map PyData.bool) → vs = bs.map V.bl
  | _, [], .nil => rfl
  | _, _ :: _, .cons a b => by
    cases a
    rw [dpBoolsI b]; rfl
/-! ### schedules, of values of any kind -/
def isSchR : Nat → List PyData → Bool
  | _, [] => true
  | r, .int i :: ds => (decide (0 ≤ i) && decide (i ≤ (r : Int))) && isSchR (r + 1 - i.toNat) ds
  | _, _ :: _ => false
def isSchD : PyData → Bool
  | .tuple ds => decide (ds.length ≤ 60) && isSchR 0 ds
  | _ => false
section
variable {P : Program} {w : World} {K : PySem.W.Frag} {mg : Str → Option Value} {base : Heap}
def sp_is_schedule (K : PySem.W.Frag) : Sp := fun vs H Q _ => ∃ (x : V) (d : PyData), vs = [x] ∧ Dq K H x d ∧ Q (.bl (isSchD d)) H
theorem ok_is_schedule (TX : Tx K mg) : FnOk P w K mg base CX0 4 TX.a_is_schedule TX.fd_is_schedule ["value"] (sp_is_schedule K) := by
  refine TX.f_is_schedule.ok sc_is_schedule (fun vs H Q E h => ?_) (fun cdv A outer s H vs Q E hr h => ?_)
  · obtain ⟨x, d, rfl, _⟩ := h; rfl
  · obtain ⟨x, d, rfl, hq, q⟩ := h
    refine ⟨_, (pss_cons (ps_if (PW.pt (pw_or (pt_not (pt_val (pe_callB (id := "isinstance") (k_isi (K := K) rfl) (by rfl) TX.b_isinstance (by decide +kernel) (pa_cons (pv 0) (pa_cons (pe_bltn (v := .ty "tuple") (by rfl) TX.b_tuple (by decide +kernel) rfl) pa_nil))))) (pw_or1 (pt_cmpR op_gt (pe_callB (id := "len") (k_len (K := K) rfl) (by rfl) TX.b_len (by decide +kernel) (pa_cons (pv 0) pa_nil)) (pe_glob (v := .int (60)) (by rfl) TX.c_MOST_FLUSHES ⟨_, rfl⟩) (nomark _)))))
        (pss_one (ps_ret pe_bl))
        pss_nil)
      (pss_cons (ps_set (i := 1) sc_is_schedule.nd rfl (.inl rfl) pe_int)
      (pss_cons (ps_for PassesOwn.never rfl (k_piT (K := K) rfl (pv 0)) (pg_name (i := 2) sc_is_schedule.nd rfl (.inl rfl))
        (pss_cons (ps_if (pt_not (pt_val (pe_call (ok_is_count_up_to TX) (hr.mono (by decide)) (by rfl) TX.g_is_count_up_to TX.f_is_count_up_to.kp TX.bd_is_count_up_to .nil pass0 (pa_cons (pv 2) (pa_cons (pv 1) pa_nil)))))
          (pss_one (ps_ret pe_bl))
          pss_nil)
        (pss_one (ps_set (i := 1) sc_is_schedule.nd rfl (.inl rfl) (pe_op op_add (pe_op op_sub (pv 1) (pv 2)) pe_int)))))
      (pss_one (ps_ret pe_bl))))), ?_⟩
    obtain ⟨T, hT, hkT⟩ := tup_ty hq
    refine ⟨x, rfl, x, .ty "tuple", .type T, .type "tuple", isTup d, rfl, .ty _, hT, kit_ty hkT, isTup d, rfl, ?_⟩
    by_cases ht : isTup d = true
    rotate_left
    · have ht' : isTup d = false := by simpa using ht
      rw [ht']
      refine iteT ?_
      have e : isSchD d = false := by cases d <;> first | rfl | exact (ht rfl).elim
      rw [e] at q
      exact q
    rw [ht]
    refine iteF ?_
    cases hq with
    | @tupq a xs ds h1 hA =>
      have hl := hA.len
      refine ⟨.ref a, rfl, a, _, rfl, .inr h1, _, _, rfl, rfl, _, rfl, ?_⟩
      have e0 : isSchD (.tuple ds) = (decide (ds.length ≤ 60) && isSchR 0 ds) := rfl
      by_cases hlk : ds.length ≤ 60
      rotate_left
      · refine decT (by omega) ?_
        rw [e0, decide_eq_false hlk, Bool.false_and] at q
        exact q
      refine decF (by omega) ?_
      rw [e0, decide_eq_true hlk, Bool.true_and] at q
      refine ⟨.ref a, rfl, a, rfl, ⟨_, h1⟩, for_tup (K := K) (xs := xs) (fun i σ H' => H' = H ∧ ∃ (r : Nat) (y2 : Option V), σ = [some (.ref a), some (.int (r : Int)), y2] ∧ isSchR r (ds.drop i) = isSchR 0 ds) ⟨rfl, 0, none, rfl, rfl⟩ (fun i σ H' _ h => by rw [h.1]; exact h1) ?_ ?_⟩
      · rintro i x σ H' hx ⟨rfl, r, y2, rfl, hr⟩
        obtain ⟨e, he, hqe⟩ := hA.at hx
        have hi : i < ds.length := (List.getElem?_eq_some_iff.mp he).1
        have ed : ds.drop i = e :: ds.drop (i + 1) := by
          rw [List.drop_eq_getElem_cons hi]
          congr 1
          exact (List.getElem?_eq_some_iff.mp he).2
        rw [ed] at hr
        by_cases hn : NoInt e
        · have e2 : isSchR r (e :: ds.drop (i + 1)) = false := by cases e <;> first | rfl | exact hn.elim
          rw [e2] at hr
          rw [← hr] at q
          refine ⟨_, rfl, _, rfl, x, (r : Int), rfl, .inr ⟨notJ_of hqe hn, false, rfl, iteT q⟩⟩
        · cases hqe with
          | intq n =>
            have e2 : isSchR r (.int n :: ds.drop (i + 1)) = ((decide (0 ≤ n) && decide (n ≤ (r : Int))) && isSchR (r + 1 - n.toNat) (ds.drop (i + 1))) := rfl
            rw [e2] at hr
            by_cases hb : (decide (0 ≤ n) && decide (n ≤ (r : Int))) = true
            · rw [hb, Bool.true_and] at hr
              simp only [Bool.and_eq_true, decide_eq_true_eq] at hb
              refine ⟨_, rfl, _, rfl, .int n, (r : Int), rfl, .inl ⟨n, rfl, true, by rw [decide_eq_true hb.1, decide_eq_true hb.2]; rfl, iteF ⟨_, rfl, _, rfl, _, _, rfl, rfl, _, _, rfl, rfl, rfl, r + 1 - n.toNat, some (.int n), ?_, hr⟩⟩⟩
              show [_, _, _] = [_, _, _]
              have e3 : (r : Int) - n + 1 = ((r + 1 - n.toNat : Nat) : Int) := by omega
              rw [← e3]
            · have hb' : (decide (0 ≤ n) && decide (n ≤ (r : Int))) = false := by simpa using hb
              rw [hb', Bool.false_and] at hr
              rw [← hr] at q
              exact ⟨_, rfl, _, rfl, .int n, (r : Int), rfl, .inl ⟨n, rfl, false, by rw [hb'], iteT q⟩⟩
          | nonq => exact (hn trivial).elim
          | blq b => exact (hn trivial).elim
          | strq x => exact (hn trivial).elim
          | lstq _ _ _ => exact (hn trivial).elim
          | tupq _ _ => exact (hn trivial).elim
          | dctq _ _ _ => exact (hn trivial).elim
      · rintro σ H' ⟨rfl, r, y2, rfl, hr⟩
        rw [hl, List.drop_length] at hr
        have e2 : isSchR r [] = true := by unfold isSchR; rfl
        rw [e2] at hr
        rw [← hr] at q
        exact q
    | nonq => cases ht
    | blq b => cases ht
    | intq i => cases ht
    | strq x => cases ht
    | lstq _ _ _ => cases ht
    | dctq _ _ _ => cases ht
end
/-- words with single spaces between them -/
def joinW (ys : List Str) : Str := if ys.isEmpty then "-" else Txt.join " " ys
section
variable {P : Program} {w : World} {K : PySem.W.Frag} {mg : Str → Option Value} {base : Heap}
def sp_joined_words (K : PySem.W.Frag) : Sp := fun vs H Q _ => ∃ (l : Addr) (ys : List Str), vs = [.ref l] ∧ H l = some (.lst (ys.map V.str)) ∧ (ys.map (·.length)).sum + ys.length ≤ 1000000 ∧ Q (.str (joinW ys)) H
theorem ok_joined_words (TX : Tx K mg) : FnOk P w K mg base CX0 1 TX.a_joined_words TX.fd_joined_words ["words"] (sp_joined_words K) := by
  refine TX.f_joined_words.ok sc_joined_words (fun vs H Q E h => ?_) (fun cdv A outer s H vs Q E hr h => ?_)
  · obtain ⟨l, ys, rfl, _⟩ := h; rfl
  · obtain ⟨l, ys, rfl, hl, hz, q⟩ := h
    refine ⟨_, (pss_one (ps_ret (pe_ifExp (pt_truth (pv 0) (by intro _; rfl)) (pe_join pe_str (pv 0)) (pe_glob (v := .str "-") (by rfl) TX.c_NOTHING ⟨_, rfl⟩)))), ?_⟩
    refine ⟨_, rfl, !ys.isEmpty, .inl ⟨_, .inl (.inl hl), by simp⟩, ?_⟩
    cases ys with
    | nil => exact iteF q
    | cons y ys =>
      refine iteT ?_
      refine ⟨⟨_, rfl⟩, _, rfl, _, l, y :: ys, rfl, rfl, .inl (.inl (.inl hl)), ?_, q⟩
      have : (" " : Str).length = 1 := by decide +kernel
      rw [this]
      omega
end
def tyq : PyData → String
  | .none => "NoneType"
  | .bool _ => "bool"
  | .int _ => "int"
  | .str _ => "str"
  | .list _ => "list"
  | .tuple _ => "tuple"
  | .dict _ => "dict"
theorem ty_q {K : PySem.W.Frag} {H : Hp} {x : V} {d : PyData} (h : Dq K H x d) : TyX K H x (.type (tyq d)) := by
  cases h with
  | nonq => exact .base .non
  | blq b => exact .base (.bl b)
  | intq i => exact .base (.int i)
  | strq x => exact .base (.str x)
  | lstq hs _ _ =>
    rcases hs with (h | ⟨o, h⟩) | ⟨o, its, n, h1, h2, _⟩
    · exact .base (.lst h)
    · exact .base (.frz h)
    · exact .kList h1 h2
  | tupq hs _ =>
    rcases hs with (h | ⟨o, h⟩) | ⟨o, its, n, h1, h2, _⟩
    · exact .base (.tup h)
    · exact .fTuple h
    · exact .kTuple h1 h2
  | dctq he _ _ => exact .base (.dK he)
section
variable {P : Program} {w : World} {K : PySem.W.Frag} {mg : Str → Option Value} {base : Heap}
def sp_L_is_schedule (K : PySem.W.Frag) : Sp := fun vs H Q _ => ∃ (x : V) (d : PyData), vs = [x] ∧ Dq K H x d ∧ Q (.bl (isSchD d)) H
theorem ok_L_is_schedule (TX : Tx K mg) : FnOk P w K mg base CX0 1 TX.a_L_is_schedule TX.fd_L_is_schedule ["_law_thing"] (sp_L_is_schedule K) := by
  refine TX.f_L_is_schedule.ok sc_L_is_schedule (fun vs H Q E h => ?_) (fun cdv A outer s H vs Q E hr h => ?_)
  · obtain ⟨x, d, rfl, _⟩ := h; rfl
  · obtain ⟨x, d, rfl, hq, q⟩ := h
    refine ⟨_, (pss_cons (ps_if (PW.pt (pw_or (pt_not (pt_val (pe_callB (id := "isinstance") (k_isi (K := K) rfl) (by rfl) TX.b_isinstance (by decide +kernel) (pa_cons (pv 0) (pa_cons (pe_bltn (v := .ty "tuple") (by rfl) TX.b_tuple (by decide +kernel) rfl) pa_nil))))) (pw_or1 (pt_cmpR op_gt (pe_callB (id := "len") (k_len (K := K) rfl) (by rfl) TX.b_len (by decide +kernel) (pa_cons (pv 0) pa_nil)) pe_int (nomark _)))))
        (pss_one (ps_ret pe_bl))
        pss_nil)
      (pss_cons (ps_set (i := 1) sc_L_is_schedule.nd rfl (.inl rfl) pe_int)
      (pss_cons (ps_for PassesOwn.never rfl (k_piT (K := K) rfl (pv 0)) (pg_name (i := 2) sc_L_is_schedule.nd rfl (.inl rfl))
        (pss_cons (ps_if (PW.pt (pw_or (pt_not (pt_val (pe_callB (id := "isinstance") (k_isi (K := K) rfl) (by rfl) TX.b_isinstance (by decide +kernel) (pa_cons (pv 2) (pa_cons (pe_bltn (v := .ty "int") (by rfl) TX.b_int (by decide +kernel) rfl) pa_nil))))) (pw_or (pt_val (pe_callB (id := "isinstance") (k_isi (K := K) rfl) (by rfl) TX.b_isinstance (by decide +kernel) (pa_cons (pv 2) (pa_cons (pe_bltn (v := .ty "bool") (by rfl) TX.b_bool (by decide +kernel) rfl) pa_nil)))) (pw_or1 (pt_not (pt_chain op_le op_le pe_int (pv 2) (pv 1)))))))
          (pss_one (ps_ret pe_bl))
          pss_nil)
        (pss_one (ps_set (i := 1) sc_L_is_schedule.nd rfl (.inl rfl) (pe_op op_add (pe_op op_sub (pv 1) (pv 2)) pe_int)))))
      (pss_one (ps_ret pe_bl))))), ?_⟩
    obtain ⟨T, hT, hkT⟩ := tup_ty hq
    refine ⟨x, rfl, x, .ty "tuple", .type T, .type "tuple", isTup d, rfl, .ty _, hT, kit_ty hkT, isTup d, rfl, ?_⟩
    by_cases ht : isTup d = true
    rotate_left
    · have ht' : isTup d = false := by simpa using ht
      rw [ht']
      refine iteT ?_
      have e : isSchD d = false := by cases d <;> first | rfl | exact (ht rfl).elim
      rw [e] at q
      exact q
    rw [ht]
    refine iteF ?_
    cases hq with
    | @tupq a xs ds h1 hA =>
      have hl := hA.len
      refine ⟨.ref a, rfl, a, _, rfl, .inr h1, _, _, rfl, rfl, _, rfl, ?_⟩
      have e0 : isSchD (.tuple ds) = (decide (ds.length ≤ 60) && isSchR 0 ds) := rfl
      by_cases hlk : ds.length ≤ 60
      rotate_left
      · refine decT (by omega) ?_
        rw [e0, decide_eq_false hlk, Bool.false_and] at q
        exact q
      refine decF (by omega) ?_
      rw [e0, decide_eq_true hlk, Bool.true_and] at q
      refine ⟨.ref a, rfl, a, rfl, ⟨_, h1⟩, for_tup (K := K) (xs := xs) (fun i σ H' => H' = H ∧ ∃ (r : Nat) (y2 : Option V), σ = [some (.ref a), some (.int (r : Int)), y2] ∧ isSchR r (ds.drop i) = isSchR 0 ds) ⟨rfl, 0, none, rfl, rfl⟩ (fun i σ H' _ h => by rw [h.1]; exact h1) ?_ ?_⟩
      · rintro i x σ H' hx ⟨rfl, r, y2, rfl, hr⟩
        obtain ⟨e, he, hqe⟩ := hA.at hx
        have hi : i < ds.length := (List.getElem?_eq_some_iff.mp he).1
        have ed : ds.drop i = e :: ds.drop (i + 1) := by
          rw [List.drop_eq_getElem_cons hi]
          congr 1
          exact (List.getElem?_eq_some_iff.mp he).2
        rw [ed] at hr
        by_cases hn : NoInt e
        · have e2 : isSchR r (e :: ds.drop (i + 1)) = false := by cases e <;> first | rfl | exact hn.elim
          rw [e2] at hr
          rw [← hr] at q
          cases e with
          | int n => exact hn.elim
          | bool b =>
            cases hqe
            refine ⟨_, rfl, .bl b, .ty "int", .type "bool", .type "int", true, rfl, .ty _, .base (.bl b), kit_ty (by decide +kernel), true, rfl, iteB0 (by rfl) ?_⟩
            exact ⟨_, rfl, .bl b, .ty "bool", .type "bool", .type "bool", true, rfl, .ty _, .base (.bl b), kit_ty (by decide +kernel), true, rfl, iteB1 (by rfl) q⟩
          | none => exact ⟨x, rfl, x, .ty "int", .type "NoneType", .type "int", false, rfl, .ty _, ty_q hqe, kit_ty (by decide +kernel), false, rfl, iteB1 (by rfl) (iteB1 (by rfl) q)⟩
          | str z => exact ⟨x, rfl, x, .ty "int", .type "str", .type "int", false, rfl, .ty _, ty_q hqe, kit_ty (by decide +kernel), false, rfl, iteB1 (by rfl) (iteB1 (by rfl) q)⟩
          | list z => exact ⟨x, rfl, x, .ty "int", .type "list", .type "int", false, rfl, .ty _, ty_q hqe, kit_ty (by decide +kernel), false, rfl, iteB1 (by rfl) (iteB1 (by rfl) q)⟩
          | tuple z => exact ⟨x, rfl, x, .ty "int", .type "tuple", .type "int", false, rfl, .ty _, ty_q hqe, kit_ty (by decide +kernel), false, rfl, iteB1 (by rfl) (iteB1 (by rfl) q)⟩
          | dict z => exact ⟨x, rfl, x, .ty "int", .type "dict", .type "int", false, rfl, .ty _, ty_q hqe, kit_ty (by decide +kernel), false, rfl, iteB1 (by rfl) (iteB1 (by rfl) q)⟩
        · cases hqe with
          | intq n =>
            have e2 : isSchR r (.int n :: ds.drop (i + 1)) = ((decide (0 ≤ n) && decide (n ≤ (r : Int))) && isSchR (r + 1 - n.toNat) (ds.drop (i + 1))) := rfl
            rw [e2] at hr
            have bad : (decide (0 ≤ n) && decide (n ≤ (r : Int))) = false → Q (.bl false) _ := fun hb' => by
              rw [hb', Bool.false_and] at hr
              rw [← hr] at q
              exact q
            refine ⟨_, rfl, .int n, .ty "int", .type "int", .type "int", true, rfl, .ty _, .base (.int n), kit_ty (by decide +kernel), true, rfl, iteB0 (by rfl) ?_⟩
            refine ⟨_, rfl, .int n, .ty "bool", .type "int", .type "bool", false, rfl, .ty _, .base (.int n), kit_ty (by decide +kernel), false, rfl, iteB0 (by rfl) ?_⟩
            refine ⟨_, rfl, 0, n, rfl, rfl, _, rfl, ?_⟩
            by_cases h1 : 0 ≤ n
            case' neg => exact decF h1 ⟨_, rfl, iteB1 (by rfl) (bad (by rw [decide_eq_false h1]; rfl))⟩
            refine decT h1 ⟨_, rfl, _, _, rfl, rfl, _, rfl, ?_⟩
            by_cases h2 : n ≤ (r : Int)
            case' neg => exact iteB1 (by rw [decide_eq_false h2]; rfl) (bad (by rw [decide_eq_false h2, Bool.and_false]))
            refine iteB0 (by rw [decide_eq_true h2]; rfl) ?_
            rw [decide_eq_true h1, decide_eq_true h2, Bool.true_and, Bool.true_and] at hr
            refine ⟨_, rfl, _, rfl, _, _, rfl, rfl, _, _, rfl, rfl, rfl, r + 1 - n.toNat, some (.int n), ?_, hr⟩
            show [_, _, _] = [_, _, _]
            have e3 : (r : Int) - n + 1 = ((r + 1 - n.toNat : Nat) : Int) := by omega
            rw [← e3]
          | nonq => exact (hn trivial).elim
          | blq b => exact (hn trivial).elim
          | strq x => exact (hn trivial).elim
          | lstq _ _ _ => exact (hn trivial).elim
          | tupq _ _ => exact (hn trivial).elim
          | dctq _ _ _ => exact (hn trivial).elim
      · rintro σ H' ⟨rfl, r, y2, rfl, hr⟩
        rw [hl, List.drop_length] at hr
        have e2 : isSchR r [] = true := by unfold isSchR; rfl
        rw [e2] at hr
        rw [← hr] at q
        exact q
    | nonq => cases ht
    | blq b => cases ht
    | intq i => cases ht
    | strq x => cases ht
    | lstq _ _ _ => cases ht
    | dctq _ _ _ => cases ht
end
def numD (w : Str) : PyData := match numIn w with
  | some n => .int (n : Int)
  | none => .none
theorem num_dq {K : PySem.W.Frag} {H : Hp} (w : Str) : Dq K H (numV w) (numD w) := by
  unfold numV numD
  cases numIn w with
  | none => exact .nonq
  | some n => exact .intq _
/-- what a text tells: the data of a schedule -/
def readD : PyData → Option (List PyData)
  | .str z => if z = "-" then some [] else if isSchD (.tuple ((Txt.split z " ").map numD)) = true then some ((Txt.split z " ").map numD) else none
  | _ => none
section
variable {P : Program} {w : World} {K : PySem.W.Frag} {mg : Str → Option Value} {base : Heap}
def sp_read_scheduleX (TX : Tx K mg) : Sp := fun vs H Q E => ∃ (x : V) (d : PyData), vs = [x] ∧ Dq K H x d ∧ (∀ z, d = .str z → z.length ≤ 100000 ∧ (Txt.split z " ").length ≤ 90000 ∧ ∀ y ∈ Txt.split z " ", y.length ≤ 100000) ∧
  ((∃ ds, readD d = some ds ∧ ∀ H' r, Same H H' → Dq K H' (.ref r) (.tuple ds) → Q (.ref r) H') ∨ (readD d = none ∧ ∀ dd H', Same H H' → H' dd = some (.xd [("value", V.int 0)]) → E (.ref TX.c_InvalidText) (some dd) H'))
theorem ok_read_scheduleX (TX : Tx K mg) : FnOk P w K mg base (L2.CX P w) 5 TX.a_read_schedule TX.fd_read_schedule ["text"] (sp_read_scheduleX TX) := by
  refine TX.f_read_schedule.okX sc_read_schedule (fun vs H Q E h => ?_) (fun cdv A outer s H vs Q E hr h => ?_)
  · obtain ⟨x, d, rfl, _⟩ := h; rfl
  · obtain ⟨x, d, rfl, hq, hlen, h⟩ := h
    refine ⟨_, (pss_cons (ps_if (pt_not (pt_val (pe_callB (id := "isinstance") (k_isi (K := K) rfl) (by rfl) TX.b_isinstance (by decide +kernel) (pa_cons (pv 0) (pa_cons (pe_bltn (v := .ty "str") (by rfl) TX.b_str (by decide +kernel) rfl) pa_nil)))))
        (pss_one (ps_raise rfl takesX (pmk_oex TX.ox_InvalidText TX.ic_InvalidText TX.ti_InvalidText (ok_init_InvalidText TX) (hr.mono (by decide)) TX.bi_InvalidText .nil pass0 (by rfl) TX.gc_InvalidText (pa_cons pe_int pa_nil))))
        pss_nil)
      (pss_cons (ps_if (pt_cmpR op_eq (pv 0) (pe_glob (v := .str "-") (by rfl) TX.c_NOTHING ⟨_, rfl⟩) (nomark _))
        (pss_one (ps_ret (pe_tup pa_nil)))
        pss_nil)
      (pss_cons (ps_set (i := 1) sc_read_schedule.nd rfl (.inl rfl) (pe_callTy (T := "tuple") (k_tupOf (K := K) rfl) (by rfl) TX.b_tuple (by decide +kernel) (pa_cons (pe_lc (own := [("word", 2)]) (by rfl) sc_read_schedule.nd (k_piL (K := K) rfl (pe_split (pv 0) pe_str)) (blkOk_by (own := [("word", 2)]) (N := N_read_schedule) (sc := defScope s_read_schedule) (by decide +kernel)) (fun _ _ _ _ _ => (pg_name (i := 2) sc_read_schedule.nd rfl (Or.inl rfl))) (fun _ _ _ _ _ => pts_nil) (fun _ _ _ _ _ => (pe_call (ok_number_in TX) (hr.mono (by decide)) (by rfl) TX.g_number_in TX.f_number_in.kp TX.bd_number_in .nil pass0 (pa_cons (pv 2) pa_nil)))) pa_nil)))
      (pss_cons (ps_if (pt_not (pt_val (pe_call (ok_is_schedule TX) (hr.mono (by decide)) (by rfl) TX.g_is_schedule TX.f_is_schedule.kp TX.bd_is_schedule .nil pass0 (pa_cons (pv 1) pa_nil))))
        (pss_one (ps_raise rfl takesX (pmk_oex TX.ox_InvalidText TX.ic_InvalidText TX.ti_InvalidText (ok_init_InvalidText TX) (hr.mono (by decide)) TX.bi_InvalidText .nil pass0 (by rfl) TX.gc_InvalidText (pa_cons pe_int pa_nil))))
        pss_nil)
      (pss_one (ps_ret (pv 1))))))), ?_⟩
    by_cases hs : ∃ z, d = .str z
    case' neg =>
      have hb : L2.kitB (tyq d) "str" = some false := by
        cases d with
        | none => exact (by decide +kernel : L2.kitB "NoneType" "str" = some false)
        | bool b => exact (by decide +kernel : L2.kitB "bool" "str" = some false)
        | int b => exact (by decide +kernel : L2.kitB "int" "str" = some false)
        | str b => exact absurd ⟨_, rfl⟩ hs
        | list b => exact (by decide +kernel : L2.kitB "list" "str" = some false)
        | dict b => exact (by decide +kernel : L2.kitB "dict" "str" = some false)
        | tuple b => exact (by decide +kernel : L2.kitB "tuple" "str" = some false)
      have hn : readD d = none := by cases d <;> first | rfl | exact absurd ⟨_, rfl⟩ hs
      rcases h with ⟨ds, e, _⟩ | ⟨_, q⟩
      · rw [hn] at e; cases e
      refine ⟨x, rfl, x, .ty "str", .type (tyq d), .type "str", false, rfl, .ty _, ty_q hq, kit_ty hb, false, rfl, iteT ?_⟩
      refine raise_read (K := K) ⟨.int 0, rfl, fun d H2 s3 _ hd => q d H2 s3 hd⟩ fun R R' h z => ?_
      exact h _ _ z
    obtain ⟨z, rfl⟩ := hs
    cases hq
    obtain ⟨hz, hwl, hwz⟩ := hlen z rfl
    refine ⟨_, rfl, .str z, .ty "str", .type "str", .type "str", true, rfl, .ty _, .base (.str z), kit_ty (by decide +kernel), true, rfl, iteF ?_⟩
    refine ⟨_, rfl, rfl, _, rfl, ?_⟩
    by_cases e : z = "-"
    · subst e
      rcases h with ⟨ds, e, q⟩ | ⟨e, _⟩
      · have : ds = [] := by
          have e2 : readD (.str "-") = some [] := by unfold readD; exact if_pos rfl
          rw [e2] at e; exact (Option.some.inj e).symm
        subst this
        exact decT rfl ⟨sz60 (by simp), fun r nr => q _ r (same_upd nr) (.tupq (.inl (.inl upd_same)) .nil)⟩
      · have e2 : readD (.str "-") = some [] := by unfold readD; exact if_pos rfl
        rw [e2] at e; cases e
    refine decF (fun y => e (V.str.inj y)) ?_
    refine ⟨_, rfl, ⟨z, rfl⟩, z, " ", rfl, rfl, by decide +kernel, ?_, ?_⟩
    · have : sizeLine = 16777216 := by decide
      omega
    intro wl nwl
    have s1 := same_upd (o := .lst ((Txt.split z " ").map V.str)) nwl
    have hwd := upd_same (H := H) (a := wl) (o := .lst ((Txt.split z " ").map V.str))
    generalize upd H wl _ = H1 at s1 hwd ⊢
    refine ⟨wl, rfl, ⟨_, .inl (.inl hwd)⟩, fun D nD => ?_⟩
    have hrd : readD (.str z) = if isSchD (.tuple ((Txt.split z " ").map numD)) = true then some ((Txt.split z " ").map numD) else none := by
      show (if z = "-" then some [] else _) = _
      exact if_neg e
    refine lc_it (walk_list (K := K) (a := wl) (xs := (Txt.split z " ").map V.str)) (fun i G => But D H1 G ∧ G D = some (.lst (((Txt.split z " ").take i).map numV))) ⟨.of (same_upd nD), upd_same⟩ (fun i G _ h => .inl (.inl (h.1 _ _ (fun y => by rw [y, nD] at hwd; cases hwd) hwd))) ?_ ?_
    · rintro i x G G' hi ⟨bG, hD⟩ ⟨rfl, hx⟩
      rw [List.getElem?_map] at hx
      cases hy : (Txt.split z " ")[i]? with
      | none => rw [hy] at hx; cases hx
      | some y =>
        rw [hy] at hx
        cases hx
        refine ⟨rfl, ?_⟩
        simp only [tYes, if_true]
        refine ⟨_, rfl, y, rfl, Nat.le_trans (hwz y (List.mem_of_getElem? hy)) (by decide), fun H' s' => ?_⟩
        have hD' := s' _ _ hD
        refine ⟨_, hD', sz60 (by simp; omega), (bG.trans (But.of s')).trans But.upd, ?_⟩
        rw [upd_same, List.take_add_one, hy, List.map_append]
        rfl
    rintro G ⟨bG, hD⟩
    have hlen2 : ((Txt.split z " ").map V.str).length = (Txt.split z " ").length := by simp
    rw [hlen2, List.take_length] at hD
    have sG : Same H G := fun c o e1 => bG _ _ (fun y => by rw [y] at e1; rw [s1 _ _ e1] at nD; cases nD) (s1 _ _ e1)
    refine ⟨D, (Txt.split z " ").map numV, rfl, .inl ⟨.inl (.inl hD), fun r nr => ?_⟩⟩
    have sr := same_upd (o := .tup ((Txt.split z " ").map numV)) nr
    have hr0 := upd_same (H := G) (a := r) (o := .tup ((Txt.split z " ").map numV))
    generalize upd G r _ = G2 at sr hr0 ⊢
    have all : ∀ ys : List Str, DqAll K G2 (ys.map numV) (ys.map numD) := fun ys => by
      induction ys with
      | nil => exact .nil
      | cons y ys ih => exact .cons (num_dq y) ih
    have dq : Dq K G2 (.ref r) (.tuple ((Txt.split z " ").map numD)) := .tupq (.inl (.inl hr0)) (all _)
    refine ⟨_, rfl, .ref r, _, rfl, dq, ?_⟩
    have sH := sG.trans sr
    cases hb : isSchD (.tuple ((Txt.split z " ").map numD)) with
    | true =>
      rw [hb, if_pos rfl] at hrd
      refine ⟨true, rfl, iteF ⟨_, rfl, ?_⟩⟩
      rcases h with ⟨ds, e1, q⟩ | ⟨e1, _⟩
      · rw [hrd] at e1
        cases e1
        exact q _ r sH dq
      · rw [hrd] at e1; cases e1
    | false =>
      rw [hb, if_neg (by decide)] at hrd
      refine ⟨false, rfl, iteT ?_⟩
      rcases h with ⟨ds, e1, _⟩ | ⟨_, q⟩
      · rw [hrd] at e1; cases e1
      refine raise_read (K := K) ⟨.int 0, rfl, fun d H2 s3 _ hd => q d H2 (sH.trans s3) hd⟩ fun R R' h z => ?_
      exact h _ _ z
end
theorem schR_ints : ∀ (ds : List PyData) (r : Nat), isSchR r ds = true → ∃ ns : List Nat, ds = ns.map (fun n : Nat => PyData.int (n : Int)) ∧ ∀ n ∈ ns, n ≤ r + ds.length
  | [], _, _ => ⟨[], rfl, fun _ h => nomatch h⟩
  | .int i :: ds, r, h => by
    have h2 : ((decide (0 ≤ i) && decide (i ≤ (r : Int))) && isSchR (r + 1 - i.toNat) ds) = true := h
    simp only [Bool.and_eq_true, decide_eq_true_eq] at h2
    obtain ⟨ns, rfl, hn⟩ := schR_ints ds _ h2.2
    refine ⟨i.toNat :: ns, by rw [List.map_cons, Int.toNat_of_nonneg h2.1.1], fun n hn2 => ?_⟩
    rcases List.mem_cons.mp hn2 with rfl | hn2
    · simp; omega
    · have := hn n hn2
      simp only [List.length_cons] at this ⊢
      omega
  | .none :: _, _, h => by cases h
  | .bool _ :: _, _, h => by cases h
  | .str _ :: _, _, h => by cases h
  | .list _ :: _, _, h => by cases h
  | .tuple _ :: _, _, h => by cases h
  | .dict _ :: _, _, h => by cases h
def numS (n : Nat) : Str := Str.ofString (toString ((n : Nat) : Int))
section
variable {P : Program} {w : World} {K : PySem.W.Frag} {mg : Str → Option Value} {base : Heap}
def sp_show_scheduleX (TX : Tx K mg) : Sp := fun vs H Q E => ∃ (x : V) (d : PyData), vs = [x] ∧ Dq K H x d ∧
  ((∃ ns : List Nat, d = .tuple (ns.map fun n : Nat => PyData.int (n : Int)) ∧ isSchD d = true ∧ ∀ H', Same H H' → Q (.str (joinW (ns.map numS))) H') ∨ (isSchD d = false ∧ ∀ dd H', Same H H' → H' dd = some (.xd [("value", x)]) → E (.ref TX.c_InvalidSchedule) (some dd) H'))
theorem ok_show_scheduleX (TX : Tx K mg) : FnOk P w K mg base (L2.CX P w) 5 TX.a_show_schedule TX.fd_show_schedule ["schedule"] (sp_show_scheduleX TX) := by
  refine TX.f_show_schedule.okX sc_show_schedule (fun vs H Q E h => ?_) (fun cdv A outer s H vs Q E hr h => ?_)
  · obtain ⟨x, d, rfl, _⟩ := h; rfl
  · obtain ⟨x, d, rfl, hq, h⟩ := h
    refine ⟨_, (pss_cons (ps_if (pt_not (pt_val (pe_call (ok_is_schedule TX) (hr.mono (by decide)) (by rfl) TX.g_is_schedule TX.f_is_schedule.kp TX.bd_is_schedule .nil pass0 (pa_cons (pv 0) pa_nil))))
        (pss_one (ps_raise rfl takesX (pmk_oex TX.ox_InvalidSchedule TX.ic_InvalidSchedule TX.ti_InvalidSchedule (ok_init_InvalidSchedule TX) (hr.mono (by decide)) TX.bi_InvalidSchedule .nil pass0 (by rfl) TX.gc_InvalidSchedule (pa_cons (pv 0) pa_nil))))
        pss_nil)
      (pss_one (ps_ret (pe_call (ok_joined_words TX) (hr.mono (by decide)) (by rfl) TX.g_joined_words TX.f_joined_words.kp TX.bd_joined_words .nil pass0 (pa_cons (pe_lc (own := [("merge", 1)]) (by rfl) sc_show_schedule.nd (k_piT (K := K) rfl (pv 0)) (blkOk_by (own := [("merge", 1)]) (N := N_show_schedule) (sc := defScope s_show_schedule) (by decide +kernel)) (fun _ _ _ _ _ => (pg_name (i := 1) sc_show_schedule.nd rfl (Or.inl rfl))) (fun _ _ _ _ _ => pts_nil) (fun _ _ _ _ _ => (pe_callTy (T := "str") call_str_int (by rfl) TX.b_str (by decide +kernel) (pa_cons (pv 1) pa_nil)))) pa_nil))))), ?_⟩
    refine ⟨_, rfl, x, d, rfl, hq, ?_⟩
    rcases h with ⟨ns, rfl, hb, q⟩ | ⟨hb, q⟩
    · rw [hb]
      have hlen : ns.length ≤ 60 := by
        have h2 : (decide ((ns.map fun n : Nat => PyData.int (n : Int)).length ≤ 60) && _) = true := hb
        rw [Bool.and_eq_true, decide_eq_true_eq] at h2
        simpa using h2.1
      refine ⟨true, rfl, iteF ?_⟩
      have hns : ∀ n ∈ ns, n ≤ 60 := by
        have h2 : (_ && isSchR 0 (ns.map fun n : Nat => PyData.int (n : Int))) = true := hb
        rw [Bool.and_eq_true] at h2
        obtain ⟨ms, e, hm⟩ := schR_ints _ _ h2.2
        have : ms = ns := by
          have e2 := congrArg (List.map fun d : PyData => match d with | .int i => i.toNat | _ => 0) e
          simp only [List.map_map] at e2
          have e3 : ∀ l : List Nat, l.map ((fun d : PyData => match d with | .int i => i.toNat | _ => 0) ∘ fun n : Nat => PyData.int (n : Int)) = l := fun l => by
            induction l with
            | nil => rfl
            | cons x l ih => rw [List.map_cons, ih]; rfl
          rw [e3, e3] at e2
          exact e2.symm
        subst this
        intro n hn
        have := hm n hn
        simp at this
        omega
      cases hq with
      | @tupq a xs _ hS hA =>
      have hxl : xs.length = ns.length := by have := hA.len; simpa using this
      have hat : ∀ (i : Nat) (x : V), xs[i]? = some x → ∃ n, ns[i]? = some n ∧ x = .int ((n : Nat) : Int) := fun i x hx => by
        obtain ⟨d, hd, hqd⟩ := hA.at hx
        rw [List.getElem?_map] at hd
        cases hn : ns[i]? with
        | none => rw [hn] at hd; cases hd
        | some n => rw [hn] at hd; cases hd; cases hqd; exact ⟨n, rfl, rfl⟩
      refine ⟨_, rfl, a, rfl, ⟨_, hS⟩, fun D nD => ?_⟩
      refine lc_it (walk_tup (K := K) (a := a) (xs := xs)) (fun i G => Same H G ∧ G D = some (.lst ((ns.take i).map fun n => V.str (numS n)))) ⟨same_upd nD, upd_same⟩ (fun i G _ h => Same.tup h.1 hS) ?_ ?_
      · rintro i x G G' hi ⟨sG, hD⟩ ⟨rfl, hx⟩
        obtain ⟨n, hn, rfl⟩ := hat i x hx
        refine ⟨rfl, ?_⟩
        simp only [tYes, if_true]
        have hn60 := hns n (List.mem_of_getElem? hn)
        refine ⟨.int ((n : Nat) : Int), rfl, ((n : Nat) : Int), rfl, ?_, ?_⟩
        · have : ∀ m : Nat, m ≤ 60 → m.log2 < 1920 := by decide
          exact this n hn60
        · refine ⟨_, hD, sz60 (by simp; omega), fun c o e1 => by rw [upd_ne (fun y => by rw [y, nD] at e1; cases e1)]; exact sG _ _ e1, ?_⟩
          rw [upd_same, List.take_add_one, hn, List.map_append]
          rfl
      rintro G ⟨sG, hD⟩
      rw [hxl, List.take_length] at hD
      refine ⟨D, ns.map numS, rfl, by rw [hD, List.map_map]; rfl, ?_, q _ sG⟩
      have hl : ∀ l : List Nat, (∀ n ∈ l, n ≤ 60) → ((l.map numS).map (·.length)).sum ≤ 2 * l.length := fun l => by
        induction l with
        | nil => intro _; simp
        | cons n l ih =>
          intro h
          have h1 := ih fun m hm => h m (List.mem_cons_of_mem _ hm)
          have h2 : (numS n).length ≤ 2 := by
            have : ∀ m : Nat, m ≤ 60 → (numS m).length ≤ 2 := by decide +kernel
            exact this n (h n (List.mem_cons_self ..))
          simp only [List.map_cons, List.sum_cons, List.length_cons]
          omega
      have := hl ns hns
      simp only [List.length_map]
      omega
    · rw [hb]
      refine ⟨false, rfl, iteT ?_⟩
      refine raise_read (K := K) ⟨x, rfl, x, rfl, fun d H2 s3 _ hd => q d H2 s3 hd⟩ fun R R' h z => ?_
      obtain ⟨v, e1, z⟩ := z
      exact ⟨v, e1, h _ _ z⟩
end
theorem spl1_len (s : Nat) : ∀ (l acc : List Nat), (TL.spl [s] 0 acc l).length ≤ l.length + 1 ∧ ∀ y ∈ TL.spl [s] 0 acc l, y.length ≤ acc.length + l.length
  | [], acc => ⟨by simp [TL.spl], fun y hy => by
      have : y = acc := by simpa [TL.spl] using hy
      rw [this]; omega⟩
  | c :: r, acc => by
    unfold TL.spl
    cases h : TL.pre [s] (c :: r) with
    | true =>
      obtain ⟨i1, i2⟩ := spl1_len s r []
      have e : [s].length - 1 = 0 := rfl
      rw [if_pos rfl, e]
      refine ⟨by simp only [List.length_cons]; omega, fun y hy => ?_⟩
      rcases List.mem_cons.mp hy with rfl | hy
      · omega
      · have := i2 y hy
        simp only [List.length_nil, List.length_cons] at this ⊢
        omega
    | false =>
      rw [if_neg (by decide)]
      obtain ⟨i1, i2⟩ := spl1_len s r (acc ++ [c])
      refine ⟨by simp only [List.length_cons]; omega, fun y hy => ?_⟩
      have := i2 y hy
      simp only [List.length_append, List.length_cons, List.length_nil] at this ⊢
      omega
theorem tl_sp : TL.tl (" " : Str) = [32] := by decide +kernel
theorem split_sp_spl (z : Str) : (Txt.split z " ").map TL.tl = TL.spl [32] 0 [] (TL.tl z) := by
  have := TL.split_spl z " " (by rw [tl_sp]; simp) (TL.kind_ok (by decide +kernel))
  rw [tl_sp] at this
  exact this
theorem split_sp (z : Str) : (Txt.split z " ").length ≤ z.length + 1 ∧ ∀ y ∈ Txt.split z " ", y.length ≤ z.length := by
  have e := split_sp_spl z
  have l := spl1_len 32 (TL.tl z) []
  rw [← e] at l
  refine ⟨?_, fun y hy => ?_⟩
  · have := l.1
    rw [List.length_map, ← TL.len_tl] at this
    exact this
  · have := l.2 _ (List.mem_map_of_mem hy)
    rw [← TL.len_tl, ← TL.len_tl] at this
    simpa using this
theorem split_sp_ne (z : Str) : Txt.split z " " ≠ [] := fun h => by
  have e := split_sp_spl z
  rw [h] at e
  have : ∀ (l acc : List Nat), TL.spl [32] 0 acc l ≠ [] := fun l => by
    induction l with
    | nil => intro acc; simp [TL.spl]
    | cons c r ih =>
      intro acc
      unfold TL.spl
      split
      · simp
      · exact ih _
  exact this _ _ e.symm
theorem split_join_sp {ys : List Str} (hne : ys ≠ []) (hp : ∀ p ∈ ys, 32 ∉ TL.tl p) : Txt.split (Txt.join " " ys) " " = ys :=
  TL.map_tl_inj (by
    rw [split_sp_spl, TL.join_eq, TL.tl_join, tl_sp]
    exact TL.spl_join (by simpa using hne) (fun p hp2 => by
      obtain ⟨q, hq, rfl⟩ := List.mem_map.mp hp2
      exact hp q hq))
/-- the numbers of a schedule, written and read -/
theorem numS_facts : ∀ n : Nat, n ≤ 60 → numIn (numS n) = some n ∧ 32 ∉ TL.tl (numS n) ∧ numS n ≠ "-" ∧ (numS n).length ≤ 2 := by decide +kernel
theorem read_page {ns : List Nat} (h : ∀ n ∈ ns, n ≤ 60) (hb : isSchD (.tuple (ns.map fun n : Nat => PyData.int (n : Int))) = true) : readD (.str (joinW (ns.map numS))) = some (ns.map fun n : Nat => PyData.int (n : Int)) := by
  cases ns with
  | nil => unfold readD joinW; exact if_pos rfl
  | cons n ns =>
    have ej : joinW ((n :: ns).map numS) = Txt.join " " ((n :: ns).map numS) := rfl
    have hs := split_join_sp (ys := (n :: ns).map numS) (by simp) (fun p hp => by
      obtain ⟨m, hm, rfl⟩ := List.mem_map.mp hp
      exact (numS_facts m (h m hm)).2.1)
    have hn : joinW ((n :: ns).map numS) ≠ "-" := fun e => by
      rw [ej] at e
      rw [e] at hs
      have e1 : Txt.split "-" " " = ([("-" : Str)] : List Str) := by
        have := split_join_sp (ys := [("-" : Str)]) (by simp) (fun p hp => by rw [List.mem_singleton.mp hp]; decide +kernel)
        have e2 : Txt.join " " [("-" : Str)] = "-" := by decide +kernel
        rwa [e2] at this
      rw [e1] at hs
      have := (List.cons.inj hs).1
      exact (numS_facts n (h n (List.mem_cons_self ..))).2.2.1 this.symm
    have hm : ((n :: ns).map numS).map numD = (n :: ns).map fun n : Nat => PyData.int (n : Int) := by
      rw [List.map_map]
      refine List.map_congr_left fun m hm => ?_
      show numD (numS m) = _
      unfold numD
      rw [(numS_facts m (h m hm)).1]
    unfold readD
    simp only
    rw [if_neg hn, ej, hs, hm, if_pos hb]
section
variable {P : Program} {w : World} {K : PySem.W.Frag} {mg : Str → Option Value} {base : Heap}
def sp_read_schedule (K : PySem.W.Frag) : Sp := fun vs H Q _ => ∃ (x : V) (d : PyData), vs = [x] ∧ Dq K H x d ∧ (∀ z, d = .str z → z.length ≤ 100000 ∧ (Txt.split z " ").length ≤ 90000 ∧ ∀ y ∈ Txt.split z " ", y.length ≤ 100000) ∧
  ∃ ds, readD d = some ds ∧ ∀ H' r, Same H H' → Dq K H' (.ref r) (.tuple ds) → Q (.ref r) H'
theorem ok_read_schedule (TX : Tx K mg) : FnOk P w K mg base CX0 5 TX.a_read_schedule TX.fd_read_schedule ["text"] (sp_read_schedule K) := by
  refine TX.f_read_schedule.ok sc_read_schedule (fun vs H Q E h => ?_) (fun cdv A outer s H vs Q E hr h => ?_)
  · obtain ⟨x, d, rfl, _⟩ := h; rfl
  · obtain ⟨x, d, rfl, hq, hlen, ds, e0, q⟩ := h
    refine ⟨_, (pss_cons (ps_if (pt_not (pt_val (pe_callB (id := "isinstance") (k_isi (K := K) rfl) (by rfl) TX.b_isinstance (by decide +kernel) (pa_cons (pv 0) (pa_cons (pe_bltn (v := .ty "str") (by rfl) TX.b_str (by decide +kernel) rfl) pa_nil)))))
        (pss_one ps_never)
        pss_nil)
      (pss_cons (ps_if (pt_cmpR op_eq (pv 0) (pe_glob (v := .str "-") (by rfl) TX.c_NOTHING ⟨_, rfl⟩) (nomark _))
        (pss_one (ps_ret (pe_tup pa_nil)))
        pss_nil)
      (pss_cons (ps_set (i := 1) sc_read_schedule.nd rfl (.inl rfl) (pe_callTy (T := "tuple") (k_tupOf (K := K) rfl) (by rfl) TX.b_tuple (by decide +kernel) (pa_cons (pe_lc (own := [("word", 2)]) (by rfl) sc_read_schedule.nd (k_piL (K := K) rfl (pe_split (pv 0) pe_str)) (blkOk_by (own := [("word", 2)]) (N := N_read_schedule) (sc := defScope s_read_schedule) (by decide +kernel)) (fun _ _ _ _ _ => (pg_name (i := 2) sc_read_schedule.nd rfl (Or.inl rfl))) (fun _ _ _ _ _ => pts_nil) (fun _ _ _ _ _ => (pe_call (ok_number_in TX) (hr.mono (by decide)) (by rfl) TX.g_number_in TX.f_number_in.kp TX.bd_number_in .nil pass0 (pa_cons (pv 2) pa_nil)))) pa_nil)))
      (pss_cons (ps_if (pt_not (pt_val (pe_call (ok_is_schedule TX) (hr.mono (by decide)) (by rfl) TX.g_is_schedule TX.f_is_schedule.kp TX.bd_is_schedule .nil pass0 (pa_cons (pv 1) pa_nil))))
        (pss_one ps_never)
        pss_nil)
      (pss_one (ps_ret (pv 1))))))), ?_⟩
    by_cases hs : ∃ z, d = .str z
    case' neg =>
      exfalso
      cases d <;> first | exact hs ⟨_, rfl⟩ | cases e0
    obtain ⟨z, rfl⟩ := hs
    cases hq
    obtain ⟨hz, hwl, hwz⟩ := hlen z rfl
    refine ⟨_, rfl, .str z, .ty "str", .type "str", .type "str", true, rfl, .ty _, .base (.str z), kit_ty (by decide +kernel), true, rfl, iteF ?_⟩
    refine ⟨_, rfl, rfl, _, rfl, ?_⟩
    by_cases e : z = "-"
    · subst e
      have e2 : readD (.str "-") = some [] := by unfold readD; exact if_pos rfl
      rw [e2] at e0
      have : ds = [] := (Option.some.inj e0).symm
      subst this
      exact decT rfl ⟨sz60 (by simp), fun r nr => q _ r (same_upd nr) (.tupq (.inl (.inl upd_same)) .nil)⟩
    refine decF (fun y => e (V.str.inj y)) ?_
    refine ⟨_, rfl, ⟨z, rfl⟩, z, " ", rfl, rfl, by decide +kernel, ?_, ?_⟩
    · have : sizeLine = 16777216 := by decide
      omega
    intro wl nwl
    have s1 := same_upd (o := .lst ((Txt.split z " ").map V.str)) nwl
    have hwd := upd_same (H := H) (a := wl) (o := .lst ((Txt.split z " ").map V.str))
    generalize upd H wl _ = H1 at s1 hwd ⊢
    refine ⟨wl, rfl, ⟨_, .inl (.inl hwd)⟩, fun D nD => ?_⟩
    have hrd : readD (.str z) = if isSchD (.tuple ((Txt.split z " ").map numD)) = true then some ((Txt.split z " ").map numD) else none := by
      show (if z = "-" then some [] else _) = _
      exact if_neg e
    refine lc_it (walk_list (K := K) (a := wl) (xs := (Txt.split z " ").map V.str)) (fun i G => But D H1 G ∧ G D = some (.lst (((Txt.split z " ").take i).map numV))) ⟨.of (same_upd nD), upd_same⟩ (fun i G _ h => .inl (.inl (h.1 _ _ (fun y => by rw [y, nD] at hwd; cases hwd) hwd))) ?_ ?_
    · rintro i x G G' hi ⟨bG, hD⟩ ⟨rfl, hx⟩
      rw [List.getElem?_map] at hx
      cases hy : (Txt.split z " ")[i]? with
      | none => rw [hy] at hx; cases hx
      | some y =>
        rw [hy] at hx
        cases hx
        refine ⟨rfl, ?_⟩
        simp only [tYes, if_true]
        refine ⟨_, rfl, y, rfl, Nat.le_trans (hwz y (List.mem_of_getElem? hy)) (by decide), fun H' s' => ?_⟩
        have hD' := s' _ _ hD
        refine ⟨_, hD', sz60 (by simp; omega), (bG.trans (But.of s')).trans But.upd, ?_⟩
        rw [upd_same, List.take_add_one, hy, List.map_append]
        rfl
    rintro G ⟨bG, hD⟩
    have hlen2 : ((Txt.split z " ").map V.str).length = (Txt.split z " ").length := by simp
    rw [hlen2, List.take_length] at hD
    have sG : Same H G := fun c o e1 => bG _ _ (fun y => by rw [y] at e1; rw [s1 _ _ e1] at nD; cases nD) (s1 _ _ e1)
    refine ⟨D, (Txt.split z " ").map numV, rfl, .inl ⟨.inl (.inl hD), fun r nr => ?_⟩⟩
    have sr := same_upd (o := .tup ((Txt.split z " ").map numV)) nr
    have hr0 := upd_same (H := G) (a := r) (o := .tup ((Txt.split z " ").map numV))
    generalize upd G r _ = G2 at sr hr0 ⊢
    have all : ∀ ys : List Str, DqAll K G2 (ys.map numV) (ys.map numD) := fun ys => by
      induction ys with
      | nil => exact .nil
      | cons y ys ih => exact .cons (num_dq y) ih
    have dq : Dq K G2 (.ref r) (.tuple ((Txt.split z " ").map numD)) := .tupq (.inl (.inl hr0)) (all _)
    refine ⟨_, rfl, .ref r, _, rfl, dq, ?_⟩
    have sH := sG.trans sr
    cases hb : isSchD (.tuple ((Txt.split z " ").map numD)) with
    | true =>
      rw [hb, if_pos rfl] at hrd
      rw [hrd] at e0
      cases e0
      exact ⟨true, rfl, iteF ⟨_, rfl, q _ r sH dq⟩⟩
    | false =>
      rw [hb, if_neg (by decide)] at hrd
      rw [hrd] at e0; cases e0
end
section
variable {P : Program} {w : World} {K : PySem.W.Frag} {mg : Str → Option Value} {base : Heap}
def sp_show_schedule (K : PySem.W.Frag) : Sp := fun vs H Q _ => ∃ (x : V) (d : PyData), vs = [x] ∧ Dq K H x d ∧
  ∃ ns : List Nat, d = .tuple (ns.map fun n : Nat => PyData.int (n : Int)) ∧ isSchD d = true ∧ ∀ H', Same H H' → Q (.str (joinW (ns.map numS))) H'
theorem ok_show_schedule (TX : Tx K mg) : FnOk P w K mg base CX0 5 TX.a_show_schedule TX.fd_show_schedule ["schedule"] (sp_show_schedule K) := by
  refine TX.f_show_schedule.ok sc_show_schedule (fun vs H Q E h => ?_) (fun cdv A outer s H vs Q E hr h => ?_)
  · obtain ⟨x, d, rfl, _⟩ := h; rfl
  · obtain ⟨x, d, rfl, hq, ns, rfl, hb, q⟩ := h
    refine ⟨_, (pss_cons (ps_if (pt_not (pt_val (pe_call (ok_is_schedule TX) (hr.mono (by decide)) (by rfl) TX.g_is_schedule TX.f_is_schedule.kp TX.bd_is_schedule .nil pass0 (pa_cons (pv 0) pa_nil))))
        (pss_one ps_never)
        pss_nil)
      (pss_one (ps_ret (pe_call (ok_joined_words TX) (hr.mono (by decide)) (by rfl) TX.g_joined_words TX.f_joined_words.kp TX.bd_joined_words .nil pass0 (pa_cons (pe_lc (own := [("merge", 1)]) (by rfl) sc_show_schedule.nd (k_piT (K := K) rfl (pv 0)) (blkOk_by (own := [("merge", 1)]) (N := N_show_schedule) (sc := defScope s_show_schedule) (by decide +kernel)) (fun _ _ _ _ _ => (pg_name (i := 1) sc_show_schedule.nd rfl (Or.inl rfl))) (fun _ _ _ _ _ => pts_nil) (fun _ _ _ _ _ => (pe_callTy (T := "str") call_str_int (by rfl) TX.b_str (by decide +kernel) (pa_cons (pv 1) pa_nil)))) pa_nil))))), ?_⟩
    refine ⟨_, rfl, x, _, rfl, hq, ?_⟩
    · rw [hb]
      have hlen : ns.length ≤ 60 := by
        have h2 : (decide ((ns.map fun n : Nat => PyData.int (n : Int)).length ≤ 60) && _) = true := hb
        rw [Bool.and_eq_true, decide_eq_true_eq] at h2
        simpa using h2.1
      refine ⟨true, rfl, iteF ?_⟩
      have hns : ∀ n ∈ ns, n ≤ 60 := by
        have h2 : (_ && isSchR 0 (ns.map fun n : Nat => PyData.int (n : Int))) = true := hb
        rw [Bool.and_eq_true] at h2
        obtain ⟨ms, e, hm⟩ := schR_ints _ _ h2.2
        have : ms = ns := by
          have e2 := congrArg (List.map fun d : PyData => match d with | .int i => i.toNat | _ => 0) e
          simp only [List.map_map] at e2
          have e3 : ∀ l : List Nat, l.map ((fun d : PyData => match d with | .int i => i.toNat | _ => 0) ∘ fun n : Nat => PyData.int (n : Int)) = l := fun l => by
            induction l with
            | nil => rfl
            | cons x l ih => rw [List.map_cons, ih]; rfl
          rw [e3, e3] at e2
          exact e2.symm
        subst this
        intro n hn
        have := hm n hn
        simp at this
        omega
      cases hq with
      | @tupq a xs _ hS hA =>
      have hxl : xs.length = ns.length := by have := hA.len; simpa using this
      have hat : ∀ (i : Nat) (x : V), xs[i]? = some x → ∃ n, ns[i]? = some n ∧ x = .int ((n : Nat) : Int) := fun i x hx => by
        obtain ⟨d, hd, hqd⟩ := hA.at hx
        rw [List.getElem?_map] at hd
        cases hn : ns[i]? with
        | none => rw [hn] at hd; cases hd
        | some n => rw [hn] at hd; cases hd; cases hqd; exact ⟨n, rfl, rfl⟩
      refine ⟨_, rfl, a, rfl, ⟨_, hS⟩, fun D nD => ?_⟩
      refine lc_it (walk_tup (K := K) (a := a) (xs := xs)) (fun i G => Same H G ∧ G D = some (.lst ((ns.take i).map fun n => V.str (numS n)))) ⟨same_upd nD, upd_same⟩ (fun i G _ h => Same.tup h.1 hS) ?_ ?_
      · rintro i x G G' hi ⟨sG, hD⟩ ⟨rfl, hx⟩
        obtain ⟨n, hn, rfl⟩ := hat i x hx
        refine ⟨rfl, ?_⟩
        simp only [tYes, if_true]
        have hn60 := hns n (List.mem_of_getElem? hn)
        refine ⟨.int ((n : Nat) : Int), rfl, ((n : Nat) : Int), rfl, ?_, ?_⟩
        · have : ∀ m : Nat, m ≤ 60 → m.log2 < 1920 := by decide
          exact this n hn60
        · refine ⟨_, hD, sz60 (by simp; omega), fun c o e1 => by rw [upd_ne (fun y => by rw [y, nD] at e1; cases e1)]; exact sG _ _ e1, ?_⟩
          rw [upd_same, List.take_add_one, hn, List.map_append]
          rfl
      rintro G ⟨sG, hD⟩
      rw [hxl, List.take_length] at hD
      refine ⟨D, ns.map numS, rfl, by rw [hD, List.map_map]; rfl, ?_, q _ sG⟩
      have hl : ∀ l : List Nat, (∀ n ∈ l, n ≤ 60) → ((l.map numS).map (·.length)).sum ≤ 2 * l.length := fun l => by
        induction l with
        | nil => intro _; simp
        | cons n l ih =>
          intro h
          have h1 := ih fun m hm => h m (List.mem_cons_of_mem _ hm)
          have h2 : (numS n).length ≤ 2 := by
            have : ∀ m : Nat, m ≤ 60 → (numS m).length ≤ 2 := by decide +kernel
            exact this n (h n (List.mem_cons_self ..))
          simp only [List.map_cons, List.sum_cons, List.length_cons]
          omega
      have := hl ns hns
      simp only [List.length_map]
      omega
end
/-- the runs behind a schedule that begins with r runs -/
def wdt : Nat → List Nat → Nat
  | r, [] => r
  | r, n :: ns => wdt (r + 1 - n) ns
def iD (n : Nat) : PyData := .int (n : Int)
theorem schR_app : ∀ (ns : List Nat) (r n : Nat), isSchR r (ns.map iD) = true → n ≤ wdt r ns → isSchR r ((ns ++ [n]).map iD) = true
  | [], r, n, _, h => by
    show ((decide (0 ≤ (n : Int)) && decide ((n : Int) ≤ (r : Int))) && isSchR _ []) = true
    have h2 : n ≤ r := h
    rw [decide_eq_true (by omega), decide_eq_true (by omega)]
    unfold isSchR; rfl
  | m :: ns, r, n, h, hn => by
    have h2 : ((decide (0 ≤ (m : Int)) && decide ((m : Int) ≤ (r : Int))) && isSchR (r + 1 - ((m : Int)).toNat) (ns.map iD)) = true := h
    show ((decide (0 ≤ (m : Int)) && decide ((m : Int) ≤ (r : Int))) && isSchR (r + 1 - ((m : Int)).toNat) ((ns ++ [n]).map iD)) = true
    rw [Bool.and_eq_true] at h2 ⊢
    exact ⟨h2.1, schR_app ns _ n h2.2 hn⟩
theorem wdt_app : ∀ (ns : List Nat) (r n : Nat), wdt r (ns ++ [n]) = wdt r ns + 1 - n
  | [], _, _ => rfl
  | m :: ns, r, n => wdt_app ns _ n
theorem wdt_le : ∀ (ns : List Nat) (r : Nat), wdt r ns ≤ r + ns.length
  | [], _ => Nat.le_refl _
  | m :: ns, r => by
    have := wdt_le ns (r + 1 - m)
    show wdt (r + 1 - m) ns ≤ _
    simp only [List.length_cons]
    omega
section
variable {P : Program} {w : World} {K : PySem.W.Frag} {mg : Str → Option Value} {base : Heap}
def sp_L_schedule (K : PySem.W.Frag) : Sp := fun vs H Q _ => ∃ (a : Addr) (k : Nat) (n : Int), vs = [.ref a, .int (k : Int)] ∧ Deal H a n ∧ n ≤ 90000 ∧ k ≤ 60 ∧ ∀ H' p ns, But a H H' → Deal H' a (n + 130) → SqT K H' p (vi ns) → ns.length = k → isSchR 0 (ns.map iD) = true → (∀ x ∈ ns, x ≤ 60) → Q (.ref p) H'
theorem ok_L_schedule (TX : Tx K mg) : FnOk P w K mg base CX0 3 TX.a_L_schedule TX.fd_L_schedule ["_law_deal", "_law_size"] (sp_L_schedule K) := by
  refine TX.f_L_schedule.ok sc_L_schedule (fun vs H Q E h => ?_) (fun cdv A outer s H vs Q E hr h => ?_)
  · obtain ⟨a, k, n, rfl, _⟩ := h; rfl
  · obtain ⟨a, k, n, rfl, hp, hn, hk, q⟩ := h
    refine ⟨_, (pss_cons (ps_par (i := 2) (j := 3) (by rfl) sc_L_schedule.nd rfl rfl (by decide) rfl rfl (pa_cons (pe_lst pa_nil) (pa_cons pe_int pa_nil)) (by rfl))
      (pss_cons (ps_for PassesOwn.never rfl (pi_range1 (by rfl) TX.b_range (pa_cons (pv 1) pa_nil)) (pg_name (i := 4) sc_L_schedule.nd rfl (.inl rfl))
        (pss_cons (ps_expr (pe_bm PySem.F.plainAttrs_list PySem.F.slot_list_append PySem.F.type_list_append mt_append (pv 2) (pa_cons (pe_call (ok_L_pick TX) (hr.mono (by decide)) (by rfl) TX.g_L_pick TX.f_L_pick.kp TX.bd_L_pick .nil pass0 (pa_cons (pv 0) (pa_cons (pe_lst (pa_cons pe_int (pa_cons (pv 3) (pa_cons (pe_call (ok_L_next TX) (hr.mono (by decide)) (by rfl) TX.g_L_next TX.f_L_next.kp TX.bd_L_next .nil pass0 (pa_cons (pv 0) (pa_cons (pe_op op_add (pv 3) pe_int) pa_nil))) pa_nil)))) pa_nil))) pa_nil)))
        (pss_one (ps_set (i := 3) sc_L_schedule.nd rfl (.inl rfl) (pe_op op_add (pe_op op_sub (pv 3) (pe_ix (k_ixL (K := K) rfl) (pv 2) (pe_un un_neg pe_int) (fun _ _ => rfl))) pe_int)))))
      (pss_one (ps_ret (pe_callTy (T := "tuple") (k_tupOf (K := K) rfl) (by rfl) TX.b_tuple (by decide +kernel) (pa_cons (pv 2) pa_nil)))))), ?_⟩
    refine ⟨sz60 (by simp), fun l nl => ⟨_, _, rfl, ?_⟩⟩
    have nla : l ≠ a := hp.ne nl
    have s2 := same_upd (o := .lst []) nl
    refine ⟨_, rfl, _, rfl, by omega, by omega, for_range (lo := 0) (n := ((k : Nat) : Int).toNat) (fun i σ H' => ∃ (y4 : Option V) (ns : List Nat), σ = [some (.ref a), some (.int (k : Int)), some (.ref l), some (.int ((wdt 0 ns : Nat) : Int)), y4] ∧ ns.length = i ∧ But a H H' ∧ Deal H' a (n + 2 * (i : Int)) ∧ H' l = some (.lst (vi ns)) ∧ isSchR 0 (ns.map iD) = true ∧ ∀ x ∈ ns, x ≤ 60)
      ⟨none, [], rfl, rfl, But.of s2, (hp.same s2).mono (by omega), upd_same, by unfold isSchR; rfl, fun x h => nomatch h⟩ ?_ ?_⟩
    · rintro i σ H2 hi ⟨y4, ns, rfl, hl, b2, p2, h2, hb, hx⟩
      have hw := wdt_le ns 0
      refine ⟨.ref l, rfl, .inl ⟨rfl, _, .inl (.inl h2)⟩, .ref a, rfl, _, rfl, .ref a, rfl, _, rfl, _, _, rfl, rfl, a, _, _, rfl, p2, by omega, by omega, by omega, fun H3 r b3 p3 r0 r1 => ⟨sz60 (by simp), fun o no => ?_⟩⟩
      have s4 := same_upd (o := .lst [V.int 0, V.int ((wdt 0 ns : Nat) : Int), V.int r]) no
      have h3 := b3 _ _ nla h2
      have oa : o ≠ a := p3.ne no
      refine ⟨a, o, _, _, rfl, p3.same s4, by omega, upd_same, oa, by simp, by simp, fun H5 v b5 p5 hv => ?_⟩
      obtain ⟨x, rfl, hxw⟩ : ∃ x : Nat, v = .int (x : Int) ∧ x ≤ wdt 0 ns := by
        have e : v = .int 0 ∨ v = .int ((wdt 0 ns : Nat) : Int) ∨ v = .int r := by simpa using hv
        rcases e with e | e | e
        · exact ⟨0, e, by omega⟩
        · exact ⟨_, e, by omega⟩
        · exact ⟨r.toNat, by rw [e]; congr 1; omega, by omega⟩
      have h5 := b5 _ _ nla (s4 _ _ h3)
      refine ⟨l, _, _, rfl, rfl, h5, sz61 (by rw [vi_len]; omega), ?_⟩
      have h6 := upd_same (H := H5) (a := l) (o := .lst (vi ns ++ [V.int (x : Int)]))
      have b6 : But a H (upd H5 l (.lst (vi ns ++ [V.int (x : Int)]))) := (((b2.trans b3).trans (But.of s4)).trans b5).mut nl
      have p6 := p5.upd (o := .lst (vi ns ++ [V.int (x : Int)])) nla
      generalize upd H5 l _ = H6 at h6 b6 p6 ⊢
      have e7 : vi ns ++ [V.int (x : Int)] = vi (ns ++ [x]) := by rw [vi_app]; rfl
      rw [e7] at h6
      refine ⟨_, rfl, .ref l, rfl, _, rfl, l, _, _, .int (x : Int), rfl, rfl, .inl (.inl h6), by rw [vi_app]; exact atI_last _ _, _, _, rfl, rfl, _, _, rfl, rfl, some (.int (0 + (i : Int))), ns ++ [x], ?_, by rw [List.length_append, hl]; rfl, b6, p6.mono (by omega), h6, schR_app ns 0 x hb hxw, ?_⟩
      · rw [wdt_app, show ((wdt 0 ns + 1 - x : Nat) : Int) = ((wdt 0 ns : Nat) : Int) - (x : Int) + 1 by omega]
        rfl
      · intro y hy
        rcases List.mem_append.mp hy with h | h
        · exact hx y h
        · rw [List.mem_singleton.mp h]; omega
    · rintro σ H2 ⟨y4, ns, rfl, hl, b2, p2, h2, hb, hx⟩
      refine ⟨.ref l, rfl, l, _, rfl, .inl ⟨.inl (.inl h2), fun o no => ?_⟩⟩
      exact q _ o ns (b2.trans (But.of (same_upd no))) ((p2.same (same_upd no)).mono (by omega)) (.inl (.inl upd_same)) (by omega) hb hx
end
/-- what the law expects of a text -/
def toldR (d : PyData) : PyData := match readD d with
  | some ds => .tuple [.str "found", .tuple ds]
  | none => .tuple [.str "text", .int 0]
section
variable {P : Program} {w : World} {K : PySem.W.Frag} {mg : Str → Option Value} {base : Heap}
def sp_L_expected (K : PySem.W.Frag) : Sp := fun vs H Q _ => ∃ (x : V) (d : PyData), vs = [x] ∧ Dq K H x d ∧ (∀ z, d = .str z → z.length ≤ 100000 ∧ (Txt.split z " ").length ≤ 90000 ∧ ∀ y ∈ Txt.split z " ", y.length ≤ 100000) ∧
  ∀ H' t, Same H H' → Dq K H' (.ref t) (toldR d) → Q (.ref t) H'
theorem ok_L_expected (TX : Tx K mg) : FnOk P w K mg base CX0 2 TX.a_L_expected TX.fd_L_expected ["_law_thing"] (sp_L_expected K) := by
  refine TX.f_L_expected.ok sc_L_expected (fun vs H Q E h => ?_) (fun cdv A outer s H vs Q E hr h => ?_)
  · obtain ⟨x, d, rfl, _⟩ := h; rfl
  · obtain ⟨x, d, rfl, hq, hlen, q⟩ := h
    refine ⟨_, (pss_cons (ps_if (pt_not (pt_val (pe_callB (id := "isinstance") (k_isi (K := K) rfl) (by rfl) TX.b_isinstance (by decide +kernel) (pa_cons (pv 0) (pa_cons (pe_bltn (v := .ty "str") (by rfl) TX.b_str (by decide +kernel) rfl) pa_nil)))))
        (pss_one (ps_ret (pe_tup (pa_cons pe_str (pa_cons pe_int pa_nil)))))
        pss_nil)
      (pss_cons (ps_set (i := 1) sc_L_expected.nd rfl (.inl rfl) (pe_ifExp (pt_cmpR op_eq (pv 0) pe_str (nomark _)) (pe_tup pa_nil) (pe_callTy (T := "tuple") (k_tupOf (K := K) rfl) (by rfl) TX.b_tuple (by decide +kernel) (pa_cons (pe_lc (own := [("_law_word", 2)]) (by rfl) sc_L_expected.nd (k_piL (K := K) rfl (pe_split (pv 0) pe_str)) (blkOk_by (own := [("_law_word", 2)]) (N := N_L_expected) (sc := defScope s_L_expected) (by decide +kernel)) (fun _ _ _ _ _ => (pg_name (i := 2) sc_L_expected.nd rfl (Or.inl rfl))) (fun _ _ _ _ _ => pts_nil) (fun _ _ _ _ _ => (pe_call (ok_L_count_in TX) (hr.mono (by decide)) (by rfl) TX.g_L_count_in TX.f_L_count_in.kp TX.bd_L_count_in .nil pass0 (pa_cons (pv 2) pa_nil)))) pa_nil))))
      (pss_one (ps_ret (pe_ifExp (pt_val (pe_call (ok_L_is_schedule TX) (hr.mono (by decide)) (by rfl) TX.g_L_is_schedule TX.f_L_is_schedule.kp TX.bd_L_is_schedule .nil pass0 (pa_cons (pv 1) pa_nil))) (pe_tup (pa_cons pe_str (pa_cons (pv 1) pa_nil))) (pe_tup (pa_cons pe_str (pa_cons pe_int pa_nil)))))))), ?_⟩
    by_cases hs : ∃ z, d = .str z
    case' neg =>
      have hb : L2.kitB (tyq d) "str" = some false := by
        cases d with
        | none => exact (by decide +kernel : L2.kitB "NoneType" "str" = some false)
        | bool b => exact (by decide +kernel : L2.kitB "bool" "str" = some false)
        | int b => exact (by decide +kernel : L2.kitB "int" "str" = some false)
        | str b => exact absurd ⟨_, rfl⟩ hs
        | list b => exact (by decide +kernel : L2.kitB "list" "str" = some false)
        | dict b => exact (by decide +kernel : L2.kitB "dict" "str" = some false)
        | tuple b => exact (by decide +kernel : L2.kitB "tuple" "str" = some false)
      have hn : readD d = none := by cases d <;> first | rfl | exact absurd ⟨_, rfl⟩ hs
      refine ⟨x, rfl, x, .ty "str", .type (tyq d), .type "str", false, rfl, .ty _, ty_q hq, kit_ty hb, false, rfl, iteT ⟨sz60 (by simp), fun t nt => q _ t (same_upd nt) ?_⟩⟩
      unfold toldR
      rw [hn]
      exact .tupq (.inl (.inl upd_same)) (.cons (.strq _) (.cons (.intq _) .nil))
    obtain ⟨z, rfl⟩ := hs
    cases hq
    obtain ⟨hz, hwl, hwz⟩ := hlen z rfl
    refine ⟨_, rfl, .str z, .ty "str", .type "str", .type "str", true, rfl, .ty _, .base (.str z), kit_ty (by decide +kernel), true, rfl, iteF ?_⟩
    refine ⟨_, rfl, rfl, _, rfl, ?_⟩
    by_cases e : z = "-"
    · subst e
      have e2 : readD (.str "-") = some [] := by unfold readD; exact if_pos rfl
      refine decT rfl ⟨sz60 (by simp), fun r nr => ?_⟩
      have sH := same_upd (H := H) (o := .tup []) nr
      have dq : Dq K (upd H r (.tup [])) (.ref r) (.tuple []) := .tupq (.inl (.inl upd_same)) .nil
      have hrd : readD (.str "-") = if isSchD (.tuple []) = true then some [] else none := by rw [e2]; rfl
      generalize upd H r _ = G2 at sH dq ⊢
      refine ⟨_, rfl, .ref r, _, rfl, dq, ?_⟩
      cases hb : isSchD (.tuple []) with
      | true =>
        rw [hb, if_pos rfl] at hrd
        refine ⟨true, rfl, iteT ⟨_, rfl, sz60 (by simp), fun t nt => q _ t (sH.trans (same_upd nt)) ?_⟩⟩
        unfold toldR
        rw [hrd]
        exact .tupq (.inl (.inl upd_same)) (.cons (.strq _) (.cons (Dq.same (same_upd nt) dq) .nil))
      | false =>
        rw [hb, if_neg (by decide)] at hrd
        refine ⟨false, rfl, iteF ⟨sz60 (by simp), fun t nt => q _ t (sH.trans (same_upd nt)) ?_⟩⟩
        unfold toldR
        rw [hrd]
        exact .tupq (.inl (.inl upd_same)) (.cons (.strq _) (.cons (.intq _) .nil))
    · refine decF (fun y => e (V.str.inj y)) ?_
      refine ⟨_, rfl, ⟨z, rfl⟩, z, " ", rfl, rfl, by decide +kernel, ?_, ?_⟩
      · have : sizeLine = 16777216 := by decide
        omega
      intro wl nwl
      have s1 := same_upd (o := .lst ((Txt.split z " ").map V.str)) nwl
      have hwd := upd_same (H := H) (a := wl) (o := .lst ((Txt.split z " ").map V.str))
      generalize upd H wl _ = H1 at s1 hwd ⊢
      refine ⟨wl, rfl, ⟨_, .inl (.inl hwd)⟩, fun D nD => ?_⟩
      have hrd : readD (.str z) = if isSchD (.tuple ((Txt.split z " ").map numD)) = true then some ((Txt.split z " ").map numD) else none := by
        show (if z = "-" then some [] else _) = _
        exact if_neg e
      refine lc_it (walk_list (K := K) (a := wl) (xs := (Txt.split z " ").map V.str)) (fun i G => But D H1 G ∧ G D = some (.lst (((Txt.split z " ").take i).map numV))) ⟨.of (same_upd nD), upd_same⟩ (fun i G _ h => .inl (.inl (h.1 _ _ (fun y => by rw [y, nD] at hwd; cases hwd) hwd))) ?_ ?_
      · rintro i x G G' hi ⟨bG, hD⟩ ⟨rfl, hx⟩
        rw [List.getElem?_map] at hx
        cases hy : (Txt.split z " ")[i]? with
        | none => rw [hy] at hx; cases hx
        | some y =>
          rw [hy] at hx
          cases hx
          refine ⟨rfl, ?_⟩
          simp only [tYes, if_true]
          refine ⟨_, rfl, y, rfl, Nat.le_trans (hwz y (List.mem_of_getElem? hy)) (by decide), fun H' s' => ?_⟩
          have hD' := s' _ _ hD
          refine ⟨_, hD', sz60 (by simp; omega), (bG.trans (But.of s')).trans But.upd, ?_⟩
          rw [upd_same, List.take_add_one, hy, List.map_append]
          rfl
      rintro G ⟨bG, hD⟩
      have hlen2 : ((Txt.split z " ").map V.str).length = (Txt.split z " ").length := by simp
      rw [hlen2, List.take_length] at hD
      have sG : Same H G := fun c o e1 => bG _ _ (fun y => by rw [y] at e1; rw [s1 _ _ e1] at nD; cases nD) (s1 _ _ e1)
      refine ⟨D, (Txt.split z " ").map numV, rfl, .inl ⟨.inl (.inl hD), fun r nr => ?_⟩⟩
      have sr := same_upd (o := .tup ((Txt.split z " ").map numV)) nr
      have hr0 := upd_same (H := G) (a := r) (o := .tup ((Txt.split z " ").map numV))
      generalize upd G r _ = G2 at sr hr0 ⊢
      have all : ∀ ys : List Str, DqAll K G2 (ys.map numV) (ys.map numD) := fun ys => by
        induction ys with
        | nil => exact .nil
        | cons y ys ih => exact .cons (num_dq y) ih
      have dq : Dq K G2 (.ref r) (.tuple ((Txt.split z " ").map numD)) := .tupq (.inl (.inl hr0)) (all _)
      have sH := sG.trans sr
      refine ⟨_, rfl, .ref r, _, rfl, dq, ?_⟩
      cases hb : isSchD (.tuple ((Txt.split z " ").map numD)) with
      | true =>
        rw [hb, if_pos rfl] at hrd
        refine ⟨true, rfl, iteT ⟨_, rfl, sz60 (by simp), fun t nt => q _ t (sH.trans (same_upd nt)) ?_⟩⟩
        unfold toldR
        rw [hrd]
        exact .tupq (.inl (.inl upd_same)) (.cons (.strq _) (.cons (Dq.same (same_upd nt) dq) .nil))
      | false =>
        rw [hb, if_neg (by decide)] at hrd
        refine ⟨false, rfl, iteF ⟨sz60 (by simp), fun t nt => q _ t (sH.trans (same_upd nt)) ?_⟩⟩
        unfold toldR
        rw [hrd]
        exact .tupq (.inl (.inl upd_same)) (.cons (.strq _) (.cons (.intq _) .nil))
end
theorem spl1_sum (s : Nat) : ∀ (l acc : List Nat), ((TL.spl [s] 0 acc l).map List.length).sum ≤ acc.length + l.length
  | [], acc => by simp [TL.spl]
  | c :: r, acc => by
    unfold TL.spl
    cases h : TL.pre [s] (c :: r) with
    | true =>
      have i1 := spl1_sum s r []
      have e : [s].length - 1 = 0 := rfl
      rw [if_pos rfl, e]
      simp only [List.map_cons, List.sum_cons, List.length_cons, List.length_nil] at i1 ⊢
      omega
    | false =>
      rw [if_neg (by decide)]
      have i1 := spl1_sum s r (acc ++ [c])
      simp only [List.length_append, List.length_cons, List.length_nil] at i1 ⊢
      omega
def sumS (ys : List Str) : Nat := (ys.map (·.length)).sum
theorem split_sp_sum (z : Str) : sumS (Txt.split z " ") ≤ z.length := by
  have e := split_sp_spl z
  have l := spl1_sum 32 (TL.tl z) []
  rw [← e, List.map_map, ← TL.len_tl] at l
  have e2 : (List.length ∘ TL.tl) = fun y : Str => y.length := by funext y; exact (TL.len_tl y).symm
  rw [e2] at l
  simpa [sumS] using l
theorem joinL_len (S : List Nat) : ∀ ps : List (List Nat), (TL.joinL S ps).length ≤ (ps.map List.length).sum + ps.length * S.length
  | [] => by simp [TL.joinL]
  | [p] => by simp [TL.joinL]
  | p :: q :: r => by
    have i := joinL_len S (q :: r)
    have e : (p :: q :: r).length * S.length = (q :: r).length * S.length + S.length := by
      rw [List.length_cons (as := q :: r), Nat.succ_mul]
    rw [e]
    simp only [TL.joinL, List.length_append, List.map_cons, List.sum_cons] at i ⊢
    omega
theorem join_sp_len (ys : List Str) : (Txt.join " " ys).length ≤ sumS ys + ys.length := by
  rw [TL.len_tl, TL.join_eq, TL.tl_join, tl_sp]
  have i := joinL_len [32] (ys.map TL.tl)
  have e2 : (List.length ∘ TL.tl) = fun y : Str => y.length := by funext y; exact (TL.len_tl y).symm
  rw [List.map_map, List.length_map, e2] at i
  simpa [sumS] using i
theorem sumS_erase : ∀ (ys : List Str) (i : Nat), sumS (ys.eraseIdx i) ≤ sumS ys
  | [], _ => by simp [sumS]
  | y :: ys, 0 => by simp [sumS]
  | y :: ys, i + 1 => by
    have := sumS_erase ys i
    simp only [sumS, List.eraseIdx_cons_succ, List.map_cons, List.sum_cons] at this ⊢
    omega
theorem sumS_app (xs ys : List Str) : sumS (xs ++ ys) = sumS xs + sumS ys := by simp [sumS]
theorem sumS_set : ∀ (ys : List Str) (i : Nat) (y : Str), sumS (ys.set i y) ≤ sumS ys + y.length
  | [], _, _ => by simp [sumS]
  | z :: ys, 0, y => by simp only [sumS, List.set_cons_zero, List.map_cons, List.sum_cons]; omega
  | z :: ys, i + 1, y => by
    have := sumS_set ys i y
    simp only [sumS, List.set_cons_succ, List.map_cons, List.sum_cons] at this ⊢
    omega
theorem sumS_mem : ∀ {ys : List Str} {y : Str}, y ∈ ys → y.length ≤ sumS ys
  | z :: ys, y, h => by
    simp only [sumS, List.map_cons, List.sum_cons]
    rcases List.mem_cons.mp h with rfl | h
    · omega
    · have := sumS_mem h
      unfold sumS at this
      omega
theorem map_erase {α β : Type} (f : α → β) : ∀ (l : List α) (i : Nat), (l.map f).eraseIdx i = (l.eraseIdx i).map f
  | [], _ => rfl
  | x :: l, 0 => rfl
  | x :: l, i + 1 => by
    show f x :: (l.map f).eraseIdx i = f x :: (l.eraseIdx i).map f
    rw [map_erase f l i]
theorem seqIx_nat {i n : Nat} (h : i < n) : seqIndex? (i : Int) n = some i := by
  unfold seqIndex?
  simp
  omega
theorem ixN_nat {i n : Nat} (h : i < n) : ixN n (i : Int) = some i := by
  unfold ixN
  simp
  omega
section
variable {P : Program} {w : World} {K : PySem.W.Frag} {mg : Str → Option Value} {base : Heap}
def sp_L_bent (K : PySem.W.Frag) : Sp := fun vs H Q _ => ∃ (a : Addr) (z : Str) (n : Int), vs = [.ref a, .str z] ∧ Deal H a n ∧ n ≤ 90000 ∧ z.length ≤ 1000 ∧ ∀ H' y, But a H H' → Deal H' a (n + 5) → y.length ≤ 20000 → Q (.str y) H'
theorem ok_L_bent (TX : Tx K mg) : FnOk P w K mg base CX0 3 TX.a_L_bent TX.fd_L_bent ["_law_deal", "_law_page"] (sp_L_bent K) := by
  refine TX.f_L_bent.ok sc_L_bent (fun vs H Q E h => ?_) (fun cdv A outer s H vs Q E hr h => ?_)
  · obtain ⟨a, z, n, rfl, _⟩ := h; rfl
  · obtain ⟨a, z, n, rfl, hp, hn, hz, q⟩ := h
    refine ⟨_, (pss_cons (ps_par (i := 2) (j := 3) (by rfl) sc_L_bent.nd rfl rfl (by decide) rfl rfl (pa_cons (pe_split (pv 1) pe_str) (pa_cons (pe_call (ok_L_next TX) (hr.mono (by decide)) (by rfl) TX.g_L_next TX.f_L_next.kp TX.bd_L_next .nil pass0 (pa_cons (pv 0) (pa_cons pe_int pa_nil))) pa_nil)) (by rfl))
      (pss_cons (ps_par (i := 4) (j := 5) (by rfl) sc_L_bent.nd rfl rfl (by decide) rfl rfl (pa_cons (pe_call (ok_L_next TX) (hr.mono (by decide)) (by rfl) TX.g_L_next TX.f_L_next.kp TX.bd_L_next .nil pass0 (pa_cons (pv 0) (pa_cons (pe_callB (id := "len") (k_len (K := K) rfl) (by rfl) TX.b_len (by decide +kernel) (pa_cons (pv 2) pa_nil)) pa_nil))) (pa_cons (pe_lst (pa_cons pe_str (pa_cons pe_str (pa_cons pe_str (pa_cons pe_str (pa_cons pe_str (pa_cons pe_str (pa_cons pe_str (pa_cons pe_str (pa_cons pe_str (pa_cons pe_str (pa_cons pe_str (pa_cons (pe_op op_mulS pe_str pe_int) pa_nil))))))))))))) pa_nil)) (by rfl))
      (pss_cons (ps_set (i := 5) sc_L_bent.nd rfl (.inl rfl) (pe_op op_cat (pv 5) (pe_lst (pa_cons (pe_op op_mulS pe_str pe_int) (pa_cons (pe_op op_mulS pe_str pe_int) pa_nil)))))
      (pss_cut (ps_if (pt_cmpR op_eq (pv 3) pe_int (nomark _))
        (pss_one (ps_expr (pe_bm PySem.F.plainAttrs_list PySem.F.slot_list_pop PySem.F.type_list_pop mt_popAt (pv 2) (pa_cons (pv 4) pa_nil))))
        (pss_one (ps_if (pt_cmpR op_eq (pv 3) pe_int (nomark _))
          (pss_one (ps_expr (pe_bm PySem.F.plainAttrs_list PySem.F.slot_list_insert PySem.F.type_list_insert mt_insert (pv 2) (pa_cons (pv 4) (pa_cons (pe_call (ok_L_pick TX) (hr.mono (by decide)) (by rfl) TX.g_L_pick TX.f_L_pick.kp TX.bd_L_pick .nil pass0 (pa_cons (pv 0) (pa_cons (pv 5) pa_nil))) pa_nil)))))
          (pss_one (ps_if (pt_cmpR op_eq (pv 3) pe_int (nomark _))
            (pss_one (ps_asg (pe_call (ok_L_pick TX) (hr.mono (by decide)) (by rfl) TX.g_L_pick TX.f_L_pick.kp TX.bd_L_pick .nil pass0 (pa_cons (pv 0) (pa_cons (pv 5) pa_nil))) (pg_sub (pv 2) (pv 4) set_list)))
            (pss_one (ps_if (pt_cmpR op_eq (pv 3) pe_int (nomark _))
              (pss_one (ps_expr (pe_bm PySem.F.plainAttrs_list PySem.F.slot_list_append PySem.F.type_list_append mt_append (pv 2) (pa_cons (pe_ix (k_ixL (K := K) rfl) (pv 2) (pv 4) (fun _ _ => rfl)) pa_nil))))
              pss_nil)))))))
      (pss_one (ps_ret (pe_op op_add_str (pe_join pe_str (pv 2)) (pe_ix (k_ixL (K := K) rfl) (pe_lst (pa_cons pe_str (pa_cons pe_str (pa_cons pe_str pa_nil)))) (pe_callB (id := "max") (call_max2 rfl) (by rfl) TX.b_max (by decide +kernel) (pa_cons pe_int (pa_cons (pe_op op_sub (pv 3) pe_int) pa_nil))) (fun _ _ => rfl))))))))), ?_⟩
    have hsz : sizeLine = 16777216 := by decide
    refine ⟨_, rfl, ⟨z, rfl⟩, z, " ", rfl, rfl, by decide +kernel, by omega, fun wl nwl => ?_⟩
    have s1 := same_upd (o := .lst ((Txt.split z " ").map V.str)) nwl
    have hw := upd_same (H := H) (a := wl) (o := .lst ((Txt.split z " ").map V.str))
    have nwa : wl ≠ a := hp.ne nwl
    have hp1 := hp.same s1
    have hc := (split_sp z).1
    have hsum := split_sp_sum z
    have hne := split_sp_ne z
    generalize upd H wl _ = H1 at s1 hw hp1 ⊢
    generalize Txt.split z " " = ys at hc hsum hne hw ⊢
    have hpos : 0 < ys.length := List.length_pos_iff.mpr hne
    refine ⟨.ref a, rfl, a, _, _, rfl, hp1, by omega, by decide, by decide, fun H2 way b2 p2 w0 w6 => ⟨_, _, rfl, ?_⟩⟩
    have hw2 := b2 _ _ nwa hw
    refine ⟨.ref a, rfl, .ref wl, rfl, wl, _, rfl, .inl (.inl (.inl hw2)), a, _, _, rfl, p2, by omega, by rw [List.length_map]; omega, by rw [List.length_map]; omega, fun H3 pl b3 p3 l0 l1 => ?_⟩
    have hw3 := b3 _ _ nwa hw2
    rw [List.length_map] at l1
    refine ⟨_, 60, rfl, rfl, by decide +kernel, by decide +kernel, by decide, by decide, sz60 (by simp), fun o1 no1 => ⟨_, _, rfl, ?_⟩⟩
    refine ⟨.ref o1, rfl, _, 61, rfl, rfl, by decide +kernel, by decide +kernel, by decide, by decide, _, 4400, rfl, rfl, by decide +kernel, by decide +kernel, by decide, by decide, sz60 (by simp), fun o2 no2 => ?_⟩
    have s4 := same_upd (o := .lst [V.str "", V.str "0", V.str "00", V.str "01", V.str "-", V.str "-1", V.str "x", V.str "1", V.str "60", V.str "1.0", V.str "+1", V.str (repS "9" 60)]) no1
    have ho1 := upd_same (H := H3) (a := o1) (o := .lst [V.str "", V.str "0", V.str "00", V.str "01", V.str "-", V.str "-1", V.str "x", V.str "1", V.str "60", V.str "1.0", V.str "+1", V.str (repS "9" 60)])
    have s5 := same_upd (o := .lst [V.str (repS "9" 61), V.str (repS "7" 4400)]) no2
    refine ⟨o1, o2, _, _, rfl, rfl, s5 _ _ ho1, upd_same, sz60 (by simp), fun o3 no3 => ?_⟩
    obtain ⟨os, hos⟩ : ∃ os : List V, os = [V.str "", V.str "0", V.str "00", V.str "01", V.str "-", V.str "-1", V.str "x", V.str "1", V.str "60", V.str "1.0", V.str "+1", V.str (repS "9" 60)] ++ [V.str (repS "9" 61), V.str (repS "7" 4400)] := ⟨_, rfl⟩
    rw [← hos]
    have s6 := (s4.trans s5).trans (same_upd (o := .lst os) no3)
    have ho3 := upd_same (H := (upd (upd H3 o1 (.lst [V.str "", V.str "0", V.str "00", V.str "01", V.str "-", V.str "-1", V.str "x", V.str "1", V.str "60", V.str "1.0", V.str "+1", V.str (repS "9" 60)])) o2 (.lst [V.str (repS "9" 61), V.str (repS "7" 4400)]))) (a := o3) (o := .lst os)
    have p5 := p3.same (s4.trans s5)
    have noa : o3 ≠ a := p5.ne no3
    have p6 := p3.same s6
    have hw6 := s6 _ _ hw3
    generalize upd (upd (upd H3 o1 _) o2 _) o3 (.lst os) = H4 at s6 ho3 p6 hw6 ⊢
    have hol : os ≠ [] ∧ os.length ≤ 1000 ∧ ∀ v, v ∈ os → ∃ y : Str, v = .str y ∧ y.length ≤ 4400 := by
      rw [hos]
      refine ⟨by simp, by simp, fun v hv => ?_⟩
      simp only [List.cons_append, List.nil_append, List.mem_cons, List.not_mem_nil, or_false] at hv
      rcases hv with rfl | rfl | rfl | rfl | rfl | rfl | rfl | rfl | rfl | rfl | rfl | rfl | rfl | rfl <;> refine ⟨_, rfl, ?_⟩
      all_goals first
        | (rw [repS_len]; decide +kernel)
        | decide +kernel
    clear hos s4 s5 ho1 p5 no1 no2 no3
    have b6 : But a H H4 := (((But.of s1).trans b2).trans b3).trans (But.of s6)
    clear s6 b2 b3 s1 hw hw2 hw3 hp1 p2 p3
    obtain ⟨at', rfl⟩ : ∃ k : Nat, pl = (k : Int) := ⟨pl.toNat, by omega⟩
    have hat : at' < ys.length := by omega
    refine ⟨fun σ H' => ∃ (ys' : List Str), σ = [some (.ref a), some (.str z), some (.ref wl), some (.int way), some (.int (at' : Int)), some (.ref o3)] ∧ But a H H' ∧ Deal H' a (n + 5) ∧ H' wl = some (.lst (ys'.map V.str)) ∧ ys'.length ≤ 1002 ∧ sumS ys' ≤ 10000, ?_, ?_⟩
    · refine ⟨_, rfl, rfl, _, rfl, ite2 (fun e => ?_) (fun e => ?_)⟩
      · refine ⟨.ref wl, rfl, .inl ⟨rfl, _, .inl (.inl hw6)⟩, _, rfl, wl, _, _, at', _, rfl, rfl, hw6, by omega, by omega, ?_, by rw [List.getElem?_map, List.getElem?_eq_getElem hat]; rfl, ?_⟩
        · rw [List.length_map]; exact seqIx_nat hat
        · refine ⟨ys.eraseIdx at', rfl, b6.mut nwl, (p6.upd nwa).mono (by omega), ?_, ?_, ?_⟩
          · rw [upd_same, map_erase]
          · have := List.length_eraseIdx_le ys at'; omega
          · have := sumS_erase ys at'; omega
      · refine ⟨_, rfl, rfl, _, rfl, ite2 (fun e => ?_) (fun e => ?_)⟩
        · refine ⟨.ref wl, rfl, .inl ⟨rfl, _, .inl (.inl hw6)⟩, _, rfl, .ref a, rfl, .ref o3, rfl, a, o3, os, _, rfl, p6, by omega, ho3, noa, hol.1, hol.2.1, fun H5 v b5 p5 hv => ?_⟩
          obtain ⟨y, rfl, hy⟩ := hol.2.2 v hv
          have hw5 := b5 _ _ nwa hw6
          refine ⟨wl, _, _, _, rfl, rfl, hw5, sz61 (by rw [List.length_map]; omega), by omega, by omega, ?_⟩
          refine ⟨ys.take at' ++ [y] ++ ys.drop at', rfl, (b6.trans b5).mut nwl, (p5.upd nwa).mono (by omega), ?_, ?_, ?_⟩
          · rw [upd_same, List.map_append, List.map_append, List.map_take, List.map_drop]; rfl
          · simp only [List.length_append, List.length_take, List.length_drop, List.length_cons, List.length_nil]; omega
          · have e1 := sumS_app (ys.take at') (ys.drop at')
            rw [List.take_append_drop] at e1
            rw [sumS_app, sumS_app]
            have e2 : sumS [y] = y.length := by simp [sumS]
            omega
        · refine ⟨_, rfl, rfl, _, rfl, ite2 (fun e => ?_) (fun e => ?_)⟩
          · refine ⟨.ref a, rfl, .ref o3, rfl, a, o3, os, _, rfl, p6, by omega, ho3, noa, hol.1, hol.2.1, fun H5 v b5 p5 hv => ?_⟩
            obtain ⟨y, rfl, hy⟩ := hol.2.2 v hv
            have hw5 := b5 _ _ nwa hw6
            refine ⟨.ref wl, rfl, _, rfl, wl, _, _, at', rfl, rfl, hw5, ?_, ?_⟩
            · rw [List.length_map]; exact ixN_nat hat
            refine ⟨ys.set at' y, rfl, (b6.trans b5).mut nwl, (p5.upd nwa).mono (by omega), ?_, ?_, ?_⟩
            · rw [upd_same, List.map_set]
            · simp only [List.length_set]; omega
            · have := sumS_set ys at' y; omega
          · refine ⟨_, rfl, rfl, _, rfl, ite2 (fun e => ?_) (fun e => ?_)⟩
            · refine ⟨.ref wl, rfl, .inl ⟨rfl, _, .inl (.inl hw6)⟩, .ref wl, rfl, _, rfl, wl, _, _, .str ys[at'], rfl, rfl, .inl (.inl hw6), atI_nat (by rw [List.getElem?_map, List.getElem?_eq_getElem hat]; rfl), wl, _, _, rfl, rfl, hw6, sz61 (by rw [List.length_map]; omega), ?_⟩
              refine ⟨ys ++ [ys[at']], rfl, b6.mut nwl, (p6.upd nwa).mono (by omega), ?_, ?_, ?_⟩
              · rw [upd_same, List.map_append]; rfl
              · simp only [List.length_append, List.length_cons, List.length_nil]; omega
              · have := sumS_mem (List.getElem_mem hat)
                rw [sumS_app]
                have e2 : sumS [ys[at']] = ys[at'].length := by simp [sumS]
                omega
            · exact ⟨ys, rfl, b6, p6.mono (by omega), hw6, by omega, by omega⟩
    · rintro σ H' ⟨ys', rfl, b7, p7, hw7, hl7, hs7⟩
      have e1 : (" " : Str).length = 1 := by decide +kernel
      refine ⟨⟨_, rfl⟩, _, rfl, _, wl, ys', rfl, rfl, .inl (.inl (.inl hw7)), by rw [e1]; unfold sumS at hs7; omega, sz60 (by simp), fun o4 no4 => ?_⟩
      have s8 := same_upd (o := .lst [V.str "", V.str " ", V.str "\n"]) no4
      obtain ⟨y, hy, hyl⟩ : ∃ y : Str, atI [V.str "", V.str " ", V.str "\n"] (if way - 3 > 0 then way - 3 else 0) = some (.str y) ∧ y.length ≤ 1 := by
        have h : way = 0 ∨ way = 1 ∨ way = 2 ∨ way = 3 ∨ way = 4 ∨ way = 5 := by omega
        rcases h with rfl | rfl | rfl | rfl | rfl | rfl
        · exact ⟨"", rfl, by decide +kernel⟩
        · exact ⟨"", rfl, by decide +kernel⟩
        · exact ⟨"", rfl, by decide +kernel⟩
        · exact ⟨"", rfl, by decide +kernel⟩
        · exact ⟨" ", rfl, by decide +kernel⟩
        · exact ⟨"\n", rfl, by decide +kernel⟩
      have hj := join_sp_len ys'
      refine ⟨_, rfl, _, _, rfl, rfl, _, _, rfl, o4, _, _, .str y, rfl, rfl, .inl (.inl upd_same), hy, _, _, rfl, rfl, by omega, ?_⟩
      refine q _ _ (b7.trans (But.of s8)) (p7.same s8) ?_
      have : (Txt.join " " ys' ++ y).length = (Txt.join " " ys').length + y.length := by
        rw [TL.len_tl, TL.tl_append, List.length_append, ← TL.len_tl, ← TL.len_tl]
      omega
end
theorem u65 {k : Nat} {A : Around} (r : Room k A) : A.units + 65 < cLine := by have := r.un; omega
section
variable {P : Program} {w : World} {K : PySem.W.Frag} {mg : Str → Option Value} {base : Heap}
/-- what met makes of a call: the names of the five classes in their order -/
def metC (TX : Tx K mg) : List Addr := [TX.c_InvalidText, TX.c_InvalidSchedule]
def metN : List Str := ["text", "schedule"]
def TMet (TX : Tx K mg) : (XK → Hp → VK → Prop) → Hp → VK → Prop := fun tl H Q => ∀ H1, Same H H1 → ∀ (E' : XK) (R : VK),
  (∀ (i : Nat) (C dd : Addr) (x : Str) (v : V) (H' : Hp), (metC TX)[i]? = some C → metN[i]? = some x → H' dd = some (.xd [("value", v)]) → (∀ H'' t, Same H' H'' → H'' t = some (.tup [.str x, v]) → Q (.ref t) H'') → E' (.ref C) (some dd) H') →
  (∀ (v : V) (H' : Hp), (∀ H'' t, Same H' H'' → H'' t = some (.tup [.str "found", v]) → Q (.ref t) H'') → R v H') → tl E' H1 R
theorem exm_of (TX : Tx K mg) {C : Addr} (h : C ∈ metC TX) : PySem.W.exmOne K (.ref C) (.ref TX.c_MergeBudgetError) = some true := by
  have hm : C ∈ [TX.c_InvalidSchedule, TX.c_InvalidText] := by
    unfold metC at h
    simp only [List.mem_cons, List.not_mem_nil, or_false] at h ⊢
    rcases h with rfl | rfl <;> simp
  obtain ⟨_, k2, _⟩ := kitB_ok TX.kits hm
  have hne : C ≠ TX.c_MergeBudgetError := fun e => TX.kitz (by rw [← e]; exact hm)
  unfold PySem.W.exmOne
  rw [if_pos (by rw [TX.xf_MergeBudgetError.exC]; rfl)]
  unfold PySem.W.kitOne at k2
  rw [if_neg (fun z => hne (by have z2 : Value.ref C = Value.ref TX.c_MergeBudgetError := beq_iff_eq.mp z; cases z2; rfl))] at k2
  exact k2
theorem met_kit (TX : Tx K mg) {i j : Nat} {C D : Addr} (hi : (metC TX)[i]? = some C) (hj : (metC TX)[j]? = some D) : PySem.W.kitOne K (.ref C) (.ref D) = some (decide (i = j)) := by
  have mem : ∀ {C : Addr}, C ∈ metC TX → C ∈ [TX.c_InvalidSchedule, TX.c_InvalidText] := fun {C} h => by
    unfold metC at h
    simp only [List.mem_cons, List.not_mem_nil, or_false] at h ⊢
    rcases h with rfl | rfl <;> simp
  obtain ⟨k1, _, _⟩ := kitB_ok TX.kits (mem (List.mem_of_getElem? hi))
  rw [k1 D (mem (List.mem_of_getElem? hj))]
  have nd : (metC TX).Nodup := by
    have := TX.kitn
    unfold metC
    simp only [List.nodup_cons, List.mem_cons, List.not_mem_nil, or_false, not_false_eq_true, List.nodup_nil, and_true] at this ⊢
    exact fun z => this z.symm
  congr 1
  by_cases e : i = j
  · subst e
    rw [hi] at hj
    cases hj
    simp
  · have : C ≠ D := fun z => by
      subst z
      obtain ⟨q1, r1⟩ := List.getElem?_eq_some_iff.mp hi
      obtain ⟨q2, r2⟩ := List.getElem?_eq_some_iff.mp hj
      exact e ((List.getElem_inj nd).mp (r1.trans r2.symm))
    rw [decide_eq_false e]
    simpa using this
theorem met_exc (TX : Tx K mg) {C : Addr} (h : C ∈ metC TX) : ExcC K C ∧ XfC K C ∧ PySem.W.findIn K (.ref C) "value" = some none ∧ PySem.W.kitOne K (.ref C) (.type "ValueError") = some true := by
  have hm : C ∈ [TX.c_InvalidSchedule, TX.c_InvalidText] := by
    unfold metC at h
    simp only [List.mem_cons, List.not_mem_nil, or_false] at h ⊢
    rcases h with rfl | rfl <;> simp
  obtain ⟨_, _, k3⟩ := kitB_ok TX.kits hm
  unfold metC at h
  simp only [List.mem_cons, List.not_mem_nil, or_false] at h
  rcases h with rfl | rfl
  · exact ⟨TX.xe_InvalidText, TX.xf_InvalidText, TX.no_InvalidText, k3⟩
  · exact ⟨TX.xe_InvalidSchedule, TX.xf_InvalidSchedule, TX.no_InvalidSchedule, k3⟩
theorem met_gives (TX : Tx K mg) {cdv cdg : Value} {A : Around} {outer : List Env} {s0 : Shared} {H0 : Hp} {E : XK} {q : Str} {n : Nat} (hr0 : Room (n + 1) (cxOf CX0 P w K mg base N_law (Str.ofString "law") (defScope s_law) TX.a_law cdv A outer s0 H0 E).nox.A) :
    GivesE (cxOf CX0 P w K mg base N_law (Str.ofString "law") (defScope s_law) TX.a_law cdv A outer s0 H0 E).nox N_L_told "_law_told" (defScope s_L_told) TX.a_L_told cdg (defBody s_L_told) "_law_ask" q (TMet TX) := by
  intro f c' s H Q tl act hc h
  have hr := hr0.deeper (envOfC "_law_told" (defScope s_L_told) s.heap.objs.size TX.a_L_told cdg)
  have HB : ∀ (p0 p1 p2 p3 : PySem.Pos) (W : WX) (pn : List (Addr × Obj)) (xe : Value → Shared → Prop), Takes ((cxOf CX0 P w K mg base N_L_told "_law_told" (defScope s_L_told) TX.a_L_told cdg (cxOf CX0 P w K mg base N_law (Str.ofString "law") (defScope s_law) TX.a_law cdv A outer s0 H0 E).nox.A (cxOf CX0 P w K mg base N_law (Str.ofString "law") (defScope s_law) TX.a_law cdv A outer s0 H0 E).nox.stack s H E0).nox.tr pn xe) W →
      PassesOwn (model P w) (cxOf CX0 P w K mg base N_L_told "_law_told" (defScope s_L_told) TX.a_L_told cdg (cxOf CX0 P w K mg base N_law (Str.ofString "law") (defScope s_law) TX.a_law cdv A outer s0 H0 E).nox.A (cxOf CX0 P w K mg base N_law (Str.ofString "law") (defScope s_law) TX.a_law cdv A outer s0 H0 E).nox.stack s H E0).nox.A (cxOf CX0 P w K mg base N_L_told "_law_told" (defScope s_L_told) TX.a_L_told cdg (cxOf CX0 P w K mg base N_law (Str.ofString "law") (defScope s_law) TX.a_law cdv A outer s0 H0 E).nox.A (cxOf CX0 P w K mg base N_law (Str.ofString "law") (defScope s_law) TX.a_law cdv A outer s0 H0 E).nox.stack s H E0).nox.env xe →
      PSs ((cxOf CX0 P w K mg base N_L_told "_law_told" (defScope s_L_told) TX.a_L_told cdg (cxOf CX0 P w K mg base N_law (Str.ofString "law") (defScope s_law) TX.a_law cdv A outer s0 H0 E).nox.A (cxOf CX0 P w K mg base N_law (Str.ofString "law") (defScope s_law) TX.a_law cdv A outer s0 H0 E).nox.stack s H E0).nox.tr pn xe) [.Assign [.Name "_law_found" p0] (.Call (.Name "_law_ask" p1) [] [] p2) p3]
        (fun D σ H' => ∃ Ech : XK, (∀ cls d H'', Ech cls d H'' → W cls d σ H'') ∧ σ[0]? = some (some (.ref f)) ∧ H' c' = some (LamX.CodeO c' q) ∧ tl Ech H' fun v H'' => D.nx (σ.set 2 (some v)) H'') := fun p0 p1 p2 p3 W pn xe tk _ => by
    refine ⟨fun pins s' σ H' D I h' => ?_⟩
    obtain ⟨Ech, hW, h1, h2, h3⟩ := h'
    have hp := act W pn xe Ech p1 p2 tk
    have hq := pss_one (ps_set (i := 2) (pos' := p0) (pos := p3) sc_L_told.nd rfl (.inl rfl) hp)
    exact hq.run pins s' σ H' D I ⟨h1, h2, hW, h3⟩
  refine ⟨_, (pss_cons (ps_asg (pe_tup (pa_cons pe_non (pa_cons pe_non pa_nil))) (pg_tup rfl (pgs_cons (pg_name (i := 1) sc_L_told.nd rfl (.inl rfl)) (pgs_cons (pg_name (i := 2) sc_L_told.nd rfl (.inl rfl)) pgs_nil))))
      (pss_cons (ps_try_kept (c := .ref TX.c_MergeBudgetError) (i := 3) rfl rfl sc_L_told.nd rfl rfl ⟨by rfl, by decide, .inl TX.gc_MergeBudgetError⟩ (HB _ _ _ _) (fun _ _ _ _ _ _ _ => (pss_one (ps_set (i := 1) sc_L_told.nd rfl (.inl rfl) (pv 3)))))
      (pss_cons (ps_if (pt_cmpR op_isN (pv 1) pe_non (nomark _))
        (pss_one (ps_ret (pe_tup (pa_cons pe_str (pa_cons (pv 2) pa_nil)))))
        pss_nil)
      (pss_cons (ps_if (pt_val (pe_callB (id := "isinstance") call_isX (by rfl) TX.b_isinstance (by decide +kernel) (pa_cons (pv 1) (pa_cons (pe_glob (v := .ref TX.c_InvalidText) (by rfl) TX.gc_InvalidText rfl) pa_nil))))
        (pss_one (ps_ret (pe_tup (pa_cons pe_str (pa_cons (pe_xv (pv 1)) pa_nil)))))
        pss_nil)
      (pss_one (ps_ret (pe_ifExp (pt_val (pe_callB (id := "isinstance") call_isX (by rfl) TX.b_isinstance (by decide +kernel) (pa_cons (pv 1) (pa_cons (pe_glob (v := .ref TX.c_InvalidSchedule) (by rfl) TX.gc_InvalidSchedule rfl) pa_nil)))) (pe_tup (pa_cons pe_str (pa_cons (pe_xv (pv 1)) pa_nil))) (pe_tup (pa_cons pe_str (pa_cons pe_non pa_nil)))))))))), ?_⟩
  refine ⟨sz60 (by simp), fun t0 n0 => ⟨t0, _, rfl, .inl (.inl upd_same), rfl, _, _, rfl, _, _, rfl, rfl, ?_⟩⟩
  have z0 := same_upd (o := .tup [V.non, V.non]) n0
  refine ⟨fun cls d H' => ∃ (i : Nat) (C dd : Addr) (x : Str) (v : V), (metC TX)[i]? = some C ∧ metN[i]? = some x ∧ cls = .ref C ∧ d = some dd ∧ H' dd = some (.xd [("value", v)]) ∧ ∀ H'' t, Same H' H'' → H'' t = some (.tup [.str x, v]) → Q (.ref t) H'', ?_, rfl, z0 _ _ hc, h _ z0 _ _ (fun i C dd x v H' a1 a2 a3 a4 => ⟨i, C, dd, x, v, a1, a2, rfl, rfl, a3, a4⟩) fun v H' q => ?_⟩
  rotate_left
  · refine ⟨_, rfl, rfl, _, rfl, iteB1 (by rfl) ?_⟩
    refine ⟨_, rfl, sz60 (by simp), fun t1 n1 => q _ t1 (same_upd n1) upd_same⟩
  rintro cls d H' ⟨i, C, dd, x, v, hi, hx, rfl, rfl, hdd, q⟩
  have hmem := List.mem_of_getElem? hi
  obtain ⟨x1, x2, x3, x4⟩ := met_exc TX hmem
  refine ⟨exm_of TX hmem, fun a na => ⟨_, rfl, ?_⟩⟩
  have za := same_upd (o := KeO a (.ref C) (some dd)) na
  have hX : XAt (upd H' a (KeO a (.ref C) (some dd))) a C (some [("value", v)]) := .keptd upd_same (za _ _ hdd)
  refine ⟨_, rfl, rfl, _, rfl, iteB0 (by rfl) ?_⟩
  have kit := fun j D hj => met_kit TX (j := j) (D := D) hi hj
  have hi2 : i < 2 := (List.getElem?_eq_some_iff.mp hi).1
  refine ⟨_, rfl, a, C, _, _, _, decide (i = 0), rfl, .own _, hX, x1, kit 0 _ rfl, _, rfl, ?_⟩
  have h2 : i = 0 ∨ i = 1 := by omega
  rcases h2 with rfl | rfl
  · cases hx
    refine iteT ⟨_, rfl, a, C, [("value", v)], v, rfl, hX, x2, x3, rfl, sz60 (by simp), fun t1 n1 => ?_⟩
    exact q _ t1 (za.trans (same_upd n1)) upd_same
  · cases hx
    refine iteF ⟨_, rfl, a, C, _, _, _, decide (1 = 1), rfl, .own _, hX, x1, kit 1 _ rfl, _, rfl, iteT ⟨_, rfl, a, C, [("value", v)], v, rfl, hX, x2, x3, rfl, sz60 (by simp), fun t1 n1 => ?_⟩⟩
    exact q _ t1 (za.trans (same_upd n1)) upd_same
end
section
variable {P : Program} {w : World} {K : PySem.W.Frag} {mg : Str → Option Value} {base : Heap}
/-- the context of the law's own body -/
abbrev lawX (P : Program) (w : World) (K : PySem.W.Frag) (mg : Str → Option Value) (base : Heap) (f : Addr) (cd : Value) (A : Around) (outer : List Env) (s : Shared) (H : Hp) (E : XK) : Cx := (cxOf CX0 P w K mg base N_law (Str.ofString "law") (defScope s_law) f cd A outer s H E).nox
theorem passLw {P : Program} {w : World} {K : PySem.W.Frag} {mg : Str → Option Value} {base : Heap} {f : Addr} {cd : Value} {A : Around} {outer : List Env} {s : Shared} {H : Hp} {E E' : XK} {A' : Around} {outer' : List Env} {s' : Shared} {H' : Hp} {scope : Scope} {f' c' : Addr} :
    Passes (L2.CX P w) (LamX.lamCx (lawX P w K mg base f cd A outer s H E) A' outer' s' H' E' scope f' c') E' := passL' (X := lawX P w K mg base f cd A outer s H E)
/-- met(lambda: body), within the law -/
theorem pe_met (TX : Tx K mg) {c Pt : Addr} {A : Around} {outer : List Env} {s0 : Shared} {H0 : Hp} {E0' : XK} {n : Nat} (TB : LamX.TabB base mg c Pt) (hr : Room (n + 2) (lawX P w K mg base TX.a_law (.ref c) A outer s0 H0 E0').A)
    {params : Arguments} {body : Expr} {scope : Scope} {t : XK → TE} {p lpos pos : PySem.Pos} (L : LamX.LamS (defScope s_law) scope) (hdef : defaultsOf params (lawX P w K mg base TX.a_law (.ref c) A outer s0 H0 E0').env = ([], []))
    (hbind : ∀ (q : Str) (cl : List (Str × Addr)) (pm cv ctv : Value), bindArgs (PySem.W.kla_fn "<lambda>" q params body scope cl pm cv ctv) ⟨[], []⟩ = pure [])
    (hbody : ∀ (A' : Around) (outer' : List Env) (s : Shared) (H : Hp) (E : XK) (f c' : Addr), Room n (A'.deeper (LamX.lamEnv (lawX P w K mg base TX.a_law (.ref c) A outer s0 H0 E0') scope s.heap.objs.size f c')) → PE (LamX.lamCx (lawX P w K mg base TX.a_law (.ref c) A outer s0 H0 E0') A' outer' s H E scope f c') body (t E)) :
    PE (lawX P w K mg base TX.a_law (.ref c) A outer s0 H0 E0') (.Call (.Name "_law_told" p) [.Lambda params body scope lpos] [] pos) (LamX.tLam [(Pt, (lawX P w K mg base TX.a_law (.ref c) A outer s0 H0 E0').env.qual ++ "<lambda>")] (TMet TX) t) := by
  obtain ⟨oc, od, kV, doc, pm, an, cdm, ct, osl, efd, lkm, hcm⟩ := TX.f_L_told.ex
  have hb := TX.bd_L_told
  rw [efd] at hb lkm
  exact pe_lamE (by rfl) TX.g_L_told TX.f_L_told.kp lkm hcm hb sc_L_told rfl (.inl rfl) (met_gives TX (n := n + 1) hr) TB rfl (List.mem_singleton.mpr rfl) (fun q hq _ => by rw [List.mem_singleton.mp hq]) hr L hdef hbind hbody
end
theorem sm_all {k n : Nat} : ∀ {ds : List PyData}, (∀ d, d ∈ ds → Sm k n d) → PyData.depthAll ds ≤ k ∧ PyData.showableAll ds = true ∧ PyData.leavesShortAll 40 ds = true ∧ PyData.bulkAll ds ≤ (n + 1) * ds.length
  | [], _ => ⟨by simp [PyData.depthAll], by simp [PyData.showableAll], by simp [PyData.leavesShortAll], by simp [PyData.bulkAll]⟩
  | d :: ds, h => by
    have h1 := h d (List.mem_cons_self ..)
    obtain ⟨a, b, c, e⟩ := sm_all fun x hx => h x (List.mem_cons_of_mem _ hx)
    refine ⟨?_, by simp only [PyData.showableAll, h1.shw, b, Bool.and_self], by simp only [PyData.leavesShortAll, h1.short, c, Bool.and_self], ?_⟩
    · simp only [PyData.depthAll]
      have := h1.dep
      omega
    · simp only [PyData.bulkAll, List.length_cons]
      have := h1.bulk
      rw [Nat.mul_add]
      omega
theorem Sm.rq {k n : Nat} {d : PyData} (h : Sm k n d) (hk : k ≤ 60) (hn : n ≤ 200000) : d.showable = true ∧ d.depth ≤ 60 ∧ d.shown.length ≤ sizeLine := by
  refine ⟨h.shw, Nat.le_trans h.dep hk, ?_⟩
  have h1 := PyData.shown_le_bulk 40 (by decide) d h.short
  have h3 : (40 + 2) * d.bulk ≤ 42 * 200000 := Nat.mul_le_mul (Nat.le_refl _) (Nat.le_trans h.bulk hn)
  have h4 : sizeLine = 16777216 := by decide
  omega
theorem sm_small : ∀ n : Nat, n ≤ 100 → Sm 1 4 (iD n) := by
  have h1 : ∀ n : Nat, n ≤ 100 → (iD n).depth ≤ 1 ∧ (iD n).showable = true ∧ (iD n).leavesShort 40 = true ∧ (iD n).bulk ≤ 4 := by
    intro n hn
    refine ⟨by simp [iD, PyData.depth], ?_, ?_, by simp [iD, PyData.bulk]⟩
    · have : ∀ m : Nat, m ≤ 100 → (iD m).showable = true := by decide +kernel
      exact this n hn
    · have : ∀ m : Nat, m ≤ 100 → (iD m).leavesShort 40 = true := by decide +kernel
      exact this n hn
  exact fun n hn => ⟨(h1 n hn).1, (h1 n hn).2.1, (h1 n hn).2.2.1, (h1 n hn).2.2.2, SOk.int⟩
/-- tuples and lists of things whose repr is short -/
theorem sm_tup {k n m : Nat} {ds : List PyData} (h : ∀ d, d ∈ ds → Sm k n d) (hl : ds.length ≤ m) : Sm (k + 1) ((n + 1) * m + 2) (.tuple ds) := by
  obtain ⟨a, b, c, e⟩ := sm_all h
  have e2 : (n + 1) * ds.length ≤ (n + 1) * m := Nat.mul_le_mul (Nat.le_refl _) hl
  refine ⟨?_, ?_, ?_, ?_, SOk.tup fun d hd => (h d hd).sok⟩
  · simp only [PyData.depth]; omega
  · simp only [PyData.showable]; exact b
  · simp only [PyData.leavesShort]; exact c
  · simp only [PyData.bulk]; omega
theorem sm_lst {k n m : Nat} {ds : List PyData} (h : ∀ d, d ∈ ds → Sm k n d) (hl : ds.length ≤ m) : Sm (k + 1) ((n + 1) * m + 2) (.list ds) := by
  obtain ⟨a, b, c, e⟩ := sm_all h
  have e2 : (n + 1) * ds.length ≤ (n + 1) * m := Nat.mul_le_mul (Nat.le_refl _) hl
  refine ⟨?_, ?_, ?_, ?_, SOk.lst fun d hd => (h d hd).sok⟩
  · simp only [PyData.depth]; omega
  · simp only [PyData.showable]; exact b
  · simp only [PyData.leavesShort]; exact c
  · simp only [PyData.bulk]; omega
theorem sm_iD {ns : List Nat} (h : ∀ x ∈ ns, x ≤ 100) (hl : ns.length ≤ 100) : Sm 31 1000 (.tuple (ns.map iD)) ∧ Sm 31 1000 (.list (ns.map iD)) := by
  have h1 : ∀ d, d ∈ ns.map iD → Sm 1 4 d := fun d hd => by
    obtain ⟨n, hn, rfl⟩ := List.mem_map.mp hd
    exact sm_small n (h n hn)
  exact ⟨(sm_tup h1 (m := 100) (by rw [List.length_map]; exact hl)).mono (by decide) (by decide), (sm_lst h1 (m := 100) (by rw [List.length_map]; exact hl)).mono (by decide) (by decide)⟩
theorem sm_word {z : Str} (h : z = "found" ∨ z = "text" ∨ z = "schedule") : Sm 1 40 (.str z) := by
  rcases h with rfl | rfl | rfl <;> constructor <;> decide +kernel
theorem sm_told {z : Str} {d : PyData} (h : z = "found" ∨ z = "text" ∨ z = "schedule") (hd : Sm 31 1000 d) : Sm 32 3000 (.tuple [.str z, d]) :=
  (sm_tup (k := 31) (n := 1000) (m := 2) (fun x hx => by
    simp only [List.mem_cons, List.not_mem_nil, or_false] at hx
    rcases hx with rfl | rfl
    · exact (sm_word h).mono (by decide) (by decide)
    · exact hd) (by simp)).mono (by decide) (by decide)
theorem readD_some {d : PyData} {ds : List PyData} (h : readD d = some ds) : ∃ ns : List Nat, ds = ns.map iD ∧ isSchD (.tuple ds) = true ∧ (∀ x ∈ ns, x ≤ 60) ∧ ns.length ≤ 60 := by
  have h1 : isSchD (.tuple ds) = true := by
    cases d with
    | str z =>
      unfold readD at h
      simp only at h
      split at h
      · cases h; rfl
      · split at h
        · cases h; assumption
        · cases h
    | _ => cases h
  have h2 : (decide (ds.length ≤ 60) && isSchR 0 ds) = true := h1
  rw [Bool.and_eq_true, decide_eq_true_eq] at h2
  obtain ⟨ns, e, hn⟩ := schR_ints _ _ h2.2
  refine ⟨ns, e, h1, fun x hx => ?_, ?_⟩
  · have := hn x hx
    omega
  · rw [e, List.length_map] at h2; exact h2.1
theorem toldR_sm (d : PyData) : Sm 32 3000 (toldR d) := by
  unfold toldR
  cases h : readD d with
  | none => exact sm_told (.inr (.inl rfl)) ((sm_small 0 (by decide)).mono (by decide) (by decide))
  | some ds =>
    obtain ⟨ns, rfl, _, h2, h3⟩ := readD_some h
    exact sm_told (.inl rfl) (sm_iD (fun x hx => Nat.le_trans (h2 x hx) (by decide)) (by omega)).1
section
variable {P : Program} {w : World} {K : PySem.W.Frag} {mg : Str → Option Value} {base : Heap}
/-- what is asked of a text that is read -/
def TxtOk (d : PyData) : Prop := ∀ z, d = .str z → z.length ≤ 100000 ∧ (Txt.split z " ").length ≤ 90000 ∧ ∀ y ∈ Txt.split z " ", y.length ≤ 100000
theorem txt_ok {z : Str} (h : z.length ≤ 50000) : TxtOk (.str z) := fun y e => by
  cases e
  obtain ⟨h1, h2⟩ := split_sp z
  exact ⟨by omega, by omega, fun y hy => by have := h2 y hy; omega⟩
/-- what comes of reading: the error, or the value -/
def ReadX (TX : Tx K mg) (x : V) (d : PyData) : Hp → XK → VK → Prop := fun H E Q => (∃ ds, readD d = some ds ∧ ∀ H' r, Same H H' → Dq K H' (.ref r) (.tuple ds) → Q (.ref r) H') ∨ (readD d = none ∧ ∀ dd H', Same H H' → H' dd = some (.xd [("value", V.int 0)]) → E (.ref TX.c_InvalidText) (some dd) H')
theorem met_read (TX : Tx K mg) {tl : (XK → Hp → VK → Prop)} {H : Hp} {Q : VK} {x : V} {d : PyData} (hx : Dq K H x d)
    (h : ∀ H1, Same H H1 → ∀ (E' : XK) (R : VK), Dq K H1 x d → ReadX TX x d H1 E' R → tl E' H1 R) (q : ∀ H'' t, Same H H'' → Dq K H'' (.ref t) (toldR d) → Q (.ref t) H'') : TMet TX tl H Q :=
  fun H1 s1 E' R hE hR => h H1 s1 E' R (Dq.same s1 hx) (by
    cases e : readD d with
    | some ds =>
      refine .inl ⟨ds, e, fun H' r s' dq => hR _ _ fun H'' t s'' ht => q H'' t (s1.trans (s'.trans s'')) ?_⟩
      unfold toldR
      rw [e]
      exact .tupq (.inl (.inl ht)) (.cons (.strq _) (.cons (Dq.same s'' dq) .nil))
    | none =>
      refine .inr ⟨e, fun dd H' s' hd => hE 0 _ dd _ _ H' rfl rfl hd fun H'' t s'' ht => q H'' t (s1.trans (s'.trans s'')) ?_⟩
      unfold toldR
      rw [e]
      exact .tupq (.inl (.inl ht)) (.cons (.strq _) (.cons (.intq _) .nil)))
def ShowX (TX : Tx K mg) (x : V) (d : PyData) : Hp → XK → VK → Prop := fun H E Q => (∃ ns : List Nat, d = .tuple (ns.map fun n : Nat => PyData.int (n : Int)) ∧ isSchD d = true ∧ ∀ H', Same H H' → Q (.str (joinW (ns.map numS))) H') ∨ (isSchD d = false ∧ ∀ dd H', Same H H' → H' dd = some (.xd [("value", x)]) → E (.ref TX.c_InvalidSchedule) (some dd) H')
theorem met_show (TX : Tx K mg) {tl : (XK → Hp → VK → Prop)} {H : Hp} {Q : VK} {x : V} {d : PyData} (hx : Dq K H x d)
    (h : ∀ H1, Same H H1 → ∀ (E' : XK) (R : VK), Dq K H1 x d → ShowX TX x d H1 E' R → tl E' H1 R)
    (q : ∀ H'' t, Same H H'' → (isSchD d = true ∧ ∃ z : Str, H'' t = some (.tup [.str "found", .str z])) ∨ (isSchD d = false ∧ Dq K H'' (.ref t) (.tuple [.str "schedule", d]) ∧ ∃ v, H'' t = some (.tup [.str "schedule", v])) → Q (.ref t) H'') : TMet TX tl H Q :=
  fun H1 s1 E' R hE hR => h H1 s1 E' R (Dq.same s1 hx) (by
    cases e : isSchD d with
    | true =>
      cases d with
      | tuple ds =>
        have h2 : (decide (ds.length ≤ 60) && isSchR 0 ds) = true := e
        rw [Bool.and_eq_true] at h2
        obtain ⟨ns, rfl, _⟩ := schR_ints _ _ h2.2
        exact .inl ⟨ns, rfl, e, fun H' s' => hR _ _ fun H'' t s'' ht => q H'' t (s1.trans (s'.trans s'')) (.inl ⟨e, _, ht⟩)⟩
      | _ => cases e
    | false =>
      refine .inr ⟨e, fun dd H' s' hd => hE 1 _ dd _ _ H' rfl rfl hd fun H'' t s'' ht => q H'' t (s1.trans (s'.trans s'')) (.inr ⟨e, ?_, _, ht⟩)⟩
      exact .tupq (.inl (.inl ht)) (.cons (.strq _) (.cons (Dq.same (s1.trans (s'.trans s'')) hx) .nil)))
end
theorem catA_of {K : PySem.W.Frag} {H : Hp} {a b : Addr} {xs ys : List V} {Q : VK} (ha : SqT K H a xs) (hb : SqT K H b ys) (hl : xs.length + ys.length ≤ sizeLine) (h : ∀ r H', Same H H' → SqT K H' r (xs ++ ys) → Q (.ref r) H') : rCatA K (.ref a) (.ref b) H Q := by
  refine ⟨a, b, xs, ys, rfl, rfl, ha, hb, hl, fun e => ?_, fun e1 e2 => ?_, fun _ _ p np => ?_⟩
  · subst e; exact h b H (Same.refl _) hb
  · subst e2; exact h a H (Same.refl _) (by rw [List.append_nil]; exact ha)
  · exact h p _ (same_upd np) (.inl (.inl upd_same))
/-- the data of things that are tried -/
def TryOk (K : PySem.W.Frag) (G : Hp) (v : V) : Prop := ∃ d, Dq K G v d ∧ Sm 31 1000 d
theorem try_iD {K : PySem.W.Frag} {G : Hp} {r : Addr} {ms : List Nat} (h : SqT K G r (vi ms)) (hx : ∀ x ∈ ms, x ≤ 100) (hl : ms.length ≤ 100) : TryOk K G (.ref r) :=
  ⟨_, .tupq h (by
    have all : ∀ l : List Nat, DqAll K G (vi l) (l.map iD) := fun l => by
      induction l with
      | nil => exact .nil
      | cons y ys ih => exact .cons (.intq _) ih
    exact all ms), (sm_iD hx hl).1⟩
theorem TryOk.same {K : PySem.W.Frag} {G G' : Hp} {v : V} (h : TryOk K G v) (s : Same G G') : TryOk K G' v := by
  obtain ⟨d, h1, h2⟩ := h
  exact ⟨d, Dq.same s h1, h2⟩
section
variable {P : Program} {w : World} {K : PySem.W.Frag} {mg : Str → Option Value} {base : Heap}
def sp_law (K : PySem.W.Frag) (cs : List (Addr × Addr)) : Sp := fun vs H Q _ => ∃ (a : Addr) (ns : List Int) (o : HO), vs = [.ref a] ∧ SqL K H a (ns.map V.int) ∧ ns.length ≤ 63 ∧ H sysModules = some o ∧ (∀ ps, o ≠ .tbl ps) ∧ (∀ p ∈ cs, H p.2 = some (.tbl #[])) ∧ ∀ H', Q (.bl true) H'
theorem ok_law (TX : Tx K mg) (TB : LamX.TabB base mg TX.cdl TX.ptl) : FnG P w K mg base CX0 8 TX.a_law TX.fd_law ["_law_script"] (sp_law K [(TX.cdl, TX.ptl)]) := by
  obtain ⟨oc, od, kV, doc, pm, an, ct, osl, efd, lk, hcd⟩ := TX.lawc
  rw [efd] at lk ⊢
  refine fnG_of lk hcd sc_law (fun vs H Q E h => ?_) (fun A hgd outer s H vs Q E hr h => ?_)
  · obtain ⟨a, ns, o, rfl, _⟩ := h; rfl
  · obtain ⟨a, ns, o, rfl, hS, hlen, hsys, hot, htab, q⟩ := h
    suffices hh : ∃ t, PSs (lawX P w K mg base TX.a_law (.ref TX.cdl) A outer s H E) (defBody s_law) t ∧ t { nx := fun _ H' => Q .non H', rt := Q } (start N_law [.ref a]) H from (let ⟨t, h1, h2⟩ := hh; ⟨t, h1.nox, h2⟩)
    refine ⟨_, (pss_cons (ps_for PassesOwn.never rfl (pi_range1 (by rfl) TX.b_range (pa_cons (pe_callB (id := "max") (call_max2 rfl) (by rfl) TX.b_max (by decide +kernel) (pa_cons pe_int (pa_cons (pe_callB (id := "min") (call_min2 rfl) (by rfl) TX.b_min (by decide +kernel) (pa_cons pe_int (pa_cons (pe_callB (id := "len") (k_len (K := K) rfl) (by rfl) TX.b_len (by decide +kernel) (pa_cons (pv 0) pa_nil)) pa_nil))) pa_nil))) pa_nil)) (pg_name (i := 1) sc_law.nd rfl (.inl rfl))
        (pss_cons (ps_set (i := 2) sc_law.nd rfl (.inr rfl) (pe_call (ok_L_start_draws TX) (hr.mono (by decide)) (by rfl) TX.g_L_start_draws TX.f_L_start_draws.kp TX.bd_L_start_draws .nil pass0 (pa_cons (pv 0) (pa_cons (pv 1) pa_nil))))
        (pss_one (ps_for PassesOwn.never rfl (pi_range1 (by rfl) TX.b_range (pa_cons pe_int pa_nil)) (pg_name (i := 3) sc_law.nd rfl (.inl rfl))
          (pss_cons (ps_set (i := 4) sc_law.nd rfl (.inl rfl) (pe_call (ok_L_schedule TX) (hr.mono (by decide)) (by rfl) TX.g_L_schedule TX.f_L_schedule.kp TX.bd_L_schedule .nil pass0 (pa_cons (pv 2) (pa_cons (pe_call (ok_L_pick TX) (hr.mono (by decide)) (by rfl) TX.g_L_pick TX.f_L_pick.kp TX.bd_L_pick .nil pass0 (pa_cons (pv 2) (pa_cons (pe_lst (pa_cons pe_int (pa_cons pe_int (pa_cons pe_int (pa_cons (pe_call (ok_L_next TX) (hr.mono (by decide)) (by rfl) TX.g_L_next TX.f_L_next.kp TX.bd_L_next .nil pass0 (pa_cons (pv 2) (pa_cons pe_int pa_nil))) pa_nil))))) pa_nil))) pa_nil))))
          (pss_cut (ps_set (i := 5) sc_law.nd rfl (.inr rfl) (pe_ifExp (pt_cmpR (op_neE (K := K) rfl hr.units) (pv 4) (pe_tup pa_nil) (nomark _)) (pe_join pe_str (pe_lc (own := [("_law_one", 12)]) (by rfl) sc_law.nd (k_piT (K := K) rfl (pv 4)) (blkOk_by (own := [("_law_one", 12)]) (N := N_law) (sc := defScope s_law) (by decide +kernel)) (fun _ _ _ _ _ => (pg_name (i := 12) sc_law.nd rfl (Or.inl rfl))) (fun _ _ _ _ _ => pts_nil) (fun _ _ _ _ _ => (pe_callTy (T := "str") call_str_int (by rfl) TX.b_str (by decide +kernel) (pa_cons (pv 12) pa_nil))))) pe_str))
          (pss_cons (ps_if (PW.pt (pw_or (pt_cmpR op_ne (pe_call (ok_show_schedule TX) (hr.mono (by decide)) (by rfl) TX.g_show_schedule TX.f_show_schedule.kp TX.bd_show_schedule .nil pass0 (pa_cons (pv 4) pa_nil)) (pv 5) (nomark _)) (pw_or1 (pt_cmpR op_ne (pe_callB (id := "repr") (k_reprQ (K := K) rfl hgd hr.units) (by rfl) TX.b_repr (by decide +kernel) (pa_cons (pe_call (ok_read_schedule TX) (hr.mono (by decide)) (by rfl) TX.g_read_schedule TX.f_read_schedule.kp TX.bd_read_schedule .nil pass0 (pa_cons (pv 5) pa_nil)) pa_nil)) (pe_callB (id := "repr") (k_reprQ (K := K) rfl hgd hr.units) (by rfl) TX.b_repr (by decide +kernel) (pa_cons (pv 4) pa_nil)) (nomark _)))))
            (pss_one (ps_ret pe_bl))
            pss_nil)
          (pss_cons (ps_set (i := 6) sc_law.nd rfl (.inl rfl) (pe_op op_cat (pe_lc (own := [("_law_again", 11)]) (by rfl) sc_law.nd (pi_range1 (by rfl) TX.b_range (pa_cons pe_int pa_nil)) (blkOk_by (own := [("_law_again", 11)]) (N := N_law) (sc := defScope s_law) (by decide +kernel)) (fun _ _ _ _ _ => (pg_name (i := 11) sc_law.nd rfl (Or.inl rfl))) (fun _ _ _ _ _ => pts_nil) (fun _ _ _ _ _ => (pe_call (ok_L_bent TX) (hr.mono (by decide)) (by rfl) TX.g_L_bent TX.f_L_bent.kp TX.bd_L_bent .nil pass0 (pa_cons (pv 2) (pa_cons (pv 5) pa_nil))))) (pe_lst (pa_cons (pe_call (ok_L_odd TX) (hr.mono (by decide)) (by rfl) TX.g_L_odd TX.f_L_odd.kp TX.bd_L_odd .nil pass0 (pa_cons (pv 2) pa_nil)) pa_nil))))
          (pss_cons (ps_for PassesOwn.never rfl (k_piL (K := K) rfl (pv 6)) (pg_name (i := 7) sc_law.nd rfl (.inr rfl))
            (pss_one (ps_if (pt_cmpR op_ne (pe_callB (id := "repr") (k_reprQ (K := K) rfl hgd hr.units) (by rfl) TX.b_repr (by decide +kernel) (pa_cons (pe_met (n := 5) TX TB (hr.mono (by decide)) (LamX.lamS_by (by decide +kernel)) rfl (fun _ _ _ _ _ => rfl) (fun _ _ _ _ _ _ _ hr => (pe_call (ok_read_scheduleX TX) (hr.mono (by decide)) (by rfl) TX.g_read_schedule TX.f_read_schedule.kp TX.bd_read_schedule .nil passLw (pa_cons (pv 7) pa_nil)))) pa_nil)) (pe_callB (id := "repr") (k_reprQ (K := K) rfl hgd hr.units) (by rfl) TX.b_repr (by decide +kernel) (pa_cons (pe_call (ok_L_expected TX) (hr.mono (by decide)) (by rfl) TX.g_L_expected TX.f_L_expected.kp TX.bd_L_expected .nil pass0 (pa_cons (pv 7) pa_nil)) pa_nil)) (nomark _))
              (pss_one (ps_ret pe_bl))
              pss_nil)))
          (pss_cons (ps_set (i := 8) sc_law.nd rfl (.inl rfl) (pe_lst (pa_cons (pe_op (k_catT (K := K) rfl) (pv 4) (pe_tup (pa_cons (pe_op op_add (pe_callB (id := "len") (k_len (K := K) rfl) (by rfl) TX.b_len (by decide +kernel) (pa_cons (pv 4) pa_nil)) pe_int) pa_nil))) (pa_cons (pe_callTy (T := "list") (k_listOf (K := K) rfl) (by rfl) TX.b_list (by decide +kernel) (pa_cons (pv 4) pa_nil)) (pa_cons (pe_tup (pa_cons pe_int pa_nil)) (pa_cons (pe_tup (pa_cons pe_int (pa_cons pe_int pa_nil))) (pa_cons (pe_op op_repT (pe_tup (pa_cons pe_int pa_nil)) pe_int) (pa_cons (pe_tup (pa_cons pe_bl pa_nil)) (pa_cons (pe_tup (pa_cons (pe_un un_neg pe_int) pa_nil)) (pa_cons (pe_call (ok_L_odd TX) (hr.mono (by decide)) (by rfl) TX.g_L_odd TX.f_L_odd.kp TX.bd_L_odd .nil pass0 (pa_cons (pv 2) pa_nil)) pa_nil))))))))))
          (pss_one (ps_for PassesOwn.never rfl (k_piL (K := K) rfl (pv 8)) (pg_name (i := 7) sc_law.nd rfl (.inr rfl))
            (pss_cons (ps_par (i := 9) (j := 10) (by rfl) sc_law.nd rfl rfl (by decide) rfl rfl (pa_cons (pe_met (n := 5) TX TB (hr.mono (by decide)) (LamX.lamS_by (by decide +kernel)) rfl (fun _ _ _ _ _ => rfl) (fun _ _ _ _ _ _ _ hr => (pe_call (ok_show_scheduleX TX) (hr.mono (by decide)) (by rfl) TX.g_show_schedule TX.f_show_schedule.kp TX.bd_show_schedule .nil passLw (pa_cons (pv 7) pa_nil)))) (pa_cons (pe_call (ok_L_is_schedule TX) (hr.mono (by decide)) (by rfl) TX.g_L_is_schedule TX.f_L_is_schedule.kp TX.bd_L_is_schedule .nil pass0 (pa_cons (pv 7) pa_nil)) pa_nil)) (by rfl))
            (pss_one (ps_if (PW.pt (pw_or (PW.pt (pw_and (pt_not (pt_val (pv 10))) (pw_and1 (pt_cmpR op_ne (pe_callB (id := "repr") (k_reprQ (K := K) rfl hgd hr.units) (by rfl) TX.b_repr (by decide +kernel) (pa_cons (pv 9) pa_nil)) (pe_callB (id := "repr") (k_reprQ (K := K) rfl hgd hr.units) (by rfl) TX.b_repr (by decide +kernel) (pa_cons (pe_tup (pa_cons pe_str (pa_cons (pv 7) pa_nil))) pa_nil)) (nomark _))))) (pw_or1 (PW.pt (pw_and (pt_val (pv 10)) (pw_and1 (pt_cmpR op_ne (pe_ix (k_ixT (K := K) rfl) (pv 9) pe_int (fun _ _ => rfl)) pe_str (nomark _))))))))
              (pss_one (ps_ret pe_bl))
              pss_nil)))))))))))))))
      (pss_one (ps_ret pe_bl))), ?_⟩
    generalize eqq : (lawX P w K mg base TX.a_law (Value.ref TX.cdl) A outer s H E).env.qual ++ Str.ofString "<lambda>" = qq
    have tb0 : LamX.Tabs [(TX.ptl, qq)] H := fun p hp => by
      rw [List.mem_singleton.mp hp]
      exact LamX.TabS.nil (htab _ (List.mem_singleton.mpr rfl))
    refine ⟨_, rfl, a, _, rfl, .inl hS, _, _, rfl, _, _, rfl, ?_⟩
    obtain ⟨m, hm, hm2⟩ : ∃ m : Nat, (if (if ((ns.map V.int).length : Int) < 3 then ((ns.map V.int).length : Int) else 3) > 1 then (if ((ns.map V.int).length : Int) < 3 then ((ns.map V.int).length : Int) else 3) else 1) = (m : Int) ∧ m ≤ 3 := by
      refine ⟨(if (if ((ns.map V.int).length : Int) < 3 then ((ns.map V.int).length : Int) else 3) > 1 then (if ((ns.map V.int).length : Int) < 3 then ((ns.map V.int).length : Int) else 3) else 1).toNat, ?_, ?_⟩ <;> (split <;> split <;> omega)
    rw [hm]
    refine ⟨_, rfl, by omega, by omega, for_range (lo := 0) (n := m) (fun i σ G => ∃ y1 y2 y3 y4 y5 y6 y7 y8 y9 y10, σ = [some (.ref a), y1, y2, y3, y4, y5, y6, y7, y8, y9, y10, none, none] ∧ LamX.ExtN H G ∧ LamX.Tabs [(TX.ptl, qq)] G) ⟨_, _, _, _, _, _, _, _, _, _, rfl, .refl _, tb0⟩ ?_ ?_⟩
    · rintro i σ H1 hi ⟨y1, y2, y3, y4, y5, y6, y7, y8, y9, y10, rfl, x1, tb1⟩
      have ei : (0 : Int) + ((i : Nat) : Int) = ((i : Nat) : Int) := by omega
      rw [ei]
      refine ⟨_, rfl, _, rfl, a, ns, i, rfl, extN_seq x1 hS, by omega, fun H2 pd s2 np dp => ?_⟩
      have np0 : ∀ u, H pd = some u → ∃ ps, u = .tbl ps := fun u h => Classical.byContradiction fun h3 => by
        have := x1 _ _ h fun ps e => h3 ⟨ps, e⟩
        rw [np] at this; cases this
      have nps : pd ≠ sysModules := fun z => by
        have := x1 _ _ hsys hot
        rw [← z, np] at this; cases this
      have xb : ∀ {G G' : Hp}, LamX.ExtN H G → But pd G G' → LamX.ExtN H G' := fun e b c u h1 h2 => b _ _ (fun z => by
        rw [z] at h1
        obtain ⟨ps, hps⟩ := np0 u h1
        exact h2 ps hps) (e _ _ h1 h2)
      have tdraw : ∀ {G G' : Hp} {k : Int}, LamX.Tabs [(TX.ptl, qq)] G → Deal G pd k → But pd G G' → LamX.Tabs [(TX.ptl, qq)] G' := fun t d b => by
        obtain ⟨_, _, _, h, _⟩ := d
        exact tabs_but t b h
      refine ⟨_, rfl, by omega, by omega, for_range (lo := 0) (n := 4) (fun j σ G => ∃ y4 y5 y6 y7 y8 y9 y10 y3, σ = [some (.ref a), some (.int (i : Int)), some (.ref pd), y3, y4, y5, y6, y7, y8, y9, y10, none, none] ∧ LamX.ExtN H G ∧ LamX.Tabs [(TX.ptl, qq)] G ∧ Deal G pd (300 * (j : Int))) ⟨_, _, _, _, _, _, _, _, rfl, x1.trans (.of s2), Tabs.same tb1 s2, by simpa using dp⟩ ?_ ?_⟩
      · rintro j σ G hj ⟨y4, y5, y6, y7, y8, y9, y10, y3, rfl, xG, tG, dG⟩
        refine ⟨.ref pd, rfl, .ref pd, rfl, .ref pd, rfl, pd, 61, _, rfl, dG, by omega, by decide, by decide, fun G1 r b1 d1 r0 r1 => ⟨sz60 (by simp), fun ol nol => ?_⟩⟩
        have so := same_upd (o := .lst [V.int 0, V.int 1, V.int 60, V.int r]) nol
        refine ⟨pd, ol, _, _, rfl, d1.same so, by omega, upd_same, d1.ne nol, by simp, by simp, fun G2 v b2 d2 hv => ?_⟩
        obtain ⟨k, rfl, hk⟩ : ∃ k : Nat, v = .int (k : Int) ∧ k ≤ 60 := by
          have e : v = .int 0 ∨ v = .int 1 ∨ v = .int 60 ∨ v = .int r := by simpa using hv
          rcases e with e | e | e | e
          · exact ⟨0, e, by omega⟩
          · exact ⟨1, e, by omega⟩
          · exact ⟨60, e, by omega⟩
          · exact ⟨r.toNat, by rw [e]; congr 1; omega, by omega⟩
        refine ⟨pd, k, _, rfl, d2, by omega, hk, fun G3 pl ms b3 d3 hpl hml hsch hmx => ?_⟩
        have bG := ((b1.trans (But.of so)).trans b2).trans b3
        have xG3 := xb xG bG
        have tG3 := tdraw tG dG bG
        clear so b1 b2 b3 d1 d2 hv nol bG
        have hsd : isSchD (.tuple (ms.map iD)) = true := by
          show (decide ((ms.map iD).length ≤ 60) && isSchR 0 (ms.map iD)) = true
          rw [hsch, Bool.and_true, decide_eq_true_eq, List.length_map]
          omega
        obtain ⟨page, hpage⟩ : ∃ page : Str, page = joinW (ms.map numS) := ⟨_, rfl⟩
        refine ⟨fun σ' G' => σ' = [some (.ref a), some (.int (i : Int)), some (.ref pd), some (.int (0 + (j : Int))), some (.ref pl), some (.str page), y6, y7, y8, y9, y10, none, none] ∧ Same G3 G', ?_, ?_⟩
        · refine ⟨.ref pl, rfl, sz60 (by simp), fun e0 ne0 => ⟨pl, e0, _, rfl, rfl, Same.tup (same_upd ne0) hpl, .inl (.inl upd_same), _, rfl, ?_⟩⟩
          have s5 := same_upd (o := .tup []) ne0
          cases ms with
          | nil => exact iteF ⟨by rw [hpage]; rfl, s5⟩
          | cons n0 ms =>
            refine iteT ⟨⟨_, rfl⟩, _, rfl, pl, rfl, ⟨_, Same.tup s5 hpl⟩, fun D nD => ?_⟩
            generalize upd G3 e0 _ = G4 at s5 nD ⊢
            have hpl4 := Same.tup s5 hpl
            refine lc_it (walk_tup (K := K) (a := pl) (xs := vi (n0 :: ms))) (fun i G => Same G4 G ∧ G D = some (.lst (((n0 :: ms).take i).map fun n => V.str (numS n)))) ⟨same_upd nD, upd_same⟩ (fun i G _ h => Same.tup h.1 hpl4) ?_ ?_
            · rintro i x G G' hi ⟨sG, hD⟩ ⟨rfl, hx⟩
              have hx' := hx
              unfold vi at hx'
              rw [List.getElem?_map] at hx'
              cases hn : (n0 :: ms)[i]? with
              | none => rw [hn] at hx'; cases hx'
              | some n =>
              rw [hn] at hx'
              cases hx'
              refine ⟨rfl, ?_⟩
              simp only [tYes, if_true]
              have hn60 := hmx n (List.mem_of_getElem? hn)
              refine ⟨.int ((n : Nat) : Int), rfl, ((n : Nat) : Int), rfl, ?_, ?_⟩
              · have : ∀ m : Nat, m ≤ 60 → m.log2 < 1920 := by decide
                exact this n hn60
              · refine ⟨_, hD, sz60 (by simp only [List.length_map, List.length_take]; omega), fun c o e1 => by rw [upd_ne (fun y => by rw [y, nD] at e1; cases e1)]; exact sG _ _ e1, ?_⟩
                rw [upd_same, List.take_add_one, hn, List.map_append]
                rfl
            rintro G ⟨sG, hD⟩
            have hl5 : (vi (n0 :: ms)).length = (n0 :: ms).length := vi_len _
            rw [hl5, List.take_length] at hD
            refine ⟨_, D, (n0 :: ms).map numS, rfl, rfl, .inl (.inl (.inl (by rw [hD, List.map_map]; rfl))), ?_, ?_⟩
            · have e1 : (" " : Str).length = 1 := by decide +kernel
              have hl : ∀ l : List Nat, (∀ n ∈ l, n ≤ 60) → ((l.map numS).map (·.length)).sum ≤ 2 * l.length := fun l => by
                induction l with
                | nil => intro _; simp
                | cons n l ih =>
                  intro h
                  have h1 := ih fun m hm => h m (List.mem_cons_of_mem _ hm)
                  have h2 := (numS_facts n (h n (List.mem_cons_self ..))).2.2.2
                  simp only [List.map_cons, List.sum_cons, List.length_cons]
                  omega
              have := hl (n0 :: ms) hmx
              rw [e1, List.length_map]
              omega
            · exact ⟨by rw [hpage]; rfl, s5.trans sG⟩
        rintro σ' G4 ⟨rfl, s4⟩
        have hpl4 := Same.tup s4 hpl
        have xG4 := xG3.trans (.of s4)
        have tG4 := Tabs.same tG3 s4
        have dG4 := d3.same s4
        clear s4 xG3 tG3 d3 hpl xG tG dG
        have dq_ms : ∀ {G : Hp}, SqT K G pl (vi ms) → Dq K G (.ref pl) (.tuple (ms.map iD)) := fun {G} h => .tupq h (by
          have all : ∀ l : List Nat, DqAll K G (vi l) (l.map iD) := fun l => by
            induction l with
            | nil => exact .nil
            | cons y ys ih => exact .cons (.intq _) ih
          exact all ms)
        have hpl_len : page.length ≤ 500 := by
          have hl : ∀ l : List Nat, (∀ n ∈ l, n ≤ 60) → sumS (l.map numS) ≤ 2 * l.length := fun l => by
            induction l with
            | nil => intro _; simp [sumS]
            | cons n l ih =>
              intro h
              have h1 := ih fun m hm => h m (List.mem_cons_of_mem _ hm)
              have h2 := (numS_facts n (h n (List.mem_cons_self ..))).2.2.2
              simp only [sumS, List.map_cons, List.sum_cons, List.length_cons] at h1 ⊢
              omega
          have h1 := hl ms hmx
          have h2 := join_sp_len (ms.map numS)
          rw [List.length_map] at h2
          rw [hpage]
          unfold joinW
          split
          · decide +kernel
          · omega
        have hsm := (sm_iD (ns := ms) (fun x hx => Nat.le_trans (hmx x hx) (by decide)) (by omega)).1
        obtain ⟨rq1, rq2, rq3⟩ := hsm.rq (by decide) (by decide)
        refine ⟨.ref pl, rfl, .ref pl, _, rfl, dq_ms hpl4, ms, rfl, hsd, fun G5 s5 => ⟨_, rfl, rfl, _, rfl, ?_⟩⟩
        have hrp : readD (.str page) = some (ms.map iD) := by rw [hpage]; exact read_page hmx hsd
        rw [← hpage]
        refine iteB0 (by rw [decide_eq_true rfl]; rfl) ?_
        refine ⟨_, rfl, .str page, _, rfl, .strq _, txt_ok (by omega), ms.map iD, hrp, fun G6 rr s6 dq6 => ?_⟩
        have s46 := s5.trans s6
        refine ⟨.ref rr, _, rfl, dq6, rq1, rq2, rq3, .ref pl, rfl, .ref pl, _, rfl, dq_ms (Same.tup s46 hpl4), rq1, rq2, rq3, ?_⟩
        generalize (PyData.tuple (ms.map iD)).shown = zz
        refine ⟨rfl, _, rfl, iteB0 (by rw [decide_eq_true rfl]; rfl) ?_⟩
        have xG6 := xG4.trans (.of s46)
        have tG6 := Tabs.same tG4 s46
        have dG6 := dG4.same s46
        have hpl6 := Same.tup s46 hpl4
        clear s46 s5 s6 dq6 xG4 tG4 dG4 hpl4
        have nplp : ∀ {G : Hp} {n : Int} {xs : List V} {l : Addr}, Deal G pd n → G l = some (.lst xs) → True := fun _ _ => trivial
        refine ⟨_, rfl, by decide, by decide, fun D nD => ?_⟩
        have nDp : D ≠ pd := dG6.ne nD
        refine lc_it (walk_range (lo := 0) (n := 4)) (fun i2 G => ∃ ys : List Str, But pd G6 G ∧ Deal G pd (300 * (j : Int) + 132 + 5 * (i2 : Int)) ∧ G D = some (.lst (ys.map V.str)) ∧ ys.length = i2 ∧ ∀ y ∈ ys, y.length ≤ 20000)
          ⟨[], .of (same_upd nD), (dG6.upd nDp).mono (by omega), upd_same, rfl, fun y h => nomatch h⟩ (fun _ _ _ _ => trivial) ?_ ?_
        · rintro i2 x G G' hi2 ⟨ys, b, p, hx, hl, hz⟩ ⟨rfl, rfl⟩
          have hi4 : i2 < 4 := hi2
          refine ⟨rfl, ?_⟩
          simp only [tYes, if_true]
          refine ⟨.ref pd, rfl, _, rfl, pd, page, _, rfl, p, by omega, by omega, fun H' y b2 p2 hy => ?_⟩
          have hx2 := b2 _ _ nDp hx
          refine ⟨_, hx2, sz61 (by rw [List.length_map]; omega), ys ++ [y], (b.trans b2).mut nD, (p2.upd nDp).mono (by omega), by rw [upd_same, List.map_append]; rfl, by rw [List.length_append, hl]; rfl, fun z hz2 => ?_⟩
          rcases List.mem_append.mp hz2 with h | h
          · exact hz z h
          · rw [List.mem_singleton.mp h]; exact hy
        rintro G7 ⟨ys, b7, d7, hD, hyl, hys⟩
        have xG7 := xb xG6 b7
        have tG7 := tdraw tG6 dG6 b7
        have hpl7 := (dG6.keep b7) _ _ hpl6
        have hs7 := xG7 _ _ hsys hot
        clear b7 xG6 tG6 dG6 hpl6
        refine ⟨.ref pd, rfl, pd, _, o, rfl, d7, by omega, hs7, nps, fun G8 x d0 b8 d8 hq hsm8 hp8 => ?_⟩
        have xG8 := xb xG7 b8
        have tG8 := tdraw tG7 d7 b8
        have hpl8 := (d7.keep b8) _ _ hpl7
        have hD8 := b8 _ _ nDp hD
        obtain ⟨d, hq8, hsm8⟩ : ∃ d, Dq K G8 x d ∧ Sm 31 1000 d ∧ TxtOk d := by
          refine ⟨d0, Dq.same nw_sub hq, hsm8.mono (by decide) (by decide), ?_⟩
          intro z e
          subst e
          have h2 : (z == Str.ofString "" || z == Str.ofString "a" || z == Str.ofString "1") = true := hp8
          simp only [Bool.or_eq_true, beq_iff_eq] at h2
          refine txt_ok ?_ z rfl
          rcases h2 with (rfl | rfl) | rfl <;> decide +kernel
        clear hq xG7 tG7 hpl7 hs7 d7 hD b8
        refine ⟨sz60 (by simp), fun ol nol => ⟨D, ol, _, _, rfl, rfl, same_upd nol _ _ hD8, upd_same, sz60 (by simp only [List.length_append, List.length_map, List.length_cons, List.length_nil]; omega), fun tl ntl => ?_⟩⟩
        have s9 := (same_upd (o := .lst [x]) nol).trans (same_upd (o := .lst (ys.map V.str ++ [x])) ntl)
        have htl := upd_same (H := upd G8 ol (.lst [x])) (a := tl) (o := .lst (ys.map V.str ++ [x]))
        generalize upd (upd G8 ol _) tl _ = G9 at s9 htl ⊢
        have hall : ∀ v, v ∈ ys.map V.str ++ [x] → ∃ d, Dq K G9 v d ∧ TxtOk d := fun v hv => by
          rcases List.mem_append.mp hv with h | h
          · obtain ⟨y, hy, rfl⟩ := List.mem_map.mp h
            exact ⟨_, .strq y, txt_ok (Nat.le_trans (hys y hy) (by decide))⟩
          · rw [List.mem_singleton.mp h]; exact ⟨d, Dq.same s9 hq8, hsm8.2⟩
        have xG9 := xG8.trans (.of s9)
        have tG9 := Tabs.same tG8 s9
        have dG9 := d8.same s9
        have hpl9 := Same.tup s9 hpl8
        clear s9 nol ntl hD8 hys hyl xG8 tG8 d8 hpl8 hq8 hsm8
        refine ⟨_, rfl, tl, rfl, ⟨_, .inl (.inl htl)⟩, for_list (K := K) (xs := ys.map V.str ++ [x]) (fun i2 σ G => ∃ z7, σ = [some (.ref a), some (.int (i : Int)), some (.ref pd), some (.int (0 + (j : Int))), some (.ref pl), some (.str page), some (.ref tl), z7, y8, y9, y10, none, none] ∧ LamX.ExtN G9 G ∧ LamX.Tabs [(TX.ptl, qq)] G) ⟨_, rfl, .refl _, tG9⟩ (fun i2 σ G _ h => .inl (.inl (h.choose_spec.2.1 _ _ htl fun _ z => nomatch z))) ?_ ?_⟩
        · rintro i2 v σ G hv ⟨z7, rfl, x9, tG⟩
          obtain ⟨dv, hqv, htv⟩ := hall v (List.mem_of_getElem? hv)
          have hqv := Dq.extN x9 hqv
          refine ⟨tG, fun HA xA tA => ?_⟩
          have hqA := Dq.extN xA hqv
          refine met_read TX hqA (fun HB sB E' R hqB hR => ⟨_, rfl, v, dv, rfl, hqB, htv, hR⟩) fun HC t sC hqt => ?_
          obtain ⟨e1, e2, e3⟩ := (toldR_sm dv).rq (by decide) (by decide)
          refine ⟨.ref t, _, rfl, hqt, e1, e2, e3, _, rfl, v, dv, rfl, Dq.same sC hqA, htv, fun HD t2 sD hqt2 => ?_⟩
          refine ⟨.ref t2, _, rfl, hqt2, e1, e2, e3, ?_⟩
          generalize (toldR dv).shown = zz
          refine ⟨rfl, _, rfl, iteB0 (by rw [decide_eq_true rfl]; rfl) ?_⟩
          exact ⟨_, rfl, (x9.trans xA).trans (.of (sC.trans sD)), Tabs.same tA (sC.trans sD)⟩
        rintro σ G ⟨z7, rfl, x9, tG⟩
        have xG10 := xG9.trans x9
        have hpl10 := extN_tup x9 hpl9
        have dG10 : Deal G pd (300 * (j : Int) + 200) := by
          obtain ⟨q1, q2, q3, q4, q5, q6, q7, q8, q9⟩ := dG9
          exact ⟨q1, q2, q3, x9 _ _ q4 (fun _ z => nomatch z), q5, q6, q7, q8, by omega⟩
        clear x9 xG9 hpl9 dG9 tG9 hall htl
        have hs10 := xG10 _ _ hsys hot
        refine ⟨.ref pl, rfl, .ref pl, rfl, pl, _, rfl, .inr hpl10, _, _, rfl, rfl, sz60 (by simp), fun t1 n1 => ?_⟩
        have ew : ((vi ms).length : Int) + 2 = ((ms.length + 2 : Nat) : Int) := by rw [vi_len]; omega
        dsimp only
        rw [ew]
        have w1 := same_upd (o := .tup [V.int ((ms.length + 2 : Nat) : Int)]) n1
        refine catA_of (Same.tup w1 hpl10) (.inl (.inl upd_same)) (sz60 (by rw [vi_len]; simp only [List.length_cons, List.length_nil]; omega)) fun r1 J1 w2 hr1 => ?_
        have e1 : vi ms ++ [V.int ((ms.length + 2 : Nat) : Int)] = vi (ms ++ [ms.length + 2]) := by rw [vi_app]; rfl
        rw [e1] at hr1
        have j1 := w1.trans w2
        have hpl11 := Same.tup j1 hpl10
        clear w1 w2 n1
        refine ⟨.ref pl, rfl, pl, _, rfl, .inr hpl11, fun r2 n2 => ⟨sz60 (by simp), fun r3 n3 => ⟨sz60 (by simp), fun r4 n4 => ⟨sz60 (by simp), fun r5 n5 => ?_⟩⟩⟩⟩
        refine ⟨r5, 61, _, rfl, rfl, .inl (.inl upd_same), by simp, by decide, by decide, by simp, fun r6 n6 => ⟨sz60 (by simp), fun r7 n7 => ⟨_, rfl, sz60 (by simp), fun r8 n8 => ?_⟩⟩⟩
        have v_r2 := same_upd (H := J1) (o := .lst (vi ms)) n2
        have v_r3 := same_upd (H := (upd J1 r2 (.lst (vi ms)))) (o := .tup [V.int 1]) n3
        have v_r4 := same_upd (H := (upd (upd J1 r2 (.lst (vi ms))) r3 (.tup [V.int 1]))) (o := .tup [V.int 0, V.int 2]) n4
        have v_r5 := same_upd (H := (upd (upd (upd J1 r2 (.lst (vi ms))) r3 (.tup [V.int 1])) r4 (.tup [V.int 0, V.int 2]))) (o := .tup [V.int 0]) n5
        have v_r6 := same_upd (H := (upd (upd (upd (upd J1 r2 (.lst (vi ms))) r3 (.tup [V.int 1])) r4 (.tup [V.int 0, V.int 2])) r5 (.tup [V.int 0]))) (o := .tup (List.replicate (61 : Int).toNat [V.int 0]).flatten) n6
        have v_r7 := same_upd (H := (upd (upd (upd (upd (upd J1 r2 (.lst (vi ms))) r3 (.tup [V.int 1])) r4 (.tup [V.int 0, V.int 2])) r5 (.tup [V.int 0])) r6 (.tup (List.replicate (61 : Int).toNat [V.int 0]).flatten))) (o := .tup [V.bl true]) n7
        have v_r8 := same_upd (H := (upd (upd (upd (upd (upd (upd J1 r2 (.lst (vi ms))) r3 (.tup [V.int 1])) r4 (.tup [V.int 0, V.int 2])) r5 (.tup [V.int 0])) r6 (.tup (List.replicate (61 : Int).toNat [V.int 0]).flatten)) r7 (.tup [V.bl true]))) (o := .tup [V.int (-1)]) n8
        have s_r8 := v_r8
        have s_r7 := v_r7.trans s_r8
        have s_r6 := v_r6.trans s_r7
        have s_r5 := v_r5.trans s_r6
        have s_r4 := v_r4.trans s_r5
        have s_r3 := v_r3.trans s_r4
        have s_r2 := v_r2.trans s_r3
        have e_r2 := s_r3 _ _ (upd_same (H := J1) (a := r2) (o := .lst (vi ms)))
        have e_r3 := s_r4 _ _ (upd_same (H := (upd J1 r2 (.lst (vi ms)))) (a := r3) (o := .tup [V.int 1]))
        have e_r4 := s_r5 _ _ (upd_same (H := (upd (upd J1 r2 (.lst (vi ms))) r3 (.tup [V.int 1]))) (a := r4) (o := .tup [V.int 0, V.int 2]))
        have e_r5 := s_r6 _ _ (upd_same (H := (upd (upd (upd J1 r2 (.lst (vi ms))) r3 (.tup [V.int 1])) r4 (.tup [V.int 0, V.int 2]))) (a := r5) (o := .tup [V.int 0]))
        have e_r6 := s_r7 _ _ (upd_same (H := (upd (upd (upd (upd J1 r2 (.lst (vi ms))) r3 (.tup [V.int 1])) r4 (.tup [V.int 0, V.int 2])) r5 (.tup [V.int 0]))) (a := r6) (o := .tup (List.replicate (61 : Int).toNat [V.int 0]).flatten))
        have e_r7 := s_r8 _ _ (upd_same (H := (upd (upd (upd (upd (upd J1 r2 (.lst (vi ms))) r3 (.tup [V.int 1])) r4 (.tup [V.int 0, V.int 2])) r5 (.tup [V.int 0])) r6 (.tup (List.replicate (61 : Int).toNat [V.int 0]).flatten))) (a := r7) (o := .tup [V.bl true]))
        have e_r8 := upd_same (H := (upd (upd (upd (upd (upd (upd J1 r2 (.lst (vi ms))) r3 (.tup [V.int 1])) r4 (.tup [V.int 0, V.int 2])) r5 (.tup [V.int 0])) r6 (.tup (List.replicate (61 : Int).toNat [V.int 0]).flatten)) r7 (.tup [V.bl true]))) (a := r8) (o := .tup [V.int (-1)])
        have dJ1 := dG10.same j1
        have ne2 : r2 ≠ pd := dJ1.ne n2
        have ns2 : r2 ≠ sysModules := fun z => by
          have := j1 _ _ hs10
          rw [← z, n2] at this; cases this
        have hr1b := Same.tup s_r2 hr1
        have hrep : (List.replicate (61 : Int).toNat [V.int 0]).flatten = vi (List.replicate 61 0) := by decide
        have sJ := j1.trans s_r2
        generalize upd (upd (upd (upd (upd (upd (upd J1 r2 _) r3 _) r4 _) r5 _) r6 _) r7 _) r8 _ = J8 at s_r2 e_r2 e_r3 e_r4 e_r6 e_r7 e_r8 hr1b sJ ⊢
        rw [hrep] at e_r6
        clear v_r2 v_r3 v_r4 v_r5 v_r6 v_r7 v_r8 s_r3 s_r4 s_r5 s_r6 s_r7 s_r8 e_r5 n2 n3 n4 n5 n6 n7 n8
        have dJ8 := dG10.same sJ
        have xJ8 := xG10.trans (.of sJ)
        have tJ8 := Tabs.same tG sJ
        refine ⟨.ref pd, rfl, pd, _, o, rfl, dJ8, by omega, sJ _ _ hs10, nps, fun J9 x9 d9 b9 dd9 hq9 hsm9 hp9 => ⟨sz60 (by simp), fun tl2 ntl2 => ?_⟩⟩
        have k9 := dJ8.keep (K := K) b9
        have a1 : TryOk K J9 (.ref r1) := try_iD (k9 _ _ hr1b) (fun x hx => by
          rcases List.mem_append.mp hx with h | h
          · exact Nat.le_trans (hmx x h) (by decide)
          · rw [List.mem_singleton.mp h]; omega) (by rw [List.length_append]; simp only [List.length_cons, List.length_nil]; omega)
        have a2 : TryOk K J9 (.ref r2) := ⟨_, .lstq (.inl (.inl (b9 _ _ ne2 e_r2))) ns2 (by
          have all : ∀ l : List Nat, DqAll K J9 (vi l) (l.map iD) := fun l => by
            induction l with
            | nil => exact .nil
            | cons y ys ih => exact .cons (.intq _) ih
          exact all ms), (sm_iD (ns := ms) (fun x hx => Nat.le_trans (hmx x hx) (by decide)) (by omega)).2⟩
        have a3 : TryOk K J9 (.ref r3) := try_iD (ms := [1]) (k9 _ _ (.inl (.inl e_r3))) (by decide) (by decide)
        have a4 : TryOk K J9 (.ref r4) := try_iD (ms := [0, 2]) (k9 _ _ (.inl (.inl e_r4))) (by decide) (by decide)
        have a6 : TryOk K J9 (.ref r6) := try_iD (ms := List.replicate 61 0) (k9 _ _ (.inl (.inl e_r6))) (by decide) (by decide)
        have a7 : TryOk K J9 (.ref r7) := ⟨.tuple [.bool true], .tupq (k9 _ _ (.inl (.inl e_r7))) (.cons (.blq _) .nil), by constructor <;> decide +kernel⟩
        have a8 : TryOk K J9 (.ref r8) := ⟨.tuple [.int (-1)], .tupq (k9 _ _ (.inl (.inl e_r8))) (.cons (.intq _) .nil), by constructor <;> decide +kernel⟩
        have a9 : TryOk K J9 x9 := ⟨d9, Dq.same nw_sub hq9, hsm9.mono (by decide) (by decide)⟩
        have xJ9 := xb xJ8 b9
        have tJ9 := tdraw tJ8 dJ8 b9
        clear e_r2 e_r3 e_r4 e_r6 e_r7 e_r8 hr1b k9 b9 hq9 hsm9 hp9 sJ j1 hr1 hpl10 hpl11 dG10 xG10 tG dJ1 dJ8 xJ8 tJ8 s_r2 hs10
        have w9 := same_upd (o := .lst [V.ref r1, V.ref r2, V.ref r3, V.ref r4, V.ref r6, V.ref r7, V.ref r8, x9]) ntl2
        have htl2 := upd_same (H := J9) (a := tl2) (o := .lst [V.ref r1, V.ref r2, V.ref r3, V.ref r4, V.ref r6, V.ref r7, V.ref r8, x9])
        generalize upd J9 tl2 _ = G12 at w9 htl2 ⊢
        have hall : ∀ v, v ∈ [V.ref r1, V.ref r2, V.ref r3, V.ref r4, V.ref r6, V.ref r7, V.ref r8, x9] → TryOk K G12 v := fun v hv => by
          simp only [List.mem_cons, List.not_mem_nil, or_false] at hv
          rcases hv with rfl | rfl | rfl | rfl | rfl | rfl | rfl | rfl
          · exact a1.same w9
          · exact a2.same w9
          · exact a3.same w9
          · exact a4.same w9
          · exact a6.same w9
          · exact a7.same w9
          · exact a8.same w9
          · exact a9.same w9
        have xG12 := xJ9.trans (.of w9)
        have tG12 := Tabs.same tJ9 w9
        have dG12 := dd9.same w9
        clear a1 a2 a3 a4 a6 a7 a8 a9 w9 xJ9 tJ9 dd9 ntl2 ne2 ns2
        generalize [V.ref r1, V.ref r2, V.ref r3, V.ref r4, V.ref r6, V.ref r7, V.ref r8, x9] = L at htl2 hall
        refine ⟨_, rfl, tl2, rfl, ⟨_, .inl (.inl htl2)⟩, for_list (K := K) (xs := L) (fun i2 σ G => ∃ z7 z9 z10, σ = [some (.ref a), some (.int (i : Int)), some (.ref pd), some (.int (0 + (j : Int))), some (.ref pl), some (.str page), some (.ref tl), z7, some (.ref tl2), z9, z10, none, none] ∧ LamX.ExtN G12 G ∧ LamX.Tabs [(TX.ptl, qq)] G) ⟨_, _, _, rfl, .refl _, tG12⟩ (fun i2 σ G _ h => .inl (.inl (h.choose_spec.choose_spec.choose_spec.2.1 _ _ htl2 fun _ z => nomatch z))) ?_ ?_⟩
        · rintro i2 v σ G hv ⟨z7, z9, z10, rfl, x9, tG⟩
          obtain ⟨dv, hqv, hsv⟩ := hall v (List.mem_of_getElem? hv)
          have hqv := Dq.extN x9 hqv
          refine ⟨tG, fun HA xA tA => ?_⟩
          have hqA := Dq.extN xA hqv
          refine met_show TX hqA (fun HB sB E' R hqB hR => ⟨_, rfl, v, dv, rfl, hqB, hR⟩) fun HC t sC hcase => ?_
          refine ⟨_, rfl, v, dv, rfl, Dq.same sC hqA, _, _, rfl, ?_⟩
          have fin : ∀ {G' : Hp}, Same HC G' → LamX.ExtN G12 G' ∧ LamX.Tabs [(TX.ptl, qq)] G' := fun {G'} s => ⟨(x9.trans xA).trans (.of (sC.trans s)), Tabs.same tA (sC.trans s)⟩
          rcases hcase with ⟨hb, z, ht⟩ | ⟨hb, hqt, v', ht⟩
          · refine ⟨_, rfl, _, rfl, iteB0 (by rw [hb]; rfl) (iteB0 rfl ?_)⟩
            refine ⟨_, rfl, _, rfl, iteB1 hb ⟨_, rfl, t, _, 0, _, rfl, rfl, .inl (.inl ht), rfl, rfl, _, rfl, iteB0 (by rw [decide_eq_true rfl]; rfl) ?_⟩⟩
            exact ⟨_, _, _, rfl, fin (Same.refl _)⟩
          · refine ⟨_, rfl, _, rfl, iteB1 (by rw [hb]; rfl) ?_⟩
            obtain ⟨q1, q2, q3⟩ := (sm_told (z := "schedule") (.inr (.inr rfl)) hsv).rq (by decide) (by decide)
            refine ⟨_, rfl, .ref t, _, rfl, hqt, q1, q2, q3, _, rfl, sz60 (by simp), fun t9 n9 => ?_⟩
            have s9 := same_upd (o := .tup [V.str "schedule", v]) n9
            refine ⟨.ref t9, _, rfl, .tupq (.inl (.inl upd_same)) (.cons (.strq _) (.cons (Dq.same (sC.trans s9) hqA) .nil)), q1, q2, q3, ?_⟩
            generalize (PyData.tuple [.str "schedule", dv]).shown = zz
            refine ⟨rfl, _, rfl, iteB0 (by rw [decide_eq_true rfl]; rfl) ?_⟩
            refine ⟨_, rfl, _, rfl, iteB0 hb ?_⟩
            exact iteF ⟨_, _, _, rfl, fin s9⟩
        rintro σ G ⟨z7, z9, z10, rfl, x9, tG⟩
        refine ⟨_, _, _, _, _, _, _, _, rfl, xG12.trans x9, tG, ?_⟩
        obtain ⟨q1, q2, q3, q4, q5, q6, q7, q8, q9⟩ := dG12
        exact ⟨q1, q2, q3, x9 _ _ q4 (fun _ z => nomatch z), q5, q6, q7, q8, by omega⟩
      · rintro σ G ⟨z4, z5, z6, z7, z8, z9, z10, z3, rfl, xG, tG, dG⟩
        exact ⟨_, _, _, _, _, _, _, _, _, _, rfl, xG, tG⟩
    · rintro σ G _
      exact q _
end
theorem all_mk {l : PySem.W.OpenLaw} {w : World} {K : PySem.W.Frag} {h : Heap} {mg : Str → Option Value} {fa : Addr} (X : K.In h) (G : h.Ns mainGlobals mg) (hfa : mg "law" = some (.ref fa))
    {f_is_int : Addr} {od_is_int an_is_int : Option Addr} {sl_is_int : Array (Option Value)} {oc_is_int kV_is_int dc_is_int pm_is_int cd_is_int ct_is_int : Value}
    (a_is_int : PySem.W.nsIn K mainGlobals "is_int" = some (some (.ref f_is_int))) (l_is_int : K.lookup f_is_int = some ⟨oc_is_int, od_is_int, .func (PySem.W.fnOf "is_int" "is_int" (defArgs s_is_int) (defBody s_is_int) (defScope s_is_int) .none kV_is_int dc_is_int pm_is_int an_is_int cd_is_int ct_is_int), sl_is_int⟩) (c_is_int : PySem.W.codeIn K cd_is_int "is_int" = true) (k_is_int : PySem.W.keepIn K (.ref f_is_int) = true)
    {f_is_count : Addr} {od_is_count an_is_count : Option Addr} {sl_is_count : Array (Option Value)} {oc_is_count kV_is_count dc_is_count pm_is_count cd_is_count ct_is_count : Value}
    (a_is_count : PySem.W.nsIn K mainGlobals "is_count" = some (some (.ref f_is_count))) (l_is_count : K.lookup f_is_count = some ⟨oc_is_count, od_is_count, .func (PySem.W.fnOf "is_count" "is_count" (defArgs s_is_count) (defBody s_is_count) (defScope s_is_count) .none kV_is_count dc_is_count pm_is_count an_is_count cd_is_count ct_is_count), sl_is_count⟩) (c_is_count : PySem.W.codeIn K cd_is_count "is_count" = true) (k_is_count : PySem.W.keepIn K (.ref f_is_count) = true)
    {f_is_count_up_to : Addr} {od_is_count_up_to an_is_count_up_to : Option Addr} {sl_is_count_up_to : Array (Option Value)} {oc_is_count_up_to kV_is_count_up_to dc_is_count_up_to pm_is_count_up_to cd_is_count_up_to ct_is_count_up_to : Value}
    (a_is_count_up_to : PySem.W.nsIn K mainGlobals "is_count_up_to" = some (some (.ref f_is_count_up_to))) (l_is_count_up_to : K.lookup f_is_count_up_to = some ⟨oc_is_count_up_to, od_is_count_up_to, .func (PySem.W.fnOf "is_count_up_to" "is_count_up_to" (defArgs s_is_count_up_to) (defBody s_is_count_up_to) (defScope s_is_count_up_to) .none kV_is_count_up_to dc_is_count_up_to pm_is_count_up_to an_is_count_up_to cd_is_count_up_to ct_is_count_up_to), sl_is_count_up_to⟩) (c_is_count_up_to : PySem.W.codeIn K cd_is_count_up_to "is_count_up_to" = true) (k_is_count_up_to : PySem.W.keepIn K (.ref f_is_count_up_to) = true)
    {f_is_schedule : Addr} {od_is_schedule an_is_schedule : Option Addr} {sl_is_schedule : Array (Option Value)} {oc_is_schedule kV_is_schedule dc_is_schedule pm_is_schedule cd_is_schedule ct_is_schedule : Value}
    (a_is_schedule : PySem.W.nsIn K mainGlobals "is_schedule" = some (some (.ref f_is_schedule))) (l_is_schedule : K.lookup f_is_schedule = some ⟨oc_is_schedule, od_is_schedule, .func (PySem.W.fnOf "is_schedule" "is_schedule" (defArgs s_is_schedule) (defBody s_is_schedule) (defScope s_is_schedule) .none kV_is_schedule dc_is_schedule pm_is_schedule an_is_schedule cd_is_schedule ct_is_schedule), sl_is_schedule⟩) (c_is_schedule : PySem.W.codeIn K cd_is_schedule "is_schedule" = true) (k_is_schedule : PySem.W.keepIn K (.ref f_is_schedule) = true)
    {f_number_in : Addr} {od_number_in an_number_in : Option Addr} {sl_number_in : Array (Option Value)} {oc_number_in kV_number_in dc_number_in pm_number_in cd_number_in ct_number_in : Value}
    (a_number_in : PySem.W.nsIn K mainGlobals "number_in" = some (some (.ref f_number_in))) (l_number_in : K.lookup f_number_in = some ⟨oc_number_in, od_number_in, .func (PySem.W.fnOf "number_in" "number_in" (defArgs s_number_in) (defBody s_number_in) (defScope s_number_in) .none kV_number_in dc_number_in pm_number_in an_number_in cd_number_in ct_number_in), sl_number_in⟩) (c_number_in : PySem.W.codeIn K cd_number_in "number_in" = true) (k_number_in : PySem.W.keepIn K (.ref f_number_in) = true)
    {f_joined_words : Addr} {od_joined_words an_joined_words : Option Addr} {sl_joined_words : Array (Option Value)} {oc_joined_words kV_joined_words dc_joined_words pm_joined_words cd_joined_words ct_joined_words : Value}
    (a_joined_words : PySem.W.nsIn K mainGlobals "joined_words" = some (some (.ref f_joined_words))) (l_joined_words : K.lookup f_joined_words = some ⟨oc_joined_words, od_joined_words, .func (PySem.W.fnOf "joined_words" "joined_words" (defArgs s_joined_words) (defBody s_joined_words) (defScope s_joined_words) .none kV_joined_words dc_joined_words pm_joined_words an_joined_words cd_joined_words ct_joined_words), sl_joined_words⟩) (c_joined_words : PySem.W.codeIn K cd_joined_words "joined_words" = true) (k_joined_words : PySem.W.keepIn K (.ref f_joined_words) = true)
    {f_show_schedule : Addr} {od_show_schedule an_show_schedule : Option Addr} {sl_show_schedule : Array (Option Value)} {oc_show_schedule kV_show_schedule dc_show_schedule pm_show_schedule cd_show_schedule ct_show_schedule : Value}
    (a_show_schedule : PySem.W.nsIn K mainGlobals "show_schedule" = some (some (.ref f_show_schedule))) (l_show_schedule : K.lookup f_show_schedule = some ⟨oc_show_schedule, od_show_schedule, .func (PySem.W.fnOf "show_schedule" "show_schedule" (defArgs s_show_schedule) (defBody s_show_schedule) (defScope s_show_schedule) .none kV_show_schedule dc_show_schedule pm_show_schedule an_show_schedule cd_show_schedule ct_show_schedule), sl_show_schedule⟩) (c_show_schedule : PySem.W.codeIn K cd_show_schedule "show_schedule" = true) (k_show_schedule : PySem.W.keepIn K (.ref f_show_schedule) = true)
    {f_read_schedule : Addr} {od_read_schedule an_read_schedule : Option Addr} {sl_read_schedule : Array (Option Value)} {oc_read_schedule kV_read_schedule dc_read_schedule pm_read_schedule cd_read_schedule ct_read_schedule : Value}
    (a_read_schedule : PySem.W.nsIn K mainGlobals "read_schedule" = some (some (.ref f_read_schedule))) (l_read_schedule : K.lookup f_read_schedule = some ⟨oc_read_schedule, od_read_schedule, .func (PySem.W.fnOf "read_schedule" "read_schedule" (defArgs s_read_schedule) (defBody s_read_schedule) (defScope s_read_schedule) .none kV_read_schedule dc_read_schedule pm_read_schedule an_read_schedule cd_read_schedule ct_read_schedule), sl_read_schedule⟩) (c_read_schedule : PySem.W.codeIn K cd_read_schedule "read_schedule" = true) (k_read_schedule : PySem.W.keepIn K (.ref f_read_schedule) = true)
    {f_L_start_draws : Addr} {od_L_start_draws an_L_start_draws : Option Addr} {sl_L_start_draws : Array (Option Value)} {oc_L_start_draws kV_L_start_draws dc_L_start_draws pm_L_start_draws cd_L_start_draws ct_L_start_draws : Value}
    (a_L_start_draws : PySem.W.nsIn K mainGlobals "_law_start_draws" = some (some (.ref f_L_start_draws))) (l_L_start_draws : K.lookup f_L_start_draws = some ⟨oc_L_start_draws, od_L_start_draws, .func (PySem.W.fnOf "_law_start_draws" "_law_start_draws" (defArgs s_L_start_draws) (defBody s_L_start_draws) (defScope s_L_start_draws) .none kV_L_start_draws dc_L_start_draws pm_L_start_draws an_L_start_draws cd_L_start_draws ct_L_start_draws), sl_L_start_draws⟩) (c_L_start_draws : PySem.W.codeIn K cd_L_start_draws "_law_start_draws" = true) (k_L_start_draws : PySem.W.keepIn K (.ref f_L_start_draws) = true)
    {f_L_next : Addr} {od_L_next an_L_next : Option Addr} {sl_L_next : Array (Option Value)} {oc_L_next kV_L_next dc_L_next pm_L_next cd_L_next ct_L_next : Value}
    (a_L_next : PySem.W.nsIn K mainGlobals "_law_next" = some (some (.ref f_L_next))) (l_L_next : K.lookup f_L_next = some ⟨oc_L_next, od_L_next, .func (PySem.W.fnOf "_law_next" "_law_next" (defArgs s_L_next) (defBody s_L_next) (defScope s_L_next) .none kV_L_next dc_L_next pm_L_next an_L_next cd_L_next ct_L_next), sl_L_next⟩) (c_L_next : PySem.W.codeIn K cd_L_next "_law_next" = true) (k_L_next : PySem.W.keepIn K (.ref f_L_next) = true)
    {f_L_pick : Addr} {od_L_pick an_L_pick : Option Addr} {sl_L_pick : Array (Option Value)} {oc_L_pick kV_L_pick dc_L_pick pm_L_pick cd_L_pick ct_L_pick : Value}
    (a_L_pick : PySem.W.nsIn K mainGlobals "_law_pick" = some (some (.ref f_L_pick))) (l_L_pick : K.lookup f_L_pick = some ⟨oc_L_pick, od_L_pick, .func (PySem.W.fnOf "_law_pick" "_law_pick" (defArgs s_L_pick) (defBody s_L_pick) (defScope s_L_pick) .none kV_L_pick dc_L_pick pm_L_pick an_L_pick cd_L_pick ct_L_pick), sl_L_pick⟩) (c_L_pick : PySem.W.codeIn K cd_L_pick "_law_pick" = true) (k_L_pick : PySem.W.keepIn K (.ref f_L_pick) = true)
    {f_L_odd : Addr} {od_L_odd an_L_odd : Option Addr} {sl_L_odd : Array (Option Value)} {oc_L_odd kV_L_odd dc_L_odd pm_L_odd cd_L_odd ct_L_odd : Value}
    (a_L_odd : PySem.W.nsIn K mainGlobals "_law_odd" = some (some (.ref f_L_odd))) (l_L_odd : K.lookup f_L_odd = some ⟨oc_L_odd, od_L_odd, .func (PySem.W.fnOf "_law_odd" "_law_odd" (defArgs s_L_odd) (defBody s_L_odd) (defScope s_L_odd) .none kV_L_odd dc_L_odd pm_L_odd an_L_odd cd_L_odd ct_L_odd), sl_L_odd⟩) (c_L_odd : PySem.W.codeIn K cd_L_odd "_law_odd" = true) (k_L_odd : PySem.W.keepIn K (.ref f_L_odd) = true)
    {f_L_count_in : Addr} {od_L_count_in an_L_count_in : Option Addr} {sl_L_count_in : Array (Option Value)} {oc_L_count_in kV_L_count_in dc_L_count_in pm_L_count_in cd_L_count_in ct_L_count_in : Value}
    (a_L_count_in : PySem.W.nsIn K mainGlobals "_law_count_in" = some (some (.ref f_L_count_in))) (l_L_count_in : K.lookup f_L_count_in = some ⟨oc_L_count_in, od_L_count_in, .func (PySem.W.fnOf "_law_count_in" "_law_count_in" (defArgs s_L_count_in) (defBody s_L_count_in) (defScope s_L_count_in) .none kV_L_count_in dc_L_count_in pm_L_count_in an_L_count_in cd_L_count_in ct_L_count_in), sl_L_count_in⟩) (c_L_count_in : PySem.W.codeIn K cd_L_count_in "_law_count_in" = true) (k_L_count_in : PySem.W.keepIn K (.ref f_L_count_in) = true)
    {f_L_schedule : Addr} {od_L_schedule an_L_schedule : Option Addr} {sl_L_schedule : Array (Option Value)} {oc_L_schedule kV_L_schedule dc_L_schedule pm_L_schedule cd_L_schedule ct_L_schedule : Value}
    (a_L_schedule : PySem.W.nsIn K mainGlobals "_law_schedule" = some (some (.ref f_L_schedule))) (l_L_schedule : K.lookup f_L_schedule = some ⟨oc_L_schedule, od_L_schedule, .func (PySem.W.fnOf "_law_schedule" "_law_schedule" (defArgs s_L_schedule) (defBody s_L_schedule) (defScope s_L_schedule) .none kV_L_schedule dc_L_schedule pm_L_schedule an_L_schedule cd_L_schedule ct_L_schedule), sl_L_schedule⟩) (c_L_schedule : PySem.W.codeIn K cd_L_schedule "_law_schedule" = true) (k_L_schedule : PySem.W.keepIn K (.ref f_L_schedule) = true)
    {f_L_is_schedule : Addr} {od_L_is_schedule an_L_is_schedule : Option Addr} {sl_L_is_schedule : Array (Option Value)} {oc_L_is_schedule kV_L_is_schedule dc_L_is_schedule pm_L_is_schedule cd_L_is_schedule ct_L_is_schedule : Value}
    (a_L_is_schedule : PySem.W.nsIn K mainGlobals "_law_is_schedule" = some (some (.ref f_L_is_schedule))) (l_L_is_schedule : K.lookup f_L_is_schedule = some ⟨oc_L_is_schedule, od_L_is_schedule, .func (PySem.W.fnOf "_law_is_schedule" "_law_is_schedule" (defArgs s_L_is_schedule) (defBody s_L_is_schedule) (defScope s_L_is_schedule) .none kV_L_is_schedule dc_L_is_schedule pm_L_is_schedule an_L_is_schedule cd_L_is_schedule ct_L_is_schedule), sl_L_is_schedule⟩) (c_L_is_schedule : PySem.W.codeIn K cd_L_is_schedule "_law_is_schedule" = true) (k_L_is_schedule : PySem.W.keepIn K (.ref f_L_is_schedule) = true)
    {f_L_expected : Addr} {od_L_expected an_L_expected : Option Addr} {sl_L_expected : Array (Option Value)} {oc_L_expected kV_L_expected dc_L_expected pm_L_expected cd_L_expected ct_L_expected : Value}
    (a_L_expected : PySem.W.nsIn K mainGlobals "_law_expected" = some (some (.ref f_L_expected))) (l_L_expected : K.lookup f_L_expected = some ⟨oc_L_expected, od_L_expected, .func (PySem.W.fnOf "_law_expected" "_law_expected" (defArgs s_L_expected) (defBody s_L_expected) (defScope s_L_expected) .none kV_L_expected dc_L_expected pm_L_expected an_L_expected cd_L_expected ct_L_expected), sl_L_expected⟩) (c_L_expected : PySem.W.codeIn K cd_L_expected "_law_expected" = true) (k_L_expected : PySem.W.keepIn K (.ref f_L_expected) = true)
    {f_L_told : Addr} {od_L_told an_L_told : Option Addr} {sl_L_told : Array (Option Value)} {oc_L_told kV_L_told dc_L_told pm_L_told cd_L_told ct_L_told : Value}
    (a_L_told : PySem.W.nsIn K mainGlobals "_law_told" = some (some (.ref f_L_told))) (l_L_told : K.lookup f_L_told = some ⟨oc_L_told, od_L_told, .func (PySem.W.fnOf "_law_told" "_law_told" (defArgs s_L_told) (defBody s_L_told) (defScope s_L_told) .none kV_L_told dc_L_told pm_L_told an_L_told cd_L_told ct_L_told), sl_L_told⟩) (c_L_told : PySem.W.codeIn K cd_L_told "_law_told" = true) (k_L_told : PySem.W.keepIn K (.ref f_L_told) = true)
    {f_L_bent : Addr} {od_L_bent an_L_bent : Option Addr} {sl_L_bent : Array (Option Value)} {oc_L_bent kV_L_bent dc_L_bent pm_L_bent cd_L_bent ct_L_bent : Value}
    (a_L_bent : PySem.W.nsIn K mainGlobals "_law_bent" = some (some (.ref f_L_bent))) (l_L_bent : K.lookup f_L_bent = some ⟨oc_L_bent, od_L_bent, .func (PySem.W.fnOf "_law_bent" "_law_bent" (defArgs s_L_bent) (defBody s_L_bent) (defScope s_L_bent) .none kV_L_bent dc_L_bent pm_L_bent an_L_bent cd_L_bent ct_L_bent), sl_L_bent⟩) (c_L_bent : PySem.W.codeIn K cd_L_bent "_law_bent" = true) (k_L_bent : PySem.W.keepIn K (.ref f_L_bent) = true)
    {f_law : Addr} {od_law an_law : Option Addr} {sl_law : Array (Option Value)} {oc_law kV_law dc_law pm_law ct_law : Value} {cdA : Addr}
    (a_law : PySem.W.nsIn K mainGlobals "law" = some (some (.ref f_law))) (l_law : K.lookup f_law = some ⟨oc_law, od_law, .func (PySem.W.fnOf "law" "law" (defArgs s_law) (defBody s_law) (defScope s_law) .none kV_law dc_law pm_law an_law (.ref cdA) ct_law), sl_law⟩) (c_law : PySem.W.codeIn K (.ref cdA) "law" = true) (k_law : PySem.W.keepIn K (.ref f_law) = true)
    {ptA : Addr} (tbA : ∀ P ∈ [ptA], h.get? P = some (PySem.W.tabObj #[]))
    (hdA : PySem.W.codeHdIn K cdA ptA = true) (ntA : K.lookup ptA = none) (nyA : decide (cdA ≠ sysModules ∧ ptA ≠ sysModules) = true)
    (z_isinstance : PySem.W.nsIn K mainGlobals "isinstance" = some none)
    (z_int : PySem.W.nsIn K mainGlobals "int" = some none)
    (z_bool : PySem.W.nsIn K mainGlobals "bool" = some none)
    (z_tuple : PySem.W.nsIn K mainGlobals "tuple" = some none)
    (z_len : PySem.W.nsIn K mainGlobals "len" = some none)
    (z_all : PySem.W.nsIn K mainGlobals "all" = some none)
    (z_str : PySem.W.nsIn K mainGlobals "str" = some none)
    (z_abs : PySem.W.nsIn K mainGlobals "abs" = some none)
    (z_range : PySem.W.nsIn K mainGlobals "range" = some none)
    (z_max : PySem.W.nsIn K mainGlobals "max" = some none)
    (z_min : PySem.W.nsIn K mainGlobals "min" = some none)
    (z_list : PySem.W.nsIn K mainGlobals "list" = some none)
    (z_repr : PySem.W.nsIn K mainGlobals "repr" = some none)
    {t_MOST_FLUSHES : Tok} (y_MOST_FLUSHES : PySem.W.nsIn K mainGlobals "MOST_FLUSHES" = some (some (.int (60) t_MOST_FLUSHES)))
    {t_MOST_DIGITS : Tok} (y_MOST_DIGITS : PySem.W.nsIn K mainGlobals "MOST_DIGITS" = some (some (.int (60) t_MOST_DIGITS)))
    {t_NOTHING : Tok} (y_NOTHING : PySem.W.nsIn K mainGlobals "NOTHING" = some (some (.str "-" t_NOTHING)))
    {C_MergeBudgetError : Addr} (ac_MergeBudgetError : PySem.W.nsIn K mainGlobals "MergeBudgetError" = some (some (.ref C_MergeBudgetError))) (kc_MergeBudgetError : PySem.W.keepIn K (.ref C_MergeBudgetError) = true) {kd_MergeBudgetError : ClassData} (kl_MergeBudgetError : PySem.W.clsIn K C_MergeBudgetError = some kd_MergeBudgetError) (kt_MergeBudgetError : PySem.W.typeIn K (.ref C_MergeBudgetError) = some (.type "type"))
    (xp_MergeBudgetError : PySem.W.findIn K (.ref C_MergeBudgetError) "__getattribute__" = some (some (.builtin "BaseException.__getattribute__"))) (xq_MergeBudgetError : PySem.W.findIn K (.ref C_MergeBudgetError) "__getattr__" = some none) (xr_MergeBudgetError : PySem.W.subIn K (.ref C_MergeBudgetError) (.type "BaseException") = some true) (xs_MergeBudgetError : PySem.W.hasDictIn K C_MergeBudgetError = true) (xt_MergeBudgetError : PySem.W.findIn K (.ref C_MergeBudgetError) "__class__" = some (some (.builtin "object.__class__"))) (xu_MergeBudgetError : PySem.W.mroIn K C_MergeBudgetError (.type "object") = some true)
    (xi_MergeBudgetError : PySem.W.excIn K C_MergeBudgetError PySem.HandSPX.veTail "ValueError.__new__" = true)
    {C_InvalidSchedule : Addr} (ac_InvalidSchedule : PySem.W.nsIn K mainGlobals "InvalidSchedule" = some (some (.ref C_InvalidSchedule))) (kc_InvalidSchedule : PySem.W.keepIn K (.ref C_InvalidSchedule) = true) {kd_InvalidSchedule : ClassData} (kl_InvalidSchedule : PySem.W.clsIn K C_InvalidSchedule = some kd_InvalidSchedule) (kt_InvalidSchedule : PySem.W.typeIn K (.ref C_InvalidSchedule) = some (.type "type"))
    (xp_InvalidSchedule : PySem.W.findIn K (.ref C_InvalidSchedule) "__getattribute__" = some (some (.builtin "BaseException.__getattribute__"))) (xq_InvalidSchedule : PySem.W.findIn K (.ref C_InvalidSchedule) "__getattr__" = some none) (xr_InvalidSchedule : PySem.W.subIn K (.ref C_InvalidSchedule) (.type "BaseException") = some true) (xs_InvalidSchedule : PySem.W.hasDictIn K C_InvalidSchedule = true) (xt_InvalidSchedule : PySem.W.findIn K (.ref C_InvalidSchedule) "__class__" = some (some (.builtin "object.__class__"))) (xu_InvalidSchedule : PySem.W.mroIn K C_InvalidSchedule (.type "object") = some true)
    {nm_InvalidSchedule q_InvalidSchedule : Str} {N_InvalidSchedule : Addr} {bs_InvalidSchedule bm_InvalidSchedule : List Value} {sn_InvalidSchedule : _} {sub_InvalidSchedule : _} {ab_InvalidSchedule : _} {col_InvalidSchedule : _} {dd_InvalidSchedule : _} {k0_InvalidSchedule : _} {k1_InvalidSchedule : _} {k2_InvalidSchedule : _} {k3_InvalidSchedule : _} {k5_InvalidSchedule : _}
    (xL_InvalidSchedule : K.lookup C_InvalidSchedule = some (excClassObj nm_InvalidSchedule q_InvalidSchedule C_InvalidSchedule N_InvalidSchedule bs_InvalidSchedule bm_InvalidSchedule true sn_InvalidSchedule sub_InvalidSchedule ab_InvalidSchedule col_InvalidSchedule dd_InvalidSchedule k0_InvalidSchedule k1_InvalidSchedule k2_InvalidSchedule k3_InvalidSchedule k5_InvalidSchedule "ValueError.__new__")) (rv_InvalidSchedule : PySem.HandSPX.refsVE bm_InvalidSchedule = true)
    {I_InvalidSchedule : Addr} {iod_InvalidSchedule ian_InvalidSchedule : Option Addr} {isl_InvalidSchedule : Array (Option Value)} {ioc_InvalidSchedule ikV_InvalidSchedule idc_InvalidSchedule ipm_InvalidSchedule icd_InvalidSchedule ict_InvalidSchedule : Value}
    (ic_InvalidSchedule : PySem.W.findIn K (.ref C_InvalidSchedule) "__init__" = some (some (.ref I_InvalidSchedule))) (oa_InvalidSchedule : PySem.W.findIn K (.ref C_InvalidSchedule) "__setattr__" = some (some (.builtin "object.__setattr__"))) (oe_InvalidSchedule : PySem.W.findIn K (.ref C_InvalidSchedule) "value" = some none) (of_InvalidSchedule : PySem.W.typeIn K (.ref I_InvalidSchedule) = some (.type "function"))
    (il_InvalidSchedule : K.lookup I_InvalidSchedule = some ⟨ioc_InvalidSchedule, iod_InvalidSchedule, .func (PySem.W.fnOf "__init__" "InvalidSchedule.__init__" (defArgs s_init_InvalidSchedule) (defBody s_init_InvalidSchedule) (defScope s_init_InvalidSchedule) .none ikV_InvalidSchedule idc_InvalidSchedule ipm_InvalidSchedule ian_InvalidSchedule icd_InvalidSchedule ict_InvalidSchedule), isl_InvalidSchedule⟩) (ie_InvalidSchedule : PySem.W.codeIn K icd_InvalidSchedule "InvalidSchedule.__init__" = true) (ik_InvalidSchedule : PySem.W.keepIn K (.ref I_InvalidSchedule) = true)
    {C_InvalidText : Addr} (ac_InvalidText : PySem.W.nsIn K mainGlobals "InvalidText" = some (some (.ref C_InvalidText))) (kc_InvalidText : PySem.W.keepIn K (.ref C_InvalidText) = true) {kd_InvalidText : ClassData} (kl_InvalidText : PySem.W.clsIn K C_InvalidText = some kd_InvalidText) (kt_InvalidText : PySem.W.typeIn K (.ref C_InvalidText) = some (.type "type"))
    (xp_InvalidText : PySem.W.findIn K (.ref C_InvalidText) "__getattribute__" = some (some (.builtin "BaseException.__getattribute__"))) (xq_InvalidText : PySem.W.findIn K (.ref C_InvalidText) "__getattr__" = some none) (xr_InvalidText : PySem.W.subIn K (.ref C_InvalidText) (.type "BaseException") = some true) (xs_InvalidText : PySem.W.hasDictIn K C_InvalidText = true) (xt_InvalidText : PySem.W.findIn K (.ref C_InvalidText) "__class__" = some (some (.builtin "object.__class__"))) (xu_InvalidText : PySem.W.mroIn K C_InvalidText (.type "object") = some true)
    {nm_InvalidText q_InvalidText : Str} {N_InvalidText : Addr} {bs_InvalidText bm_InvalidText : List Value} {sn_InvalidText : _} {sub_InvalidText : _} {ab_InvalidText : _} {col_InvalidText : _} {dd_InvalidText : _} {k0_InvalidText : _} {k1_InvalidText : _} {k2_InvalidText : _} {k3_InvalidText : _} {k5_InvalidText : _}
    (xL_InvalidText : K.lookup C_InvalidText = some (excClassObj nm_InvalidText q_InvalidText C_InvalidText N_InvalidText bs_InvalidText bm_InvalidText true sn_InvalidText sub_InvalidText ab_InvalidText col_InvalidText dd_InvalidText k0_InvalidText k1_InvalidText k2_InvalidText k3_InvalidText k5_InvalidText "ValueError.__new__")) (rv_InvalidText : PySem.HandSPX.refsVE bm_InvalidText = true)
    {I_InvalidText : Addr} {iod_InvalidText ian_InvalidText : Option Addr} {isl_InvalidText : Array (Option Value)} {ioc_InvalidText ikV_InvalidText idc_InvalidText ipm_InvalidText icd_InvalidText ict_InvalidText : Value}
    (ic_InvalidText : PySem.W.findIn K (.ref C_InvalidText) "__init__" = some (some (.ref I_InvalidText))) (oa_InvalidText : PySem.W.findIn K (.ref C_InvalidText) "__setattr__" = some (some (.builtin "object.__setattr__"))) (oe_InvalidText : PySem.W.findIn K (.ref C_InvalidText) "value" = some none) (of_InvalidText : PySem.W.typeIn K (.ref I_InvalidText) = some (.type "function"))
    (il_InvalidText : K.lookup I_InvalidText = some ⟨ioc_InvalidText, iod_InvalidText, .func (PySem.W.fnOf "__init__" "InvalidText.__init__" (defArgs s_init_InvalidText) (defBody s_init_InvalidText) (defScope s_init_InvalidText) .none ikV_InvalidText idc_InvalidText ipm_InvalidText ian_InvalidText icd_InvalidText ict_InvalidText), isl_InvalidText⟩) (ie_InvalidText : PySem.W.codeIn K icd_InvalidText "InvalidText.__init__" = true) (ik_InvalidText : PySem.W.keepIn K (.ref I_InvalidText) = true)
    (gsp : PySem.W.specialIn K (.builtin "object.__class__") "__get__" = some (some (.builtin "getset_descriptor.__get__"))) (gta : PySem.W.takesIn K (.builtin "object.__class__") = some true) (kits : kitT [(C_InvalidSchedule, kd_InvalidSchedule.mro), (C_InvalidText, kd_InvalidText.mro)] C_MergeBudgetError = true) (kitn : decide ([C_InvalidSchedule, C_InvalidText].Nodup) = true) (kitz : decide (C_MergeBudgetError ∈ [C_InvalidSchedule, C_InvalidText]) = false)
    : ∃ (fd : FuncData) (cs : List (Addr × Addr)), (∀ p ∈ cs, h.get? p.2 = some { cls := .none, data := .fields #[] }) ∧ (∀ p ∈ cs, K.lookup p.2 = none) ∧ (∀ p ∈ cs, PySem.W.CodeHd h p.1 p.2) ∧ (∀ p ∈ cs, p.1 ≠ sysModules ∧ p.2 ≠ sysModules) ∧ (∀ (s : Shared) (v : Value), BindsTo s fd ⟨[v], []⟩ [("_law_script", v)]) ∧ (∀ base : Heap, K.In base → base.Ns mainGlobals mg → (∀ p ∈ cs, LamX.TabB base mg p.1 p.2) → FnG l.prog w K mg base CX0 8 fa fd ["_law_script"] (sp_law K cs)) ∧ ∀ (H : Hp) (a : Addr) (ns : List Int) (o : HO), ns.length ≤ 63 → SqL K H a (ns.map V.int) → H sysModules = some o → (∀ ps, o ≠ .tbl ps) → (∀ p ∈ cs, H p.2 = some (.tbl #[])) → sp_law K cs [.ref a] H (fun v _ => v = .bl true) fun _ _ _ => False := by
  have e := hfa.symm.trans (PySem.W.mg_of X G a_law)
  cases e
  have F_is_int := fun_mk (st := s_is_int) l_is_int c_is_int k_is_int
  have B_is_int := F_is_int.binds (ps := ["value"]) fun _ _ _ _ _ _ us hl => match us, hl with | [_], _ => rfl
  have F_is_count := fun_mk (st := s_is_count) l_is_count c_is_count k_is_count
  have B_is_count := F_is_count.binds (ps := ["value"]) fun _ _ _ _ _ _ us hl => match us, hl with | [_], _ => rfl
  have F_is_count_up_to := fun_mk (st := s_is_count_up_to) l_is_count_up_to c_is_count_up_to k_is_count_up_to
  have B_is_count_up_to := F_is_count_up_to.binds (ps := ["value", "most"]) fun _ _ _ _ _ _ us hl => match us, hl with | [_, _], _ => rfl
  have F_is_schedule := fun_mk (st := s_is_schedule) l_is_schedule c_is_schedule k_is_schedule
  have B_is_schedule := F_is_schedule.binds (ps := ["value"]) fun _ _ _ _ _ _ us hl => match us, hl with | [_], _ => rfl
  have F_number_in := fun_mk (st := s_number_in) l_number_in c_number_in k_number_in
  have B_number_in := F_number_in.binds (ps := ["word"]) fun _ _ _ _ _ _ us hl => match us, hl with | [_], _ => rfl
  have F_joined_words := fun_mk (st := s_joined_words) l_joined_words c_joined_words k_joined_words
  have B_joined_words := F_joined_words.binds (ps := ["words"]) fun _ _ _ _ _ _ us hl => match us, hl with | [_], _ => rfl
  have F_show_schedule := fun_mk (st := s_show_schedule) l_show_schedule c_show_schedule k_show_schedule
  have B_show_schedule := F_show_schedule.binds (ps := ["schedule"]) fun _ _ _ _ _ _ us hl => match us, hl with | [_], _ => rfl
  have F_read_schedule := fun_mk (st := s_read_schedule) l_read_schedule c_read_schedule k_read_schedule
  have B_read_schedule := F_read_schedule.binds (ps := ["text"]) fun _ _ _ _ _ _ us hl => match us, hl with | [_], _ => rfl
  have F_L_start_draws := fun_mk (st := s_L_start_draws) l_L_start_draws c_L_start_draws k_L_start_draws
  have B_L_start_draws := F_L_start_draws.binds (ps := ["_law_script", "_law_nth"]) fun _ _ _ _ _ _ us hl => match us, hl with | [_, _], _ => rfl
  have F_L_next := fun_mk (st := s_L_next) l_L_next c_L_next k_L_next
  have B_L_next := F_L_next.binds (ps := ["_law_deal", "_law_upto"]) fun _ _ _ _ _ _ us hl => match us, hl with | [_, _], _ => rfl
  have F_L_pick := fun_mk (st := s_L_pick) l_L_pick c_L_pick k_L_pick
  have B_L_pick := F_L_pick.binds (ps := ["_law_deal", "_law_some"]) fun _ _ _ _ _ _ us hl => match us, hl with | [_, _], _ => rfl
  have F_L_odd := fun_mk (st := s_L_odd) l_L_odd c_L_odd k_L_odd
  have B_L_odd := F_L_odd.binds (ps := ["_law_deal"]) fun _ _ _ _ _ _ us hl => match us, hl with | [_], _ => rfl
  have F_L_count_in := fun_mk (st := s_L_count_in) l_L_count_in c_L_count_in k_L_count_in
  have B_L_count_in := F_L_count_in.binds (ps := ["_law_word"]) fun _ _ _ _ _ _ us hl => match us, hl with | [_], _ => rfl
  have F_L_schedule := fun_mk (st := s_L_schedule) l_L_schedule c_L_schedule k_L_schedule
  have B_L_schedule := F_L_schedule.binds (ps := ["_law_deal", "_law_size"]) fun _ _ _ _ _ _ us hl => match us, hl with | [_, _], _ => rfl
  have F_L_is_schedule := fun_mk (st := s_L_is_schedule) l_L_is_schedule c_L_is_schedule k_L_is_schedule
  have B_L_is_schedule := F_L_is_schedule.binds (ps := ["_law_thing"]) fun _ _ _ _ _ _ us hl => match us, hl with | [_], _ => rfl
  have F_L_expected := fun_mk (st := s_L_expected) l_L_expected c_L_expected k_L_expected
  have B_L_expected := F_L_expected.binds (ps := ["_law_thing"]) fun _ _ _ _ _ _ us hl => match us, hl with | [_], _ => rfl
  have F_L_told := fun_mk (st := s_L_told) l_L_told c_L_told k_L_told
  have B_L_told := F_L_told.binds (ps := ["_law_ask"]) fun _ _ _ _ _ _ us hl => match us, hl with | [_], _ => rfl
  have F_L_bent := fun_mk (st := s_L_bent) l_L_bent c_L_bent k_L_bent
  have B_L_bent := F_L_bent.binds (ps := ["_law_deal", "_law_page"]) fun _ _ _ _ _ _ us hl => match us, hl with | [_, _], _ => rfl
  have F_law := fun_mk (st := s_law) l_law c_law k_law
  have B_law := F_law.binds (ps := ["_law_script"]) fun _ _ _ _ _ _ us hl => match us, hl with | [_], _ => rfl
  have FI_InvalidSchedule := fun_mk (st := s_init_InvalidSchedule) il_InvalidSchedule ie_InvalidSchedule ik_InvalidSchedule
  have BI_InvalidSchedule := FI_InvalidSchedule.binds (ps := ["self", "value"]) fun _ _ _ _ _ _ us hl => match us, hl with | [_, _], _ => rfl
  have FI_InvalidText := fun_mk (st := s_init_InvalidText) il_InvalidText ie_InvalidText ik_InvalidText
  have BI_InvalidText := FI_InvalidText.binds (ps := ["self", "value"]) fun _ _ _ _ _ _ us hl => match us, hl with | [_, _], _ => rfl
  have KT := kitB_mk (K := K) (m := C_MergeBudgetError) [(C_InvalidSchedule, kd_InvalidSchedule), (C_InvalidText, kd_InvalidText)] (by simp only [List.forall_mem_cons, List.not_mem_nil, false_implies, implies_true, and_true]; exact ⟨⟨kl_InvalidSchedule, kt_InvalidSchedule⟩, ⟨kl_InvalidText, kt_InvalidText⟩⟩) kl_MergeBudgetError kt_MergeBudgetError kits
  let TX : Tx K mg := ⟨_, _, F_is_int, PySem.W.mg_of X G a_is_int, B_is_int, _, _, F_is_count, PySem.W.mg_of X G a_is_count, B_is_count, _, _, F_is_count_up_to, PySem.W.mg_of X G a_is_count_up_to, B_is_count_up_to, _, _, F_is_schedule, PySem.W.mg_of X G a_is_schedule, B_is_schedule, _, _, F_number_in, PySem.W.mg_of X G a_number_in, B_number_in, _, _, F_joined_words, PySem.W.mg_of X G a_joined_words, B_joined_words, _, _, F_show_schedule, PySem.W.mg_of X G a_show_schedule, B_show_schedule, _, _, F_read_schedule, PySem.W.mg_of X G a_read_schedule, B_read_schedule, _, _, F_L_start_draws, PySem.W.mg_of X G a_L_start_draws, B_L_start_draws, _, _, F_L_next, PySem.W.mg_of X G a_L_next, B_L_next, _, _, F_L_pick, PySem.W.mg_of X G a_L_pick, B_L_pick, _, _, F_L_odd, PySem.W.mg_of X G a_L_odd, B_L_odd, _, _, F_L_count_in, PySem.W.mg_of X G a_L_count_in, B_L_count_in, _, _, F_L_schedule, PySem.W.mg_of X G a_L_schedule, B_L_schedule, _, _, F_L_is_schedule, PySem.W.mg_of X G a_L_is_schedule, B_L_is_schedule, _, _, F_L_expected, PySem.W.mg_of X G a_L_expected, B_L_expected, _, _, F_L_told, PySem.W.mg_of X G a_L_told, B_L_told, _, _, F_L_bent, PySem.W.mg_of X G a_L_bent, B_L_bent, _, _, F_law, PySem.W.mg_of X G a_law, B_law, PySem.W.mg_none_of X G z_isinstance, PySem.W.mg_none_of X G z_int, PySem.W.mg_none_of X G z_bool, PySem.W.mg_none_of X G z_tuple, PySem.W.mg_none_of X G z_len, PySem.W.mg_none_of X G z_all, PySem.W.mg_none_of X G z_str, PySem.W.mg_none_of X G z_abs, PySem.W.mg_none_of X G z_range, PySem.W.mg_none_of X G z_max, PySem.W.mg_none_of X G z_min, PySem.W.mg_none_of X G z_list, PySem.W.mg_none_of X G z_repr, _, PySem.W.mg_of X G ac_MergeBudgetError, kc_MergeBudgetError, ⟨xp_MergeBudgetError, xq_MergeBudgetError, xr_MergeBudgetError, xs_MergeBudgetError, xt_MergeBudgetError, gsp, gta, xu_MergeBudgetError⟩, ⟨xp_MergeBudgetError, xq_MergeBudgetError, xr_MergeBudgetError, xs_MergeBudgetError⟩, xi_MergeBudgetError, _, PySem.W.mg_of X G ac_InvalidSchedule, kc_InvalidSchedule, ⟨xp_InvalidSchedule, xq_InvalidSchedule, xr_InvalidSchedule, xs_InvalidSchedule, xt_InvalidSchedule, gsp, gta, xu_InvalidSchedule⟩, ⟨xp_InvalidSchedule, xq_InvalidSchedule, xr_InvalidSchedule, xs_InvalidSchedule⟩, ⟨⟨_, _, _, _, _, _, _, _, _, _, _, _, _, _, _, xL_InvalidSchedule, rv_InvalidSchedule⟩, oa_InvalidSchedule, xr_InvalidSchedule, kt_InvalidSchedule, kc_InvalidSchedule⟩, oe_InvalidSchedule, _, _, ic_InvalidSchedule, of_InvalidSchedule, FI_InvalidSchedule, BI_InvalidSchedule, _, PySem.W.mg_of X G ac_InvalidText, kc_InvalidText, ⟨xp_InvalidText, xq_InvalidText, xr_InvalidText, xs_InvalidText, xt_InvalidText, gsp, gta, xu_InvalidText⟩, ⟨xp_InvalidText, xq_InvalidText, xr_InvalidText, xs_InvalidText⟩, ⟨⟨_, _, _, _, _, _, _, _, _, _, _, _, _, _, _, xL_InvalidText, rv_InvalidText⟩, oa_InvalidText, xr_InvalidText, kt_InvalidText, kc_InvalidText⟩, oe_InvalidText, _, _, ic_InvalidText, of_InvalidText, FI_InvalidText, BI_InvalidText, KT, of_decide_eq_true kitn, of_decide_eq_false kitz, cdA, ptA, ⟨_, _, _, _, _, _, _, _, rfl, l_law, c_law⟩, _, PySem.W.mg_of X G y_MOST_FLUSHES, _, PySem.W.mg_of X G y_MOST_DIGITS, _, PySem.W.mg_of X G y_NOTHING⟩
  exact ⟨TX.fd_law, [(cdA, ptA)], (fun p hp => by rcases List.mem_cons.mp hp with e | hp; (rw [e]; exact tbA _ (by simp)); cases hp), (fun p hp => by rcases List.mem_cons.mp hp with e | hp; (rw [e]; exact ntA); cases hp), (fun p hp => by rcases List.mem_cons.mp hp with e | hp; (rw [e]; exact PySem.W.codeHd_of_K X hdA); cases hp), (fun p hp => by rcases List.mem_cons.mp hp with e | hp; (rw [e]; exact of_decide_eq_true nyA); cases hp), fun s v => .of_eq rfl, fun base _ _ tb => ok_law TX (tb (cdA, ptA) (by simp)), fun H a ns o h1 h2 h3 h3b h4 => ⟨a, ns, o, rfl, h2, h1, h3, h3b, h4, fun _ => rfl⟩⟩
end MB
open PySem PySem.W PyProof.Rows
set_option maxHeartbeats 0 in
theorem PySem.Challenge.cw_mergebudget_k61_schedule_texts_holds : PySem.Challenge.rw_mergebudget_k61_schedule_texts.Holds := by
  w_on; o_law; k_head; (case hw => w_witness2)
  k_fill
  refine MB.walk_ofT (l := PySem.Challenge.rw_mergebudget_k61_schedule_texts) (n := 63) (k := 8) (x := "_law_script") (sp := MB.sp_law) rfl (by decide) rfl ⟨rfl, by decide, by decide⟩ (by decide +kernel) ?KS (fun w h Y => PySem.W.km_in_of Y) ?F
  case F =>
    intro w mg fa h Y KX G hmg
    refine' MB.all_mk KX G hmg ?a_is_int ?l_is_int ?c_is_int ?k_is_int ?a_is_count ?l_is_count ?c_is_count ?k_is_count ?a_is_count_up_to ?l_is_count_up_to ?c_is_count_up_to ?k_is_count_up_to ?a_is_schedule ?l_is_schedule ?c_is_schedule ?k_is_schedule ?a_number_in ?l_number_in ?c_number_in ?k_number_in ?a_joined_words ?l_joined_words ?c_joined_words ?k_joined_words ?a_show_schedule ?l_show_schedule ?c_show_schedule ?k_show_schedule ?a_read_schedule ?l_read_schedule ?c_read_schedule ?k_read_schedule ?a_L_start_draws ?l_L_start_draws ?c_L_start_draws ?k_L_start_draws ?a_L_next ?l_L_next ?c_L_next ?k_L_next ?a_L_pick ?l_L_pick ?c_L_pick ?k_L_pick ?a_L_odd ?l_L_odd ?c_L_odd ?k_L_odd ?a_L_count_in ?l_L_count_in ?c_L_count_in ?k_L_count_in ?a_L_schedule ?l_L_schedule ?c_L_schedule ?k_L_schedule ?a_L_is_schedule ?l_L_is_schedule ?c_L_is_schedule ?k_L_is_schedule ?a_L_expected ?l_L_expected ?c_L_expected ?k_L_expected ?a_L_told ?l_L_told ?c_L_told ?k_L_told ?a_L_bent ?l_L_bent ?c_L_bent ?k_L_bent ?a_law ?l_law ?c_law ?k_law ?tbA ?hdA ?ntA ?nyA ?z_isinstance ?z_int ?z_bool ?z_tuple ?z_len ?z_all ?z_str ?z_abs ?z_range ?z_max ?z_min ?z_list ?z_repr ?y_MOST_FLUSHES ?y_MOST_DIGITS ?y_NOTHING ?ac_MergeBudgetError ?kc_MergeBudgetError ?kl_MergeBudgetError ?kt_MergeBudgetError ?xp_MergeBudgetError ?xq_MergeBudgetError ?xr_MergeBudgetError ?xs_MergeBudgetError ?xt_MergeBudgetError ?xu_MergeBudgetError ?xi_MergeBudgetError ?ac_InvalidSchedule ?kc_InvalidSchedule ?kl_InvalidSchedule ?kt_InvalidSchedule ?xp_InvalidSchedule ?xq_InvalidSchedule ?xr_InvalidSchedule ?xs_InvalidSchedule ?xt_InvalidSchedule ?xu_InvalidSchedule ?xL_InvalidSchedule ?rv_InvalidSchedule ?ic_InvalidSchedule ?oa_InvalidSchedule ?oe_InvalidSchedule ?of_InvalidSchedule ?il_InvalidSchedule ?ie_InvalidSchedule ?ik_InvalidSchedule ?ac_InvalidText ?kc_InvalidText ?kl_InvalidText ?kt_InvalidText ?xp_InvalidText ?xq_InvalidText ?xr_InvalidText ?xs_InvalidText ?xt_InvalidText ?xu_InvalidText ?xL_InvalidText ?rv_InvalidText ?ic_InvalidText ?oa_InvalidText ?oe_InvalidText ?of_InvalidText ?il_InvalidText ?ie_InvalidText ?ik_InvalidText ?gsp ?gta ?kits ?kitn ?kitz
    (case a_is_int => k_is); (case l_is_int => k_is); (case c_is_int => k_is); (case k_is_int => k_is); (case a_is_count => k_is); (case l_is_count => k_is); (case c_is_count => k_is); (case k_is_count => k_is); (case a_is_count_up_to => k_is); (case l_is_count_up_to => k_is); (case c_is_count_up_to => k_is); (case k_is_count_up_to => k_is); (case a_is_schedule => k_is); (case l_is_schedule => k_is); (case c_is_schedule => k_is); (case k_is_schedule => k_is); (case a_number_in => k_is); (case l_number_in => k_is); (case c_number_in => k_is); (case k_number_in => k_is); (case a_joined_words => k_is); (case l_joined_words => k_is); (case c_joined_words => k_is); (case k_joined_words => k_is); (case a_show_schedule => k_is); (case l_show_schedule => k_is); (case c_show_schedule => k_is); (case k_show_schedule => k_is); (case a_read_schedule => k_is); (case l_read_schedule => k_is); (case c_read_schedule => k_is); (case k_read_schedule => k_is); (case a_L_start_draws => k_is); (case l_L_start_draws => k_is); (case c_L_start_draws => k_is); (case k_L_start_draws => k_is); (case a_L_next => k_is); (case l_L_next => k_is); (case c_L_next => k_is); (case k_L_next => k_is); (case a_L_pick => k_is); (case l_L_pick => k_is); (case c_L_pick => k_is); (case k_L_pick => k_is); (case a_L_odd => k_is); (case l_L_odd => k_is); (case c_L_odd => k_is); (case k_L_odd => k_is); (case a_L_count_in => k_is); (case l_L_count_in => k_is); (case c_L_count_in => k_is); (case k_L_count_in => k_is); (case a_L_schedule => k_is); (case l_L_schedule => k_is); (case c_L_schedule => k_is); (case k_L_schedule => k_is); (case a_L_is_schedule => k_is); (case l_L_is_schedule => k_is); (case c_L_is_schedule => k_is); (case k_L_is_schedule => k_is); (case a_L_expected => k_is); (case l_L_expected => k_is); (case c_L_expected => k_is); (case k_L_expected => k_is); (case a_L_told => k_is); (case l_L_told => k_is); (case c_L_told => k_is); (case k_L_told => k_is); (case a_L_bent => k_is); (case l_L_bent => k_is); (case c_L_bent => k_is); (case k_L_bent => k_is); (case a_law => k_is); (case l_law => k_is); (case c_law => k_is); (case k_law => k_is); (case tbA => exact PySem.W.km_tabs_of Y); (case hdA => first | k_is | rfl | decide +kernel); (case ntA => first | k_is | rfl | decide +kernel); (case nyA => first | k_is | rfl | decide +kernel); (case z_isinstance => k_is); (case z_int => k_is); (case z_bool => k_is); (case z_tuple => k_is); (case z_len => k_is); (case z_all => k_is); (case z_str => k_is); (case z_abs => k_is); (case z_range => k_is); (case z_max => k_is); (case z_min => k_is); (case z_list => k_is); (case z_repr => k_is); (case y_MOST_FLUSHES => k_is); (case y_MOST_DIGITS => k_is); (case y_NOTHING => k_is); (case ac_MergeBudgetError => k_is); (case kc_MergeBudgetError => k_is); (case kl_MergeBudgetError => k_is); (case kt_MergeBudgetError => k_is); (case xp_MergeBudgetError => k_is); (case xq_MergeBudgetError => k_is); (case xr_MergeBudgetError => k_is); (case xs_MergeBudgetError => k_is); (case xt_MergeBudgetError => k_is); (case xu_MergeBudgetError => k_is); (case xi_MergeBudgetError => first | k_exc | k_is); (case ac_InvalidSchedule => k_is); (case kc_InvalidSchedule => k_is); (case kl_InvalidSchedule => k_is); (case kt_InvalidSchedule => k_is); (case xp_InvalidSchedule => k_is); (case xq_InvalidSchedule => k_is); (case xr_InvalidSchedule => k_is); (case xs_InvalidSchedule => k_is); (case xt_InvalidSchedule => k_is); (case xu_InvalidSchedule => k_is); (case xL_InvalidSchedule => k_is); (case rv_InvalidSchedule => decide +kernel); (case ic_InvalidSchedule => k_is); (case oa_InvalidSchedule => k_is); (case oe_InvalidSchedule => k_is); (case of_InvalidSchedule => k_is); (case il_InvalidSchedule => k_is); (case ie_InvalidSchedule => k_is); (case ik_InvalidSchedule => k_is); (case ac_InvalidText => k_is); (case kc_InvalidText => k_is); (case kl_InvalidText => k_is); (case kt_InvalidText => k_is); (case xp_InvalidText => k_is); (case xq_InvalidText => k_is); (case xr_InvalidText => k_is); (case xs_InvalidText => k_is); (case xt_InvalidText => k_is); (case xu_InvalidText => k_is); (case xL_InvalidText => k_is); (case rv_InvalidText => decide +kernel); (case ic_InvalidText => k_is); (case oa_InvalidText => k_is); (case oe_InvalidText => k_is); (case of_InvalidText => k_is); (case il_InvalidText => k_is); (case ie_InvalidText => k_is); (case ik_InvalidText => k_is); (case gsp => k_is); (case gta => k_is); (case kits => decide +kernel); (case kitn => decide +kernel); (case kitz => decide +kernel)
  case KS => exact fun p => by first | rfl | decide +kernel | k_is
