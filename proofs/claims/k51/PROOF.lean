import PyProof.Rows.All
import Wide.All
import OpenK.AllK
import Wide.FinOn
import HandS.ForMost
import HandS.IsInst
import HandS.Wide
import HandS.TupAny
import HandS.TupMul
import HandS.Rev
import HandS.Style
import HandS.Strs
import HandS.Walk
import KE.GoesEnum
import PyProof.ReprRoads
import PyProof.ReprBulk
import HandS.Dict
import HandS.WideMore
import HandS.WideBits
import HandS.ExcInit
import HandS.ExcField
import HandS.ExcIs
import HandS.ExcValue
import KE.KExcIs
import HandS.Exc
import HandS.Lambda
import HandS.WordsExc
import KE.DataFind
import HandS.TryOnly
import HandS.ExcOwn
import HandS.EndTab
import KE.KNestM
import HandS.List
import HandS.Conv
import HandS.SortKw
import HandS.SortInts
import KE.DataMinMax
import KE.DatumOrd
import HandS.RevRange
import HandS.Zip
import KE.GoesZip
import KE.GoesMore
import HandS.TupSets
import KE.KDictPairs
import HandS.Deep
import PyProof.Rows.IntBool
import PyProof.Rows.EqBoolInt
import HandS.Defaults
import HandS.MakeKwOnly
import HandS.OwnEq
import PyProof.InstSpecial
import HandS.DeepEq
import HandS.Iter
import HandS.WrittenGet
import HandS.Small
import HandS.More
import HandS.DictTup
import KE.KDictZip
import PySem.Challenge.RW_mergebudget_k51_stores_created
set_option Elab.async false
set_option linter.all false
set_option maxRecDepth 100000
namespace MB
inductive T where
  | nil
  | node (l r : T)
  deriving DecidableEq

namespace T
def size : T → Nat
  | nil => 0
  | node l r => l.size + 1 + r.size
def runs : T → Nat
  | nil => 0
  | node _ r => 1 + r.runs
def sch : T → List Nat
  | nil => []
  | node l r => l.sch ++ l.runs :: r.sch
def rc : T → List Nat
  | nil => []
  | node l r => l.rc ++ 1 :: r.rc.map (· + 1)
def wr : T → List Nat
  | nil => []
  | node l r => l.wr.map (· + 1) ++ 1 :: r.wr
/-- parents: off, the number of the first node; p, the parent of the root -/
def par (off p : Int) : T → List Int
  | nil => []
  | node l r => par off (off + l.size) l ++ p :: par (off + l.size + 1) (off + l.size) r
def mir : T → T
  | nil => nil
  | node l r => node r.mir l.mir
def push (t : T) (m : Nat) : T :=
  if m = t.runs then node t nil else match t with
    | nil => nil
    | node l r => node l (push r m)
/-- the first flush of the run that a flush that merges m writes -/
def start (t : T) (m : Nat) : Nat :=
  if m = t.runs then 0 else match t with
    | nil => 0
    | node l r => l.size + 1 + start r m
/-- the stack: intervals of the right spine -/
def stk (off : Nat) : T → List (Nat × Nat)
  | nil => []
  | node l r => (off, off + l.size + 1) :: stk (off + l.size + 1) r
def graft : T → T → T
  | nil, t => t
  | node l r, t => node l (graft r t)

theorem sch_len : ∀ t : T, t.sch.length = t.size
  | nil => rfl
  | node l r => by simp [sch, size, sch_len l, sch_len r]; omega
theorem rc_len : ∀ t : T, t.rc.length = t.size
  | nil => rfl
  | node l r => by simp [rc, size, rc_len l, rc_len r]; omega
theorem wr_len : ∀ t : T, t.wr.length = t.size
  | nil => rfl
  | node l r => by simp [wr, size, wr_len l, wr_len r]; omega
theorem par_len : ∀ (t : T) (off p : Int), (t.par off p).length = t.size
  | nil, _, _ => rfl
  | node l r, off, p => by simp [par, size, par_len l, par_len r]; omega
theorem runs_le : ∀ t : T, t.runs ≤ t.size
  | nil => Nat.le_refl _
  | node l r => by have := runs_le r; simp [runs, size]; omega
theorem sum_sch : ∀ t : T, t.sch.sum + t.runs = t.size
  | nil => rfl
  | node l r => by
    have h1 := sum_sch l; have h2 := sum_sch r
    simp [sch, runs, size, List.sum_append]; omega
theorem stk_len : ∀ (t : T) (off : Nat), (t.stk off).length = t.runs
  | nil, _ => rfl
  | node l r, off => by simp [stk, runs, stk_len r]; omega

/-! ### push -/
theorem push_eq {t : T} : t.push t.runs = node t nil := by
  unfold push; rw [if_pos rfl]
theorem push_node {l r : T} {m : Nat} (h : m ≤ r.runs) : (node l r).push m = node l (r.push m) := by
  conv => lhs; unfold push
  rw [if_neg (by simp [runs]; omega)]
theorem start_eq {t : T} : t.start t.runs = 0 := by
  unfold start; rw [if_pos rfl]
theorem start_node {l r : T} {m : Nat} (h : m ≤ r.runs) : (node l r).start m = l.size + 1 + r.start m := by
  conv => lhs; unfold start
  rw [if_neg (by simp [runs]; omega)]
/-- the two ways of a push -/
theorem push_ind {C : T → Nat → Prop} (h1 : ∀ t, C t t.runs) (h2 : ∀ l r m, m ≤ r.runs → C r m → C (node l r) m) : ∀ (t : T) (m : Nat), m ≤ t.runs → C t m
  | nil, m, h => by
    have : m = nil.runs := by simp [runs] at h ⊢; omega
    rw [this]; exact h1 nil
  | node l r, m, h => by
    by_cases e : m = (node l r).runs
    · rw [e]; exact h1 _
    · have hm : m ≤ r.runs := by simp [runs] at h e; omega
      exact h2 l r m hm (push_ind h1 h2 r m hm)
theorem push_sch : ∀ (t : T) (m : Nat), m ≤ t.runs → (t.push m).sch = t.sch ++ [m] :=
  push_ind (fun t => by rw [push_eq]; simp [sch]) fun l r m h ih => by rw [push_node h]; simp [sch, ih]
theorem push_size : ∀ (t : T) (m : Nat), m ≤ t.runs → (t.push m).size = t.size + 1 :=
  push_ind (fun t => by rw [push_eq]; simp [size]) fun l r m h ih => by rw [push_node h]; simp [size, ih]; omega
theorem push_runs : ∀ (t : T) (m : Nat), m ≤ t.runs → (t.push m).runs = t.runs - m + 1 :=
  push_ind (fun t => by rw [push_eq]; simp [runs]) fun l r m h ih => by rw [push_node h]; simp [runs, ih]; omega
theorem push_rc : ∀ (t : T) (m : Nat), m ≤ t.runs → (t.push m).rc = t.rc ++ [t.runs - m + 1] :=
  push_ind (fun t => by rw [push_eq]; simp [rc]) fun l r m h ih => by
    rw [push_node h]; simp [rc, ih, runs]; omega
theorem start_le : ∀ (t : T) (m : Nat), m ≤ t.runs → t.start m ≤ t.size :=
  push_ind (fun t => by rw [start_eq]; omega) fun l r m h ih => by rw [start_node h]; simp [size]; omega
theorem push_wr : ∀ (t : T) (m : Nat), m ≤ t.runs → (t.push m).wr = t.wr.take (t.start m) ++ ((t.wr.drop (t.start m)).map (· + 1) ++ [1]) :=
  push_ind (fun t => by rw [push_eq, start_eq]; simp [wr]) fun l r m h ih => by
    rw [push_node h, start_node h]
    have e : (wr (node l r)) = (l.wr.map (· + 1) ++ [1]) ++ r.wr := by simp [wr]
    have el : (l.wr.map (· + 1) ++ [1]).length = l.size + 1 := by simp [wr_len]
    rw [e, List.take_append, List.drop_append, el]
    rw [List.take_of_length_le (by rw [el]; omega), List.drop_eq_nil_of_le (by rw [el]; omega)]
    rw [show l.size + 1 + r.start m - (l.size + 1) = r.start m by omega]
    simp [wr, ih]
theorem stk_push : ∀ (t : T) (m : Nat), m ≤ t.runs → ∀ off, (t.push m).stk off = (t.stk off).take (t.runs - m) ++ [(off + t.start m, off + t.size + 1)] :=
  push_ind (fun t off => by rw [push_eq, start_eq]; simp [stk]) fun l r m h ih off => by
    rw [push_node h, start_node h]
    have hh : (node l r).runs - m = (r.runs - m) + 1 := by simp [runs]; omega
    rw [hh]
    simp [stk, ih, size]
    omega
theorem stk_at : ∀ (t : T) (m : Nat), m ≤ t.runs → ∀ off, 0 < m → ∃ e, (t.stk off)[t.runs - m]? = some (off + t.start m, e) :=
  push_ind (fun t off h => by
      rw [start_eq, Nat.sub_self]
      cases t with
      | nil => simp [runs] at h
      | node l r => exact ⟨_, rfl⟩) fun l r m h ih off h0 => by
    rw [start_node h]
    have hh : (node l r).runs - m = (r.runs - m) + 1 := by simp [runs]; omega
    rw [hh]
    obtain ⟨e, he⟩ := ih (off + l.size + 1) h0
    refine ⟨e, ?_⟩
    simp only [stk, List.getElem?_cons_succ, he]
    congr 2; omega
theorem start_zero : ∀ (t : T) (m : Nat), m ≤ t.runs → m = 0 → t.start m = t.size :=
  push_ind (fun t h => by
      rw [start_eq]
      cases t with
      | nil => rfl
      | node l r => simp [runs] at h) fun l r m h ih h0 => by
    rw [start_node h, ih h0]; simp [size]

/-! ### schedules and trees -/
theorem graft_nil : ∀ t : T, t.graft nil = t
  | nil => rfl
  | node l r => by simp [graft, graft_nil r]
theorem graft_assoc : ∀ a b c : T, (a.graft b).graft c = a.graft (b.graft c)
  | nil, _, _ => rfl
  | node l r, b, c => by simp [graft, graft_assoc r b c]
theorem graft_runs : ∀ a b : T, (a.graft b).runs = a.runs + b.runs
  | nil, b => by simp [graft, runs]
  | node l r, b => by simp [graft, runs, graft_runs r b]; omega
theorem graft_push : ∀ (u l : T), (u.graft l).push l.runs = u.graft (node l nil)
  | nil, l => by simp [graft, push_eq]
  | node a b, l => by
    simp only [graft]
    rw [push_node (by rw [graft_runs]; omega), graft_push b l]
theorem foldl_sch : ∀ (t u : T), t.sch.foldl push u = u.graft t
  | nil, u => by simp [sch, graft_nil]
  | node l r, u => by
    simp only [sch, List.foldl_append, List.foldl_cons]
    rw [foldl_sch l u, graft_push, foldl_sch r, graft_assoc]
    rfl
theorem sch_inj {a b : T} (h : a.sch = b.sch) : a = b := by
  have e1 := foldl_sch a nil
  have e2 := foldl_sch b nil
  rw [h, e2] at e1
  exact e1.symm
end T

/-- a schedule that begins with `runs` runs -/
def Ok : Nat → List Nat → Prop
  | _, [] => True
  | k, m :: r => m ≤ k ∧ Ok (k - m + 1) r
theorem ok_tree : ∀ (p : List Nat) (u : T), Ok u.runs p → ∃ t : T, t.sch = u.sch ++ p ∧ p.foldl T.push u = t
  | [], u, _ => ⟨u, by simp, rfl⟩
  | m :: r, u, h => by
    obtain ⟨h1, h2⟩ := h
    rw [← T.push_runs u m h1] at h2
    obtain ⟨t, e1, e2⟩ := ok_tree r (u.push m) h2
    exact ⟨t, by rw [e1, T.push_sch u m h1]; simp, e2⟩
theorem tree_ex {p : List Nat} (h : Ok 0 p) : ∃ t : T, t.sch = p := by
  obtain ⟨t, e, _⟩ := ok_tree p .nil h
  exact ⟨t, by rw [e]; rfl⟩
theorem ok_app : ∀ (p q : List Nat) (k k' : Nat), Ok k p → k' + p.sum = k + p.length → Ok k' q → Ok k (p ++ q)
  | [], q, k, k', _, e, h => by
    have : k' = k := by simpa using e
    subst this; exact h
  | m :: r, q, k, k', h, e, hq => ⟨h.1, ok_app r q (k - m + 1) k' h.2 (by have := h.1; simp at e; omega) hq⟩
theorem ok_sch_from : ∀ (t : T) (k : Nat), Ok k t.sch
  | .nil, _ => trivial
  | .node l r, k => by
    refine ok_app l.sch _ k (k + l.runs) (ok_sch_from l k) (by have := T.sum_sch l; rw [T.sch_len]; omega) ?_
    exact ⟨by omega, ok_sch_from r _⟩
theorem ok_take : ∀ (p : List Nat) (k i : Nat), Ok k p → Ok k (p.take i)
  | [], _, i, _ => by cases i <;> trivial
  | m :: r, k, 0, _ => trivial
  | m :: r, k, i + 1, h => ⟨h.1, ok_take r _ i h.2⟩
/-- the tree of the first i flushes -/
def pre (t : T) (i : Nat) : T := (t.sch.take i).foldl T.push .nil
theorem pre_sch (t : T) (i : Nat) : (pre t i).sch = t.sch.take i := by
  obtain ⟨u, e1, e2⟩ := ok_tree (t.sch.take i) .nil (ok_take _ _ i (ok_sch_from t _))
  unfold pre; rw [e2, e1]; rfl
theorem pre_size {t : T} {i : Nat} (h : i ≤ t.size) : (pre t i).size = i := by
  rw [← T.sch_len, pre_sch, List.length_take, T.sch_len]; omega
theorem pre_zero (t : T) : pre t 0 = .nil := rfl
theorem pre_all (t : T) : pre t t.size = t := T.sch_inj (by rw [pre_sch, List.take_of_length_le (by rw [T.sch_len]; exact Nat.le_refl _)])
theorem ok_last : ∀ (p : List Nat) (k m : Nat) (q : List Nat), Ok k (p ++ m :: q) → m + p.sum ≤ k + p.length
  | [], k, m, q, h => by simpa using h.1
  | a :: r, k, m, q, h => by
    have := ok_last r (k - a + 1) m q h.2
    have h1 := h.1
    simp; omega
theorem pre_succ {t : T} {i : Nat} {m : Nat} (h : t.sch[i]? = some m) : pre t (i + 1) = (pre t i).push m ∧ m ≤ (pre t i).runs := by
  have hi : i < t.sch.length := (List.getElem?_eq_some_iff.mp h).1
  constructor
  · unfold pre
    rw [List.take_add_one, h]
    simp
  · have e : t.sch = t.sch.take i ++ m :: t.sch.drop (i + 1) := by
      have h2 := List.getElem?_eq_some_iff.mp h
      obtain ⟨h3, h4⟩ := h2
      rw [← h4]
      simp
    have h1 := ok_sch_from t 0
    rw [e] at h1
    have h2 := ok_last _ _ _ _ h1
    have h3 := T.sum_sch (pre t i)
    rw [pre_sch] at h3
    have h4 : (pre t i).size = (t.sch.take i).length := by rw [← T.sch_len, pre_sch]
    omega
theorem rc_take : ∀ (t : T) (i : Nat), (pre t i).rc = t.rc.take i := by
  intro t i
  by_cases hi : i ≤ t.size
  · suffices h : ∀ k, i + k = t.size → (pre t i).rc = t.rc.take i from h (t.size - i) (by omega)
    intro k
    induction k generalizing i with
    | zero =>
      intro e
      rw [show i = t.size by omega, pre_all, List.take_of_length_le (by rw [T.rc_len]; omega)]
    | succ k ih =>
      intro e
      have hl : i < t.sch.length := by rw [T.sch_len]; omega
      obtain ⟨e1, h1⟩ := pre_succ (List.getElem?_eq_getElem hl)
      have h2 := ih (i + 1) (by omega) (by omega)
      rw [e1, T.push_rc _ _ h1] at h2
      have h3 := congrArg (List.take i) h2
      rw [List.take_append_of_le_length (by rw [T.rc_len, pre_size (by omega)]; omega), List.take_take, List.take_of_length_le (by rw [T.rc_len, pre_size (by omega)]; omega)] at h3
      rw [h3]; congr 1; omega
  · have e : t.sch.take i = t.sch := List.take_of_length_le (by rw [T.sch_len]; omega)
    have : pre t i = t := T.sch_inj (by rw [pre_sch, e])
    rw [this, List.take_of_length_le (by rw [T.rc_len]; omega)]
theorem rc_at {t : T} {i m : Nat} (h : t.sch[i]? = some m) : t.rc[i]? = some ((pre t i).runs - m + 1) := by
  obtain ⟨e1, h1⟩ := pre_succ h
  have hi : i < t.size := by rw [← T.sch_len]; exact (List.getElem?_eq_some_iff.mp h).1
  have h2 := rc_take t (i + 1)
  rw [e1, T.push_rc _ _ h1] at h2
  have h3 := congrArg (fun l : List Nat => l[i]?) h2
  simp only [List.getElem?_take] at h3
  rw [List.getElem?_append_right (by rw [T.rc_len, pre_size (by omega)]; omega), T.rc_len, pre_size (by omega)] at h3
  simp at h3
  exact h3.symm
theorem pre_runs {t : T} {i : Nat} (h : i < t.size) : t.rc[i]? = some (pre t (i + 1)).runs := by
  have hl : i < t.sch.length := by rw [T.sch_len]; exact h
  obtain ⟨e1, h1⟩ := pre_succ (List.getElem?_eq_getElem hl)
  rw [rc_at (List.getElem?_eq_getElem hl), e1, T.push_runs _ _ h1]
/-! ### write counts by place -/
theorem wr_step {t : T} {m : Nat} (h : m ≤ t.runs) (k : Nat) : ((t.push m).wr.getD k 0) = if t.start m ≤ k ∧ k < t.size + 1 then t.wr.getD k 0 + 1 else t.wr.getD k 0 := by
  have hs := T.start_le t m h
  have hl := T.wr_len t
  rw [T.push_wr t m h]
  simp only [List.getD_eq_getElem?_getD]
  by_cases h1 : k < t.start m
  · rw [List.getElem?_append_left (by rw [List.length_take]; omega), List.getElem?_take, if_pos h1, if_neg (by omega)]
  · have e : (t.wr.take (t.start m)).length = t.start m := by rw [List.length_take]; omega
    rw [List.getElem?_append_right (by omega), e]
    by_cases h2 : k < t.size
    · rw [List.getElem?_append_left (by rw [List.length_map, List.length_drop]; omega), List.getElem?_map, List.getElem?_drop, if_pos (by omega), show t.start m + (k - t.start m) = k by omega]
      rw [List.getElem?_eq_getElem (by omega)]
      rfl
    · by_cases h3 : k = t.size
      · have e2 : ((t.wr.drop (t.start m)).map (· + 1)).length = k - t.start m := by rw [List.length_map, List.length_drop]; omega
        rw [List.getElem?_append_right (by omega), e2, Nat.sub_self, if_pos (by omega), List.getElem?_eq_none (by omega : t.wr.length ≤ k)]
        rfl
      · rw [List.getElem?_eq_none (by simp; omega), if_neg (by omega), List.getElem?_eq_none (by omega : t.wr.length ≤ k)]
theorem list_by {c d : List Nat} (hl : c.length = d.length) (h : ∀ k, k < c.length → c[k]? = some (d.getD k 0)) : c = d := by
  refine List.ext_getElem? fun k => ?_
  by_cases hk : k < c.length
  · rw [h k hk, List.getD_eq_getElem?_getD, List.getElem?_eq_getElem (by omega)]
    rfl
  · rw [List.getElem?_eq_none (by omega), List.getElem?_eq_none (by omega)]
theorem stk_last {t : T} {i m : Nat} (h : t.sch[i]? = some m) : (pre t (i + 1)).stk 0 = ((pre t i).stk 0).take ((pre t i).runs - m) ++ [((pre t i).start m, i + 1)] := by
  obtain ⟨e, h1⟩ := pre_succ h
  have hi : i < t.size := by rw [← T.sch_len]; exact (List.getElem?_eq_some_iff.mp h).1
  rw [e, T.stk_push _ _ h1, Nat.zero_add, Nat.zero_add, pre_size (by omega)]

/-! ### subtrees -/
inductive Sub (t : T) : Nat → T → Nat → Int → Prop
  | root : Sub t 0 t 1 (-1)
  | left {off k : Nat} {p : Int} {l r : T} : Sub t off (.node l r) k p → Sub t off l k ((off + l.size : Nat) : Int)
  | right {off k : Nat} {p : Int} {l r : T} : Sub t off (.node l r) k p → Sub t (off + l.size + 1) r (k + 1) ((off + l.size : Nat) : Int)
def T.parOf (t : T) : List Int := t.par 0 (-1)
theorem slice_left {α : Type} {L a b : List α} {x : α} {off : Nat} (h : (L.drop off).take (a.length + 1 + b.length) = a ++ x :: b) : (L.drop off).take a.length = a := by
  have := congrArg (List.take a.length) h
  rw [List.take_take, List.take_left' rfl, show min a.length (a.length + 1 + b.length) = a.length by omega] at this
  exact this
theorem slice_mid {α : Type} {L a b : List α} {x : α} {off : Nat} (h : (L.drop off).take (a.length + 1 + b.length) = a ++ x :: b) : L[off + a.length]? = some x := by
  have := congrArg (fun l : List α => l[a.length]?) h
  simp only [List.getElem?_take, List.getElem?_drop] at this
  rw [if_pos (by omega), List.getElem?_append_right (Nat.le_refl _), Nat.sub_self] at this
  simpa using this
theorem slice_right {α : Type} {L a b : List α} {x : α} {off : Nat} (h : (L.drop off).take (a.length + 1 + b.length) = a ++ x :: b) : (L.drop (off + a.length + 1)).take b.length = b := by
  have := congrArg (List.drop (a.length + 1)) h
  rw [List.drop_take, List.drop_drop] at this
  have e2 : List.drop (a.length + 1) (a ++ x :: b) = b := by
    rw [List.drop_append]; simp
  rw [e2] at this
  have h2 := congrArg (List.take b.length) this
  rw [List.take_take, List.take_length] at h2
  rw [← Nat.add_assoc] at h2
  rw [show b.length = min b.length (a.length + 1 + b.length - (a.length + 1)) by omega]
  exact h2
theorem sub_le {t : T} {off k : Nat} {s : T} {p : Int} (h : Sub t off s k p) : off + s.size ≤ t.size ∧ 1 ≤ k ∧ k ≤ off + 1 := by
  induction h with
  | root => exact ⟨by omega, by omega, by omega⟩
  | left _ ih => simp only [T.size] at ih; omega
  | right _ ih => simp only [T.size] at ih; omega
theorem sub_out {t : T} {off k : Nat} {s : T} {p : Int} (h : Sub t off s k p) : (p = -1 ∨ ((0 ≤ p ∧ p < t.size) ∧ (p + 1 = off ∨ p = ((off + s.size : Nat) : Int)))) := by
  cases h with
  | root => exact .inl rfl
  | left h => have := sub_le h; simp only [T.size] at this; exact .inr ⟨by omega, .inr rfl⟩
  | right h => have := sub_le h; simp only [T.size] at this; exact .inr ⟨by omega, .inl (by omega)⟩
theorem sub_rc {t : T} {off k : Nat} {s : T} {p : Int} (h : Sub t off s k p) : (t.rc.drop off).take s.size = s.rc.map (· + (k - 1)) := by
  induction h with
  | root => simp [← T.rc_len]
  | @left off k p l r h ih =>
    have e : (T.node l r).rc.map (· + (k - 1)) = l.rc.map (· + (k - 1)) ++ (1 + (k - 1)) :: (r.rc.map (· + 1)).map (· + (k - 1)) := by simp [T.rc]
    rw [e] at ih
    have hl : (l.rc.map (· + (k - 1))).length = l.size := by rw [List.length_map, T.rc_len]
    have hr : ((r.rc.map (· + 1)).map (· + (k - 1))).length = r.size := by rw [List.length_map, List.length_map, T.rc_len]
    have := slice_left (a := l.rc.map (· + (k - 1))) (b := (r.rc.map (· + 1)).map (· + (k - 1))) (L := t.rc) (off := off) (x := 1 + (k - 1)) (by rw [hl, hr]; exact ih)
    rw [hl] at this
    exact this
  | @right off k p l r h ih =>
    have e : (T.node l r).rc.map (· + (k - 1)) = l.rc.map (· + (k - 1)) ++ (1 + (k - 1)) :: (r.rc.map (· + 1)).map (· + (k - 1)) := by simp [T.rc]
    rw [e] at ih
    have hl : (l.rc.map (· + (k - 1))).length = l.size := by rw [List.length_map, T.rc_len]
    have hr : ((r.rc.map (· + 1)).map (· + (k - 1))).length = r.size := by rw [List.length_map, List.length_map, T.rc_len]
    have := slice_right (a := l.rc.map (· + (k - 1))) (b := (r.rc.map (· + 1)).map (· + (k - 1))) (L := t.rc) (off := off) (x := 1 + (k - 1)) (by rw [hl, hr]; exact ih)
    rw [hl, hr] at this
    rw [this, List.map_map]
    refine List.map_congr_left fun a _ => ?_
    have := (sub_le h).2.1
    simp only [Function.comp]
    omega
theorem sub_par {t : T} {off k : Nat} {s : T} {p : Int} (h : Sub t off s k p) : (t.parOf.drop off).take s.size = s.par (off : Int) p := by
  induction h with
  | root => simp only [T.parOf]; rw [List.drop_zero, List.take_of_length_le (by rw [T.par_len]; omega)]; rfl
  | @left off k p l r h ih =>
    simp only [T.par] at ih
    have hl := T.par_len l (off : Int) ((off : Int) + l.size)
    have hr := T.par_len r ((off : Int) + l.size + 1) ((off : Int) + l.size)
    have := slice_left (a := l.par (off : Int) ((off : Int) + l.size)) (b := r.par ((off : Int) + l.size + 1) ((off : Int) + l.size)) (L := t.parOf) (off := off) (x := p) (by rw [hl, hr]; exact ih)
    rw [hl] at this
    rw [this, Int.natCast_add]
  | @right off k p l r h ih =>
    simp only [T.par] at ih
    have hl := T.par_len l (off : Int) ((off : Int) + l.size)
    have hr := T.par_len r ((off : Int) + l.size + 1) ((off : Int) + l.size)
    have := slice_right (a := l.par (off : Int) ((off : Int) + l.size)) (b := r.par ((off : Int) + l.size + 1) ((off : Int) + l.size)) (L := t.parOf) (off := off) (x := p) (by rw [hl, hr]; exact ih)
    rw [hl, hr] at this
    rw [this]
    simp only [Int.natCast_add]
    rfl
theorem sub_root {t : T} {off k : Nat} {l r : T} {p : Int} (h : Sub t off (.node l r) k p) : t.parOf[off + l.size]? = some p := by
  have ih := sub_par h
  simp only [T.par] at ih
  have hl := T.par_len l (off : Int) ((off : Int) + l.size)
  have hr := T.par_len r ((off : Int) + l.size + 1) ((off : Int) + l.size)
  have := slice_mid (a := l.par (off : Int) ((off : Int) + l.size)) (b := r.par ((off : Int) + l.size + 1) ((off : Int) + l.size)) (L := t.parOf) (off := off) (x := p) (by rw [hl, hr]; exact ih)
  rw [hl] at this
  exact this
/-- the parents of a subtree: the root's alone lies outside -/
theorem par_in : ∀ (s : T) (off p : Int) (i : Nat) (q : Int), (s.par off p)[i]? = some q → (∃ l r, s = .node l r ∧ i = l.size ∧ q = p) ∨ (off ≤ q ∧ q < off + s.size ∧ ∀ l r, s = .node l r → i ≠ l.size)
  | .nil, _, _, _, _, h => by simp [T.par] at h
  | .node l r, off, p, i, q, h => by
    simp only [T.par] at h
    have hl := T.par_len l off (off + l.size)
    by_cases h1 : i < l.size
    · rw [List.getElem?_append_left (by omega)] at h
      refine .inr ?_
      rcases par_in l off (off + l.size) i q h with ⟨a, b, e, e2, e3⟩ | ⟨h2, h3, _⟩
      · refine ⟨by omega, by simp only [T.size]; omega, fun l' r' e' => by cases e'; omega⟩
      · refine ⟨by omega, by simp only [T.size]; omega, fun l' r' e' => by cases e'; omega⟩
    · rw [List.getElem?_append_right (by omega), hl] at h
      by_cases h2 : i = l.size
      · subst h2
        rw [Nat.sub_self] at h
        have : p = q := by simpa using h
        exact .inl ⟨l, r, rfl, rfl, this.symm⟩
      · obtain ⟨j, e⟩ : ∃ j, i - l.size = j + 1 := ⟨i - l.size - 1, by omega⟩
        rw [e, List.getElem?_cons_succ] at h
        refine .inr ?_
        rcases par_in r (off + l.size + 1) (off + l.size) j q h with ⟨a, b, e4, e2, e3⟩ | ⟨h4, h3, _⟩
        · refine ⟨by omega, by simp only [T.size]; omega, fun l' r' e' => by cases e'; omega⟩
        · refine ⟨by omega, by simp only [T.size]; omega, fun l' r' e' => by cases e'; omega⟩
theorem rc_pos : ∀ (s : T) (i v : Nat), s.rc[i]? = some v → 1 ≤ v
  | .nil, _, _, h => by simp [T.rc] at h
  | .node l r, i, v, h => by
    simp only [T.rc] at h
    by_cases h1 : i < l.size
    · rw [List.getElem?_append_left (by rw [T.rc_len]; exact h1)] at h
      exact rc_pos l i v h
    · rw [List.getElem?_append_right (by rw [T.rc_len]; omega), T.rc_len] at h
      rcases Nat.eq_zero_or_pos (i - l.size) with e | e
      · rw [e] at h; simp at h; omega
      · obtain ⟨j, e⟩ : ∃ j, i - l.size = j + 1 := ⟨i - l.size - 1, by omega⟩
        rw [e, List.getElem?_cons_succ, List.getElem?_map] at h
        cases h2 : r.rc[j]? with
        | none => rw [h2] at h; cases h
        | some u => rw [h2] at h; simp at h; omega
theorem rc_one {l r : T} {i : Nat} (h : (T.node l r).rc[i]? = some 1) : i ≤ l.size := by
  simp only [T.rc] at h
  by_cases h1 : i ≤ l.size
  · exact h1
  · rw [List.getElem?_append_right (by rw [T.rc_len]; omega), T.rc_len] at h
    obtain ⟨j, e⟩ : ∃ j, i - l.size = j + 1 := ⟨i - l.size - 1, by omega⟩
    rw [e, List.getElem?_cons_succ, List.getElem?_map] at h
    cases h2 : r.rc[j]? with
    | none => rw [h2] at h; cases h
    | some u =>
      have := rc_pos r j u h2
      rw [h2] at h; simp at h; omega
theorem rc_root (l r : T) : (T.node l r).rc[l.size]? = some 1 := by
  simp only [T.rc]
  rw [List.getElem?_append_right (by rw [T.rc_len]; exact Nat.le_refl _), T.rc_len, Nat.sub_self]; rfl
theorem sub_rc_at {t : T} {off k : Nat} {s : T} {p : Int} (h : Sub t off s k p) {i : Nat} (hi : i < s.size) : ∃ v, s.rc[i]? = some v ∧ t.rc[off + i]? = some (v + (k - 1)) := by
  have e := congrArg (fun l : List Nat => l[i]?) (sub_rc h)
  simp only [List.getElem?_take, List.getElem?_drop, List.getElem?_map] at e
  rw [if_pos hi] at e
  have hv := List.getElem?_eq_getElem (show i < s.rc.length by rw [T.rc_len]; exact hi)
  rw [hv] at e
  exact ⟨_, hv, e⟩
theorem sub_par_at {t : T} {off k : Nat} {s : T} {p : Int} (h : Sub t off s k p) {i : Nat} (hi : i < s.size) : ∃ q, (s.par (off : Int) p)[i]? = some q ∧ t.parOf[off + i]? = some q := by
  have e := congrArg (fun l : List Int => l[i]?) (sub_par h)
  simp only [List.getElem?_take, List.getElem?_drop] at e
  rw [if_pos hi] at e
  have hv := List.getElem?_eq_getElem (show i < (s.par (off : Int) p).length by rw [T.par_len]; exact hi)
  rw [hv] at e
  exact ⟨_, hv, e⟩
theorem filter_one {f : Nat → Bool} {n c : Nat} (hc : c < n) (h1 : f c = true) (h2 : ∀ i, i < n → f i = true → i = c) : (List.range n).filter f = [c] := by
  induction n with
  | zero => omega
  | succ n ih =>
    rw [List.range_succ, List.filter_append]
    by_cases e : c = n
    · subst e
      have e0 : (List.range c).filter f = [] := List.filter_eq_nil_iff.mpr fun i hi hf => by
        have := List.mem_range.mp hi
        have := h2 i (by omega) hf
        omega
      rw [e0]; simp [h1]
    · rw [ih (by omega) fun i hi hf => h2 i (by omega) hf]
      have : f n = false := by
        cases hf : f n with
        | false => rfl
        | true => exact absurd (h2 n (by omega) hf) (by omega)
      simp [this]
/-- the work of a list of subtrees -/
def todo : List (Nat × T × Nat × Int) → Nat
  | [] => 0
  | x :: r => 2 * x.2.1.size + 1 + todo r
theorem todo_app : ∀ a b, todo (a ++ b) = todo a + todo b
  | [], b => by simp [todo]
  | x :: r, b => by simp [todo, todo_app r b]; omega
theorem len_todo : ∀ L, L.length ≤ todo L
  | [] => Nat.le_refl _
  | x :: r => by have := len_todo r; simp [todo]; omega

/-! ### one step up -/
theorem getD_app_l {a b : List Nat} {i : Nat} (h : i < a.length) : (a ++ b).getD i 0 = a.getD i 0 := by
  simp only [List.getD_eq_getElem?_getD, List.getElem?_append_left h]
theorem getD_app_r {a b : List Nat} {i : Nat} (h : a.length ≤ i) : (a ++ b).getD i 0 = b.getD (i - a.length) 0 := by
  simp only [List.getD_eq_getElem?_getD, List.getElem?_append_right h]
theorem getD_map1 {a : List Nat} {i : Nat} (h : i < a.length) : (a.map (· + 1)).getD i 0 = a.getD i 0 + 1 := by
  simp only [List.getD_eq_getElem?_getD, List.getElem?_map, List.getElem?_eq_getElem h]; rfl
theorem wr_l {l r : T} {i : Nat} (h : i < l.size) : (T.node l r).wr.getD i 0 = l.wr.getD i 0 + 1 := by
  simp only [T.wr]
  rw [getD_app_l (by rw [List.length_map, T.wr_len]; exact h), getD_map1 (by rw [T.wr_len]; exact h)]
theorem wr_m {l r : T} : (T.node l r).wr.getD l.size 0 = 1 := by
  simp only [T.wr]
  rw [getD_app_r (by rw [List.length_map, T.wr_len]; exact Nat.le_refl _), List.length_map, T.wr_len, Nat.sub_self]; rfl
theorem wr_r {l r : T} {j : Nat} : (T.node l r).wr.getD (l.size + 1 + j) 0 = r.wr.getD j 0 := by
  simp only [T.wr]
  rw [getD_app_r (by rw [List.length_map, T.wr_len]; omega), List.length_map, T.wr_len, show l.size + 1 + j - l.size = j + 1 by omega, List.getD_cons_succ]
theorem rc_l {l r : T} {i : Nat} (h : i < l.size) : (T.node l r).rc.getD i 0 = l.rc.getD i 0 := by
  simp only [T.rc]
  rw [getD_app_l (by rw [T.rc_len]; exact h)]
theorem rc_m {l r : T} : (T.node l r).rc.getD l.size 0 = 1 := by
  simp only [T.rc]
  rw [getD_app_r (by rw [T.rc_len]; exact Nat.le_refl _), T.rc_len, Nat.sub_self]; rfl
theorem rc_r {l r : T} {j : Nat} (h : j < r.size) : (T.node l r).rc.getD (l.size + 1 + j) 0 = r.rc.getD j 0 + 1 := by
  simp only [T.rc]
  rw [getD_app_r (by rw [T.rc_len]; omega), T.rc_len, show l.size + 1 + j - l.size = j + 1 by omega, List.getD_cons_succ, getD_map1 (by rw [T.rc_len]; exact h)]
theorem up : ∀ (s : T) (off p : Int) (i : Nat) (q : Int), (s.par off p)[i]? = some q →
    (q = p ∧ s.wr.getD i 0 = 1 ∧ s.rc.getD i 0 = 1) ∨
    ∃ j : Nat, q = off + j ∧ j < s.size ∧ j ≠ i ∧ (i < j → s.wr.getD i 0 = s.wr.getD j 0 + 1 ∧ s.rc.getD i 0 = s.rc.getD j 0) ∧ (j < i → s.wr.getD i 0 = s.wr.getD j 0 ∧ s.rc.getD i 0 = s.rc.getD j 0 + 1)
  | .nil, _, _, _, _, h => by simp [T.par] at h
  | .node l r, off, p, i, q, h => by
    simp only [T.par] at h
    have hl := T.par_len l off (off + l.size)
    by_cases h1 : i < l.size
    · rw [List.getElem?_append_left (by omega)] at h
      refine .inr ?_
      rcases up l off (off + l.size) i q h with ⟨e, e1, e2⟩ | ⟨j, e, hj, hne, c1, c2⟩
      · exact ⟨l.size, e, by simp only [T.size]; omega, by omega, fun _ => ⟨by rw [wr_l h1, wr_m, e1], by rw [rc_l h1, rc_m, e2]⟩, fun z => by omega⟩
      · exact ⟨j, e, by simp only [T.size]; omega, hne, fun z => ⟨by rw [wr_l h1, wr_l hj, (c1 z).1], by rw [rc_l h1, rc_l hj, (c1 z).2]⟩, fun z => ⟨by rw [wr_l h1, wr_l hj, (c2 z).1], by rw [rc_l h1, rc_l hj, (c2 z).2]⟩⟩
    · rw [List.getElem?_append_right (by omega), hl] at h
      by_cases h2 : i = l.size
      · subst h2
        rw [Nat.sub_self] at h
        have : p = q := by simpa using h
        exact .inl ⟨this.symm, wr_m, rc_m⟩
      · obtain ⟨k, e⟩ : ∃ k, i = l.size + 1 + k := ⟨i - l.size - 1, by omega⟩
        subst e
        rw [show l.size + 1 + k - l.size = k + 1 by omega, List.getElem?_cons_succ] at h
        have hk : k < r.size := by
          have := (List.getElem?_eq_some_iff.mp h).1
          rw [T.par_len] at this; exact this
        refine .inr ?_
        rcases up r (off + l.size + 1) (off + l.size) k q h with ⟨e, e1, e2⟩ | ⟨j, e, hj, hne, c1, c2⟩
        · exact ⟨l.size, e, by simp only [T.size]; omega, by omega, fun z => by omega, fun _ => ⟨by rw [wr_r, wr_m, e1], by rw [rc_r hk, rc_m, e2]⟩⟩
        · exact ⟨l.size + 1 + j, by rw [e]; omega, by simp only [T.size]; omega, by omega, fun z => ⟨by rw [wr_r, wr_r, (c1 (by omega)).1], by rw [rc_r hk, rc_r hj, (c1 (by omega)).2]⟩, fun z => ⟨by rw [wr_r, wr_r, (c2 (by omega)).1], by rw [rc_r hk, rc_r hj, (c2 (by omega)).2]⟩⟩
theorem wr_pos {t : T} {i : Nat} (h : i < t.size) : 1 ≤ t.wr.getD i 0 := by
  induction t generalizing i with
  | nil => simp [T.size] at h
  | node l r ihl ihr =>
    by_cases h1 : i < l.size
    · rw [wr_l h1]; omega
    · by_cases h2 : i = l.size
      · subst h2; rw [wr_m]; exact Nat.le_refl _
      · obtain ⟨k, e⟩ : ∃ k, i = l.size + 1 + k := ⟨i - l.size - 1, by omega⟩
        subst e
        rw [wr_r]; exact ihr (by simp only [T.size] at h; omega)
theorem rc_posD {t : T} {i : Nat} (h : i < t.size) : 1 ≤ t.rc.getD i 0 := by
  have := List.getElem?_eq_getElem (show i < t.rc.length by rw [T.rc_len]; exact h)
  rw [List.getD_eq_getElem?_getD, this]
  exact rc_pos t i _ this

/-! ### mirrors -/
def mirN (N : Int) (q : Int) : Int := if q = -1 then -1 else N - 1 - q
theorem mir_size : ∀ t : T, t.mir.size = t.size
  | .nil => rfl
  | .node l r => by simp [T.mir, T.size, mir_size l, mir_size r]; omega
theorem mir_par : ∀ (s : T) (N off p : Int), 0 ≤ off → ((s.par off p).reverse).map (mirN N) = s.mir.par (N - off - s.size) (mirN N p)
  | .nil, _, _, _, _ => rfl
  | .node l r, N, off, p, h => by
    simp only [T.par, T.mir, List.reverse_append, List.reverse_cons, List.map_append, List.map_cons, List.map_nil]
    rw [mir_par l N off (off + l.size) h, mir_par r N (off + l.size + 1) (off + l.size) (by omega), mir_size]
    have e1 : mirN N (off + l.size) = N - 1 - (off + l.size) := by unfold mirN; rw [if_neg (by omega)]
    rw [e1]
    have e2 : N - off - ((T.node l r).size : Int) = N - (off + l.size + 1) - r.size := by simp only [T.size]; omega
    rw [e2]
    have e3 : N - (off + ↑l.size + 1) - ↑r.size + ↑r.size = N - 1 - (off + ↑l.size) := by omega
    rw [e3, show N - 1 - (off + (l.size : Int)) + 1 = N - off - l.size by omega]
    simp
theorem mir_parOf (t : T) : t.mir.parOf = (t.parOf.reverse).map (mirN t.size) := by
  unfold T.parOf
  rw [mir_par t t.size 0 (-1) (by omega)]
  rw [show ((t.size : Int) - 0 - t.size) = 0 by omega]
  rfl
theorem mir_wr : ∀ t : T, t.mir.wr = t.rc.reverse
  | .nil => rfl
  | .node l r => by simp [T.mir, T.wr, T.rc, mir_wr l, mir_wr r]
theorem mir_rc : ∀ t : T, t.mir.rc = t.wr.reverse
  | .nil => rfl
  | .node l r => by simp [T.mir, T.wr, T.rc, mir_rc l, mir_rc r]
theorem mir_mir : ∀ t : T, t.mir.mir = t
  | .nil => rfl
  | .node l r => by simp [T.mir, mir_mir l, mir_mir r]

/-! ### parents of a joined tree -/
theorem par_below {N : Int} : ∀ (s : T) (off p : Int), 0 ≤ off → (s.par off p).map (fun q => if q = -1 then N else q) = s.par off (if p = -1 then N else p)
  | .nil, _, _, _ => rfl
  | .node l r, off, p, h => by
    simp only [T.par, List.map_append, List.map_cons]
    rw [par_below l off _ h, par_below r (off + l.size + 1) _ (by omega), if_neg (by omega : ¬ off + (l.size : Int) = -1)]
theorem par_beyond {N : Int} : ∀ (s : T) (off p : Int), 0 ≤ off → (s.par off p).map (fun q => if q = -1 then N else q + N + 1) = s.par (off + N + 1) (if p = -1 then N else p + N + 1)
  | .nil, _, _, _ => rfl
  | .node l r, off, p, h => by
    simp only [T.par, List.map_append, List.map_cons]
    rw [par_beyond l off _ h, par_beyond r (off + l.size + 1) _ (by omega), if_neg (by omega : ¬ off + (l.size : Int) = -1)]
    have e1 : off + (l.size : Int) + N + 1 = off + N + 1 + l.size := by omega
    have e2 : off + (l.size : Int) + 1 + N + 1 = off + N + 1 + l.size + 1 := by omega
    rw [e1, e2]
theorem parOf_node (s u : T) : (T.node s u).parOf = s.parOf.map (fun q => if q = -1 then (s.size : Int) else q) ++ [-1] ++ u.parOf.map (fun q => if q = -1 then (s.size : Int) else q + s.size + 1) := by
  unfold T.parOf
  rw [par_below s 0 (-1) (by omega), par_beyond u 0 (-1) (by omega)]
  simp only [T.par]
  simp
theorem parOf_root (s u : T) : (T.node s u).parOf[s.size]? = some (-1) := by
  have := sub_root (t := T.node s u) .root
  simpa using this
theorem parOf_first {s u : T} {m : Nat} (h : m < s.size) : (T.node s u).parOf[m]? ≠ some (-1) := fun e => by
  rcases par_in _ _ _ _ _ e with ⟨l, r, e1, e2, _⟩ | ⟨h1, _, _⟩
  · cases e1; omega
  · omega

/-! ### runs as lists of flushes -/
theorem stk_pair : ∀ (t : T) (off j : Nat), j + 1 ≤ t.runs → (t.stk off)[t.runs - (j + 1)]? = some (off + t.start (j + 1), off + t.start j)
  | .nil, _, _, h => by simp [T.runs] at h
  | .node l r, off, j, h => by
    by_cases e : j = r.runs
    · subst e
      have e1 : (T.node l r).runs = r.runs + 1 := by simp [T.runs]; omega
      rw [e1, Nat.sub_self, ← e1, T.start_eq, T.start_node (Nat.le_refl _), T.start_eq]
      rfl
    · have h1 : j + 1 ≤ r.runs := by simp [T.runs] at h; omega
      have e1 : (T.node l r).runs - (j + 1) = (r.runs - (j + 1)) + 1 := by simp [T.runs]; omega
      rw [e1, T.start_node h1, T.start_node (by omega)]
      simp only [T.stk, List.getElem?_cons_succ]
      rw [stk_pair r (off + l.size + 1) j h1]
      congr 2 <;> omega
theorem start_anti : ∀ (t : T) (j : Nat), j + 1 ≤ t.runs → t.start (j + 1) < t.start j
  | .nil, _, h => by simp [T.runs] at h
  | .node l r, j, h => by
    by_cases e : j = r.runs
    · subst e
      have e1 : (T.node l r).runs = r.runs + 1 := by simp [T.runs]; omega
      rw [← e1, T.start_eq, T.start_node (Nat.le_refl _), T.start_eq]
      omega
    · have h1 : j + 1 ≤ r.runs := by simp [T.runs] at h; omega
      rw [T.start_node h1, T.start_node (by omega)]
      have := start_anti r j h1
      omega
/-- the flushes of [a, b) -/
def seg (a b : Nat) : List Nat := List.range' a (b - a)
theorem seg_app {a b c : Nat} (h1 : a ≤ b) (h2 : b ≤ c) : seg a b ++ seg b c = seg a c := by
  unfold seg
  have := List.range'_append_1 (s := a) (m := b - a) (n := c - b)
  rw [show a + (b - a) = b by omega, show b - a + (c - b) = c - a by omega] at this
  exact this
theorem seg_one (a : Nat) : seg a (a + 1) = [a] := by
  unfold seg
  rw [show a + 1 - a = 1 by omega]; rfl
theorem seg_nil (a : Nat) : seg a a = [] := by unfold seg; rw [Nat.sub_self]; rfl
theorem seg_len (a b : Nat) : (seg a b).length = b - a := by unfold seg; rw [List.length_range']
theorem seg_at {a b k : Nat} (h : a + k < b) : (seg a b)[k]? = some (a + k) := by
  unfold seg
  rw [List.getElem?_range' (by omega)]
  simp
theorem stk_take_succ {t : T} {j : Nat} (off : Nat) (h : j + 1 ≤ t.runs) : (t.stk off).take (t.runs - j) = (t.stk off).take (t.runs - (j + 1)) ++ [(off + t.start (j + 1), off + t.start j)] := by
  rw [show t.runs - j = (t.runs - (j + 1)) + 1 by omega, List.take_add_one, stk_pair t off j h]; rfl
/-- adjacent, from off on -/
theorem stk_starts : ∀ (t : T) (off : Nat), (t.stk off).map (·.1) = (off :: (t.stk off).map (·.2)).dropLast
  | .nil, _ => rfl
  | .node l r, off => by
    have ih := stk_starts r (off + l.size + 1)
    simp only [T.stk, List.map_cons]
    rw [ih]; rfl
theorem stk_stops : ∀ (t : T) (off : Nat), (off :: (t.stk off).map (·.2)).getLast? = some (off + t.size)
  | .nil, off => by simp [T.stk, T.size]
  | .node l r, off => by
    have ih := stk_stops r (off + l.size + 1)
    simp only [T.stk, List.map_cons, T.size]
    rw [List.getLast?_cons_cons, ih]
    congr 1; omega
theorem stk_lt : ∀ (t : T) (off : Nat) (p : Nat × Nat), p ∈ t.stk off → off ≤ p.1 ∧ p.1 < p.2 ∧ p.2 ≤ off + t.size
  | .nil, _, _, h => by simp [T.stk] at h
  | .node l r, off, p, h => by
    simp only [T.stk] at h
    rcases List.mem_cons.mp h with rfl | h
    · simp only [T.size]; omega
    · have := stk_lt r _ p h
      simp only [T.size]; omega
end MB

set_option maxHeartbeats 4000000
namespace MB
open PySem PySem.Spec PyProof.Rows L2

/-! ### great powers -/
def CPowW (i j : Int) : Prop := 0 ≤ j ∧ (Builtin.Int.intBits i : Int) * j ≤ 2 ^ 27
theorem op_powW {X : Cx} : OpR X (binaryOp .Pow) (rI CPowW fun i j => .int (i ^ j.toNat)) := opI fun _ _ _ _ _ _ _ hc q => pow_int hc.1 hc.2 q

/-! ### xs[i] op= e -/
theorem get_list {X : Cx} : PGet X (rIxL X.K) := by
  intro pins s σ H x y v u Q I rx ry h
  obtain ⟨p, xs, i, z, rfl, rfl, hq, he, q⟩ := h
  cases rx
  obtain ⟨t, rfl⟩ := ry
  obtain ⟨its, r, pl, hz⟩ := I.list hq
  obtain ⟨j, h1, h2, h3, h4, h5⟩ := atI_get he
  obtain ⟨w, ew, rw'⟩ := r.get h2
  have hl := r.length
  have hn := line63
  have fin : EP X pins σ Q w s := ⟨z, H, I, rw', q⟩
  by_cases h0 : 0 ≤ i
  · have hj : i.toNat = j := by
      rw [seqIndex_of h0 h5] at h1
      exact Option.some.inj h1
    exact getItem_listL pl.isList h0 (by omega) (by rw [hj]; exact ew) fin
  · have hj : (i + (its.toArray.size : Int)).toNat = j := by
      rw [seqIndex_neg (by omega) h4] at h1
      rw [List.size_toArray, ← hl]
      exact Option.some.inj h1
    exact wpAny_getItem_list_neg pl.isList (by omega) (by rw [List.size_toArray] <;> omega) (by omega) (by rw [hj]; simpa using ew) fin

/-! ### sum of a tuple of ints -/
theorem ints_at : ∀ {ns : List Int} {its : List Value}, Vals (ns.map V.int) its → ∀ (i : Nat) (v : Value), its[i]? = some v → ∃ t, v = .int (ns.getD i 0) t
  | [], _, .nil, i, v, h => by simp at h
  | n :: ns, u :: us, .cons r rr, 0, v, h => by
    obtain ⟨t, rfl⟩ := r
    simp at h
    exact ⟨t, by simp [h]⟩
  | n :: ns, u :: us, .cons r rr, i + 1, v, h => by
    have := ints_at rr i v (by simpa using h)
    simpa using this
theorem preSum_getD (ns : List Int) : ∀ k, k ≤ ns.length → preSum (fun i => ns.getD i 0) k = (ns.take k).sum
  | 0, _ => by simp [preSum]
  | k + 1, h => by
    have e : ns[k]? = some (ns.getD k 0) := by
      rw [List.getElem?_eq_getElem (by omega), List.getD_eq_getElem?_getD, List.getElem?_eq_getElem (by omega)]
      rfl
    rw [preSum, preSum_getD ns k (by omega), L2.sum_take e]
def rSumT (K : PySem.W.Frag) : List V → Hp → VK → Prop := fun xs H Q => ∃ (a : Addr) (ns : List Int), xs = [V.ref a] ∧ SqT K H a (ns.map V.int) ∧ Q (.int ns.sum) H
theorem cr_sumT {X : Cx} (hc : X.calm = true) : CallR X (.builtin "sum") (rSumT X.K) := by
  intro pins s σ H vs us Q I r h
  obtain ⟨a, ns, rfl, hs, q⟩ := h
  obtain ⟨its, rv, hl, _⟩ := I.tuple hs
  rw [Vals.ref1 r]
  have hT : s.heap.IsTuple a its.toArray := hl
  have hlt : a < s.heap.objs.size := by obtain ⟨_, e, _⟩ := hl; exact Heap.lt_size e
  refine PySem.call_sum_walkG (wpAny_pyIter_tuple hT ?_)
  refine ⟨s.heap.objs.size, [s.heap.objs.size, a], [s.heap.objs.size], its.toArray.size, _, _, fun i => ns.getD i 0, rfl, Walks.tuple (A := X.A.in1) (I.ok.hd hc) _ a (Nat.ne_of_lt hlt) its.toArray, ⟨⟨_, Heap.get?_push_size _ rfl, rfl, rfl⟩, hT.at fun o e => Heap.get?_push_of_some _ e⟩, fun b hb => ?_, fun i v hv => ints_at rv i v (by simpa using hv), fun h' tk t' hk => ?_⟩
  · show b < (s.heap.push _).objs.size
    rw [Heap.size_push]
    have e : b = s.heap.objs.size ∨ b = a := by simpa using hb
    rcases e with e | e
    · rw [e]; exact Nat.lt_succ_self _
    · rw [e]; exact Nat.lt_succ_of_lt hlt
  · have el : its.toArray.size = ns.length := by rw [List.size_toArray, ← rv.length, List.length_map]
    rw [el, preSum_getD ns _ (Nat.le_refl _), List.take_length]
    refine ⟨.int ns.sum, H, I.kept fun b o e => hk b o ?_ (Heap.get?_push_of_some _ e), ⟨_, rfl⟩, q⟩
    have := Heap.lt_size e
    simp only [List.mem_singleton]
    exact Nat.ne_of_lt this

/-! ### enumerate(tuple) -/
set_option maxHeartbeats 4000000 in
theorem meets_enumerate_newT (l : Addr) (items : Array Value) (n : Nat) (dct : Option Addr) (sl : Array (Option Value)) :
    Meets (Builtin.«enumerate.__new__» ⟨[.type "enumerate", .ref l], []⟩) (fun _ R s => s.heap.get? l = some { cls := .type "tuple", dict := dct, data := .seq items n, slots := sl } ∧
      R (.ok (.ret (.ref (s.heap.push { cls := .type "tuple_iterator", data := .fields #[.ref l, .int 0 0] }).objs.size)))
        { s with heap := (s.heap.push { cls := .type "tuple_iterator", data := .fields #[.ref l, .int 0 0] }).push { cls := .type "enumerate", data := .fields #[.none, .bool false, .ref s.heap.objs.size, rawInt 0, .none, .none] } }) :=
  .of_wp fun prog w A R s h => by
    obtain ⟨hp, g, d, tk, os⟩ := s; obtain ⟨hl, h⟩ := h
    have hsub := sub_enumerate
    have hL : Heap.IsTuple (Shared.heap ⟨hp, g, d, tk, os⟩) l items := ⟨_, hl, rfl, n, rfl⟩
    wp_walk using AutoSeq1.wpAny_loadPart' hl
    refine wpAny_stack_any fun st => wpAny_pure ?_
    split
    · rename_i c _ _ _ _ _
      cases (c == Value.type "enumerate")
      · wp_walk using AutoSeq1.wpAny_loadPart' hl, wpAny_pyIter_tuple hL
        exact ⟨_, rfl, h⟩
      · wp_walk using AutoSeq1.wpAny_loadPart' hl, wpAny_pyIter_tuple hL
        exact ⟨_, rfl, h⟩
    · wp_walk using AutoSeq1.wpAny_loadPart' hl, wpAny_pyIter_tuple hL
      exact ⟨_, rfl, h⟩
section
variable {prog : Program} {w : World} {A : Around} {E : Value → Shared → Prop} {s : Shared}
theorem call_enumerate_tuple {l : Addr} {items : Array Value} {Q : Value → Shared → Prop} (hL : s.heap.IsTuple l items)
    (h : ∀ h', IsEnum h' (s.heap.objs.size + 1) s.heap.objs.size 0 .none → h'.IsTupleIter s.heap.objs.size l 0 → h'.objs.size = s.heap.objs.size + 2 →
      (∀ b o, s.heap.get? b = some o → h'.get? b = some o) → Q (.ref (s.heap.objs.size + 1)) { s with heap := h' }) :
    wpAny (model prog w) A (call (.type "enumerate") [.ref l]) Q E s := by
  obtain ⟨⟨c, dct, dt, sl⟩, hl, hc, n, hd⟩ := hL
  replace hc : c = .type "tuple" := hc
  replace hd : dt = .seq items n := hd
  subst hc hd
  refine callType_new F.called_enumerate (by decide) (F.typeCall_enumerate_1 _) (F.newCall_enumerate_1 _) (fun obj => F.args_object_init_2 obj _) F.entry_enumerate_new
    (meets_enumerate_newT l items n dct sl) ⟨hl, ?_⟩
  have hz : (s.heap.push { cls := .type "tuple_iterator", data := .fields #[.ref l, .int 0 0] }).objs.size = s.heap.objs.size + 1 := Heap.size_push ..
  show _ ∧ _
  rw [hz]
  have he : IsEnum ((s.heap.push { cls := .type "tuple_iterator", data := .fields #[.ref l, .int 0 0] }).push
      { cls := .type "enumerate", data := .fields #[.none, .bool false, .ref s.heap.objs.size, rawInt 0, .none, .none] }) (s.heap.objs.size + 1) s.heap.objs.size 0 .none := by
    have := Heap.get?_push_size (s.heap.push { cls := .type "tuple_iterator", data := .fields #[.ref l, .int 0 0] })
      (o := { cls := .type "enumerate", data := .fields #[.none, .bool false, .ref s.heap.objs.size, rawInt 0, .none, .none] }) rfl
    rw [hz] at this; exact this
  refine ⟨⟨_, he, rfl⟩, h _ he ⟨_, Heap.get?_push_of_some _ (Heap.get?_push_size _ rfl), rfl, rfl⟩ (by rw [Heap.size_push, hz]) fun b o x => Heap.get?_push_of_some _ (Heap.get?_push_of_some _ x)⟩
end
def IteT (K : PySem.W.Frag) (a : Addr) : It :=
  ⟨fun i H => ∃ (xs : List V) (x : V), SqT K H a xs ∧ xs[i]? = some x, fun i H v H' => ∃ T x, v = .ref T ∧ H T = none ∧ H' = upd H T (.tup [.int (i : Nat), x]) ∧ ∀ xs, SqT K H a xs → xs[i]? = some x, fun i H => ∃ xs : List V, SqT K H a xs ∧ xs.length = i⟩
theorem tup_ne {h : Heap} {a it : Addr} {items : Array Value} {i : Nat} (h1 : h.IsTuple a items) (h2 : h.IsTupleIter it a i) : a ≠ it := fun e => by
  obtain ⟨o, ho, hc, n, hd⟩ := h1
  obtain ⟨o', ho', hc', hd'⟩ := h2
  rw [e] at ho
  rw [ho] at ho'
  cases ho'
  rw [hd] at hd'
  cases hd'
theorem turn_enumT {P : Program} {w : World} {K : PySem.W.Frag} {elts : List Expr} {kk : Nat} {tpos : Pos} (a e it : Addr) (hae : a ≠ e) :
    Turn P w K (.Tuple elts kk tpos) (IteT K a) [e, it] e (fun i h => (∃ old, IsEnum h e it ((i : Nat) : Int) old) ∧ h.IsTupleIter it a i ∧ e ≠ it) where
  mem := by simp
  obj := fun i h st b hb => by
    obtain ⟨⟨old, he⟩, ⟨o, ho, hc, hd⟩, _⟩ := st
    have e' : b = e ∨ b = it := by simpa using hb
    rcases e' with z | z
    · rw [z]; exact ⟨_, he, fun v q => nomatch q⟩
    · rw [z]; exact ⟨o, ho, fun v q => by rw [hd] at q; cases q⟩
  keep := fun i h h' st k => let ⟨⟨old, he⟩, hi, hne⟩ := st; ⟨⟨old, k e (by simp) _ he⟩, hi.at fun o q => k it (by simp) o q, hne⟩
  item := by
    intro X hP hw hK hc i pins s σ H E I hf st hg
    subst hP hw hK
    obtain ⟨⟨old, he⟩, hit, hne⟩ := st
    obtain ⟨xs, x, hq, hx⟩ := hg
    obtain ⟨its, rv, p, hz⟩ := I.tuple hq
    have p : s.heap.IsTuple a its.toArray := p
    have hat : a ≠ it := tup_ne p hit
    have hel : e < s.heap.objs.size := Heap.lt_size he
    have hil : it < s.heap.objs.size := by obtain ⟨_, q, _⟩ := hit; exact Heap.lt_size q
    have hlen : i < its.toArray.size := by
      rw [List.size_toArray, ← rv.length]; exact (List.getElem?_eq_some_iff.mp hx).1
    refine wpAny_pyNext_enum_itemD (Draws.tuple (prog := X.prog) (w := X.w) (A := X.A.in1) (I.ok.hd hc) it a hat its.toArray) he ⟨hit, p⟩ hlen hne (by simp; exact ⟨hne, fun z => hae z.symm⟩) fun u h' tk hu ho hit' hT hsz hk => ?_
    obtain ⟨u', hu', ru'⟩ := rv.get hx
    have eu : u = u' := by
      have h1 : its[i]? = some u := by simpa using hu
      rw [h1] at hu'; exact Option.some.inj hu'
    subst eu
    refine ⟨_, rfl, wpAny_letOwnedTupleGo_enum (s := { s with heap := h', toks := tk + 1 }) ho fun h'' he' sb => ?_⟩
    have hT2 : h''.get? s.heap.objs.size = some { cls := .type "tuple", data := .seq #[.int i tk, u] } := (sb.2 _ (Nat.ne_of_gt hel)).trans hT
    have new : ObjOk X.prog X.w (upd H s.heap.objs.size (.tup [.int (i : Nat), x])) h'' s.heap.objs.size (.tup [.int (i : Nat), x]) :=
      ⟨by show 2 ≤ sizeLine; decide, [.int i tk, u], .cons ⟨_, rfl⟩ (.cons ru' .nil), ⟨_, hT2, rfl, _, rfl⟩⟩
    have I1 : Inv X pins σ (upd H s.heap.objs.size (.tup [.int (i : Nat), x])) { s with heap := h'', toks := tk + 1 } :=
      I.turnedNew (ch := [e, it]) (fun b ob hb q => (sb.2 b (fun z => hb (by simp [z]))).trans (hk b ob (fun z => hb (by simp [z])) (fun z => hb (by simp [z])) q)) hf (Nat.le_refl _) new
    refine ⟨.ref s.heap.objs.size, _, I1, rfl, ⟨_, x, rfl, I.hok.fresh (Nat.le_refl _), rfl, fun ys hy => by rw [I.tuple_inj hy hq]; exact hx⟩, ⟨⟨u, ?_⟩, hit'.1.at fun o q => (sb.2 it (Ne.symm hne)).trans q, hne⟩, fun b hb => ?_⟩
    · have e1 : ((i + 1 : Nat) : Int) = (i : Int) + 1 := by omega
      rw [e1]; exact he'
    · have hb' : b < s.heap.objs.size := by
        have e' : b = e ∨ b = it := by simpa using hb
        rcases e' with z | z
        · rw [z]; exact hel
        · rw [z]; exact hil
      rw [upd_ne (Nat.ne_of_lt hb')]
      exact (hf b hb).1
  done := by
    intro X hP hw hK hc i pins s σ H E I hf st hg
    subst hP hw hK
    obtain ⟨⟨old, he⟩, hit, hne⟩ := st
    obtain ⟨xs, hq, hx⟩ := hg
    obtain ⟨its, rv, p, hz⟩ := I.tuple hq
    have p : s.heap.IsTuple a its.toArray := p
    have hat : a ≠ it := tup_ne p hit
    obtain ⟨f0, f1, f2, f3, f4, f5⟩ := hf it (by simp)
    have hlen : its.toArray.size = i := by rw [List.size_toArray, ← rv.length, hx]
    refine wpAny_pyNext_enum_endD (Draws.tuple (prog := X.prog) (w := X.w) (A := X.A.in1) (I.ok.hd hc) it a hat its.toArray) he ?_ fun h' eb => ⟨rfl, I.turned (t' := s.toks) (fun b o hb q => eb b o hb q) f0 f1 f3 f4 f5⟩
    rw [hlen]
    exact ⟨hit, p⟩
  self := fun A i s Q E st h => let ⟨⟨_, he⟩, _⟩ := st; wpAny_pyIter_enum he h
def iEnumT (K : PySem.W.Frag) (ta : TA) : TI := fun σ H R => ta σ H fun vs H1 => ∃ a xs, vs = [.ref a] ∧ SqT K H1 a xs ∧ R (IteT K a) H1
theorem pi_enumT {X : Cx} {e : Expr} {ta : TA} {p pos tpos : Pos} {elts : List Expr} {kk : Nat} (hg : Gl X "enumerate") (hm : X.mg "enumerate" = none) (ha : PA X [e] ta) (hs : starEach [e] X.env = [(false, eval e X.env)] := by rfl) :
    PI X (.Tuple elts kk tpos) (.Call (.Name "enumerate" p) [e] [] pos) (iEnumT X.K ta) := by
  refine ⟨fun pins s σ H R I h => ?_⟩
  refine Call_ (ld_blt I hg hm boot_enumerate (PyProof.Rows.callWith_type1 (thn (ha.run pos pins s σ H _ I h) fun us s1 ⟨vs, H1, I1, r1, q1⟩ => ?_) hs rfl))
  obtain ⟨a, xs, ex, hq, q⟩ := q1
  subst ex
  cases r1 with
  | cons r rr =>
    cases rr
    cases r
    obtain ⟨its, rv, p', hz⟩ := I1.tuple hq
    have hlt : a < s1.heap.objs.size := by obtain ⟨_, e, _⟩ := p'; exact Heap.lt_size e
    refine call_enumerate_tuple p' fun h' he hit hsz hk => wpAny_pyIter_enum he ?_
    have I2 : Inv X pins σ H1 { s1 with heap := h' } := I1.kept (t' := s1.toks) hk
    refine ⟨s1.heap.objs.size + 1, [s1.heap.objs.size + 1, s1.heap.objs.size], _, _, H1, rfl, I2, turn_enumT a (s1.heap.objs.size + 1) s1.heap.objs.size (Nat.ne_of_lt (Nat.lt_succ_of_lt hlt)), ⟨⟨.none, he⟩, hit, Nat.succ_ne_self _⟩, fun b hb => ?_, q⟩
    have e' : b = s1.heap.objs.size + 1 ∨ b = s1.heap.objs.size := by simpa using hb
    have hle : s1.heap.objs.size ≤ b := by
      rcases e' with z | z
      · rw [z]; exact Nat.le_add_right _ _
      · rw [z]; exact Nat.le_refl _
    exact I1.fpOk hle (I1.hok.fresh hle)
theorem walk_enumT {K : PySem.W.Frag} {a : Addr} {xs : List V} : Walk (IteT K a) xs.length (fun H => SqT K H a xs) (YPair (fun i => some (.int (i : Nat))) (fun i => xs[i]?)) := by
  refine ⟨fun i H hi hG => ⟨xs, xs[i], hG, List.getElem?_eq_getElem hi⟩, fun H hG => ⟨xs, hG, rfl⟩, fun i H x H' hi hG y => ?_⟩
  obtain ⟨T, x, e1, e2, e3, e4⟩ := y
  exact ⟨T, _, x, e1, e2, e3, rfl, e4 xs hG⟩

/-! ### tuple.index of an int -/
theorem flat_ints (ns : List Int) : (ns.map V.int).all flatV = true := by
  rw [List.all_map]
  exact List.all_eq_true.mpr fun _ _ => rfl
theorem mt_tindex {X : Cx} : MtR X "tuple.index" (fun x xs H Q => ∃ p, ∃ ys : List Int, ∃ z j, x = .ref p ∧ xs = [.int z] ∧ SqT X.K H p (ys.map V.int) ∧ ys[j]? = some z ∧ (∀ m, m < j → ys[m]? ≠ some z) ∧ Q (.int (j : Nat)) H) := by
  intro pins s σ H x xs v us Q I rx rs h
  obtain ⟨p, ys, z, j, rfl, rfl, hq, hy, hno, q⟩ := h
  cases rx
  obtain ⟨u, rfl, t, rfl⟩ := vals1 rs
  obtain ⟨its, r, pl, hz⟩ := I.tuple hq
  obtain ⟨⟨cls, dd, dt, sl⟩, ho, hc, n, hd⟩ := pl
  simp only at hc hd
  subst hc
  subst hd
  have hl : its.toArray.size = ys.length := by rw [List.size_toArray, ← r.length, List.length_map]
  have hj : j < its.toArray.size := by rw [hl]; exact (List.getElem?_eq_some_iff.mp hy).1
  have at' : ∀ (m : Nat) (hm : m < its.toArray.size), ∃ y t', ys[m]? = some y ∧ its.toArray[m] = Value.int y t' := fun m hm => by
    have hm' : m < ys.length := by rw [← hl]; exact hm
    obtain ⟨w, hw, t', hw'⟩ := r.get (i := m) (x := .int ys[m]) (by simp [hm'])
    refine ⟨ys[m], t', List.getElem?_eq_getElem hm', ?_⟩
    have e := (List.getElem?_eq_some_iff.mp hw).2
    rw [← hw', ← e]
    simp
  refine call_meets PySem.F.slot_tuple_index ⟨_, ho, rfl⟩ PySem.F.entry_tuple_index (PySem.F.args_tuple_index_2 _ _) (TI.tuple_indexAt p its.toArray n dd sl (.int z t) (eqU (.int z)) j hj ?_ ?_)
    ⟨ho, fun w hw => mem_eqAt (x := .int z) ⟨t, rfl⟩ rfl r (flat_ints ys) w (by simpa using hw), ⟨.int (j : Nat), H, I.tok _, ⟨_, rfl⟩, q⟩⟩
  · obtain ⟨y, t', h1, h2⟩ := at' j hj
    rw [hy] at h1
    cases h1
    rw [h2]
    show (z == z) = true
    exact beq_self_eq_true z
  · intro m hm hmj
    obtain ⟨y, t', h1, h2⟩ := at' m hm
    rw [h2]
    show (y == z) = false
    exact beq_eq_false_iff_ne.mpr fun e => hno m hmj (e ▸ h1)

/-! ### rules by the written part K itself (for a comprehension's block) -/
def rLen (K : PySem.W.Frag) : List V → Hp → VK → Prop := fun xs H Q => ∃ p ys, xs = [.ref p] ∧ (SqL K H p ys ∨ SqT K H p ys) ∧ Q (.int ys.length) H
def rTupOf (K : PySem.W.Frag) : List V → Hp → VK → Prop := fun xs H Q => ∃ p ys, xs = [.ref p] ∧ ((SqL K H p ys ∧ ∀ l, H l = none → Q (.ref l) (upd H l (.tup ys))) ∨ (SqT K H p ys ∧ Q (.ref p) H))
def rListOf (K : PySem.W.Frag) : List V → Hp → VK → Prop := fun xs H Q => ∃ p ys, xs = [.ref p] ∧ (SqL K H p ys ∨ SqT K H p ys) ∧ ∀ l, H l = none → Q (.ref l) (upd H l (.lst ys))
section
variable {X : Cx} {K : PySem.W.Frag}
theorem k_len (hK : X.K = K) : CallR X (.builtin "len") (rLen K) := by subst hK; exact call_len_seq
theorem k_tupOf (hK : X.K = K) : CallR X (.type "tuple") (rTupOf K) := by subst hK; exact call_tuple_of
theorem k_listOf (hK : X.K = K) : CallR X (.type "list") (rListOf K) := by subst hK; exact call_list_of
theorem k_isi (hK : X.K = K) : CallR X (.builtin "isinstance") (rIsi K) := by subst hK; exact call_isi
theorem k_ixT (hK : X.K = K) : IxR X (rIxT K) := by subst hK; exact ix_tup
theorem k_ixL (hK : X.K = K) : IxR X (rIxL K) := by subst hK; exact ix_list
theorem k_slT (hK : X.K = K) : SlR X (rSlA K) := by subst hK; exact sl_tupA
theorem k_catT (hK : X.K = K) : OpR X (binaryOp .Add) (rCatA K) := by subst hK; exact op_catA
theorem k_sumT (hK : X.K = K) (hc : X.calm = true) : CallR X (.builtin "sum") (rSumT K) := by subst hK; exact cr_sumT hc
end

/-! ### a statement, then the rest, with a word between them -/
def tCut (t u : TS) : TS := fun D σ H => ∃ Mid : L2.St → Hp → Prop, t { D with nx := Mid } σ H ∧ ∀ σ' H', Mid σ' H' → u D σ' H'
theorem pss_cut {X : Cx} {st : Stmt} {rest : List Stmt} {t u : TS} (h1 : PS X st t) (h2 : PSs X rest u) : PSs X (st :: rest) (tCut t u) := by
  refine ⟨fun pins s σ H D I h => ?_⟩
  obtain ⟨Mid, hm, hu⟩ := h
  refine wpAny_execs_cons (thn (h1.run pins s σ H { D with nx := Mid } I hm) fun f s1 q => ?_)
  cases f with
  | next =>
    obtain ⟨σ', H', I', q⟩ := q
    exact h2.run pins s1 σ' H' D I' (hu σ' H' q)
  | ret v => exact q
  | brk => exact q
  | cont => exact q

/-! ### a tuple that is known to be plain; its method index -/
def rTupOfZ (K : PySem.W.Frag) : List V → Hp → VK → Prop := fun xs H Q => ∃ p ys, xs = [.ref p] ∧ SqL K H p ys ∧ ∀ l o, H l = none → o.dict = none → Q (.ref l) (upd H l (.frz o (.tup ys)))
theorem k_tupOfZ {X : Cx} {K : PySem.W.Frag} (hK : X.K = K) : CallR X (.type "tuple") (rTupOfZ K) := by
  subst hK
  intro pins s σ H xs us Q I r h
  obtain ⟨p, ys, rfl, hq, q⟩ := h
  obtain ⟨u, rfl, rx⟩ := vals1 r
  cases rx
  obtain ⟨its, r', pl, hz⟩ := I.list hq
  have hlen := r'.length
  refine call_tuple_list pl.isList (fun h' kp => ?_) (by simp only [List.size_toArray] <;> omega)
  have I1 : Inv X pins σ H { s with heap := h' } := I.kept (t' := s.toks) kp
  have I2 : Inv X pins σ (upd H h'.objs.size (.frz { cls := .type "tuple", data := .seq its.toArray } (.tup ys))) { s with heap := h'.push { cls := .type "tuple", data := .seq its.toArray } } :=
    I1.laid (t' := s.toks) (fun b o e => Heap.get?_push_of_some _ e) (Nat.le_refl _) (show ObjOk X.prog X.w _ _ _ (.frz _ (.tup ys)) from ⟨Heap.get?_push_size _ rfl, hz, its, r', IsTup.new _ _⟩)
  exact ⟨.ref h'.objs.size, _, I2, rfl, q _ _ (I1.hok.fresh (Nat.le_refl _)) rfl⟩
def tTM (r : V → List V → Hp → VK → Prop) (to : TE) (t : TA) : TE := fun σ H Q => to σ H fun x H1 => (∃ a ob xs, x = .ref a ∧ H1 a = some (.frz ob (.tup xs)) ∧ ob.dict = none) ∧ t σ H1 fun xs H2 => r x xs H2 Q
theorem pe_tm {X : Cx} {o e : Expr} {es : List Expr} {to : TE} {t : TA} {name : Str} {apos cpos : Pos} {id : String} {r : V → List V → Hp → VK → Prop} (slot : Slot "tuple" name id) (hty : typeOf (.builtin id) = pure (.type "method_descriptor")) (hm : MtR X id r) (ho : PE X o to) (ha : PA X (e :: es) t)
    (hbase : attributeBase o name X.env (eval o X.env) = eval o X.env := by rfl)
    (hfew : ((backTo cpos (starEach (e :: es) X.env)).all (fun x => !x.1) && (backToKw cpos (keywordEach [] X.env)).all (fun x => x.1.isSome)
      && decide ((e :: es).length + ([] : List Keyword).length + (if ([] : List Keyword).isEmpty then 0 else 1) < 30)) = true := by rfl)
    (hline : (apos.endLine == cpos.line) = true := by rfl) (hs : starEach (e :: es) X.env = (false, eval e X.env) :: starEach es X.env := by rfl) (hplain : (backTo cpos (starEach es X.env)).any (·.1) = false := by rfl) :
    PE X (.Call (.Attribute o name apos) (e :: es) [] cpos) (tTM r to t) := by
  refine ⟨fun pins s σ H Q I h => ?_⟩
  refine wpAny_Call_method_late hbase hfew hline rfl (thn (ho.run pins s σ H _ I h) fun v s1 ⟨x, H1, I1, r1, ty, q1⟩ => ?_)
  obtain ⟨a, ob, xs, rfl, hf, hd⟩ := ty
  cases r1
  obtain ⟨hg, hz, its, rv, o', ho', hc, _⟩ := (show ObjOk X.prog X.w H1 s1.heap a (.frz ob (.tup xs)) from I1.hok a _ hf)
  have hc' : ob.cls = .type "tuple" := by rw [hg] at ho'; cases ho'; exact hc
  refine ⟨"tuple", id, PySem.F.plainAttrs_tuple, slot, hty, ⟨ob, hg, hc'⟩, fun b e => by cases e; exact ⟨ob, hg, hd⟩, ?_⟩
  have hA := ha.run cpos pins s1 σ H1 _ I1 q1
  rw [hs] at hA ⊢
  refine Calls.callWith_builtin (by show (false || (backTo cpos (starEach es X.env)).any (·.1)) = false; rw [hplain] <;> rfl) (Calls.evalArgs_plain ?_)
  exact thn hA fun us s2 ⟨vs, H2, I2, r2, q2⟩ => hm pins s2 σ H2 (.ref a) vs (.ref a) us Q I2 rfl r2 q2

/-! ### places in the text -/
def xAsg : Stmt → Expr
  | .Assign _ e _ => e
  | _ => .Constant .none 0 ⟨0, 0, 0, 0⟩
def xArg (i : Nat) : Expr → Expr
  | .Call _ as _ _ => as.getD i (.Constant .none 0 ⟨0, 0, 0, 0⟩)
  | _ => .Constant .none 0 ⟨0, 0, 0, 0⟩
def xLcSc : Expr → Scope
  | .ListComp _ _ sc _ => sc
  | _ => { kind := .function, names := [], isGenerator := false, isCoroutine := false }
/-! ### readings are monotone -/
theorem mono_pair {K : PySem.W.Frag} {n i j : Nat} (x : V) (σ' : L2.St) (H' : Hp) (Q Q' : L2.St → Hp → Prop) (h : ∀ a b, Q a b → Q' a b) (e : gTup K n (gCons (gName i) (gCons (gName j) gNil)) x σ' H' Q) : gTup K n (gCons (gName i) (gCons (gName j) gNil)) x σ' H' Q' := by
  obtain ⟨a, xs, e1, e2, e3, v, r, e4, v', r', e5, e6, q⟩ := e
  exact ⟨a, xs, e1, e2, e3, v, r, e4, v', r', e5, e6, h _ _ q⟩

section
variable {X : Cx} {K : PySem.W.Frag}
theorem k_piL {tg l : Expr} {tl : TE} (hK : X.K = K) (hl : PE X l tl) : PI X tg l (iList K tl) := by subst hK; exact pi_list hl
theorem k_piT {tg l : Expr} {tl : TE} (hK : X.K = K) (hl : PE X l tl) : PI X tg l (iTup K tl) := by subst hK; exact pi_tup hl
theorem k_pgT2 {x y : Str} {px py : Pos} {k : Nat} {pos : Pos} {t1 t2 : TG} (hK : X.K = K) (hc : X.calm = true) (h1 : PG X (.Name x px) t1) (h2 : PG X (.Name y py) t2) : PG X (.Tuple [.Name x px, .Name y py] k pos) (gTup K 2 (gCons t1 (gCons t2 gNil))) := by
  subst hK
  exact pg_tup hc (pgs_cons h1 (pgs_cons h2 pgs_nil))
end
end MB

set_option maxHeartbeats 4000000
namespace MB
open PySem PySem.Spec PyProof.Rows L2

/-! ### heaps -/
theorem same_upd {H : Hp} {p : Addr} {o : HO} (h : H p = none) : Same H (upd H p o) := fun b x e => by
  rw [upd_ne (ne_of_none e h)]
  exact e
/-- an object that was not tracked may change -/
theorem Same.mut {H H' : Hp} {p : Addr} {o : HO} (s : Same H H') (h : H p = none) : Same H (upd H' p o) := fun b x e => by
  rw [upd_ne (ne_of_none e h)]
  exact s _ _ e
theorem Same.tup {K : PySem.W.Frag} {H H' : Hp} {a : Addr} {xs : List V} (e : Same H H') (h : SqT K H a xs) : SqT K H' a xs := by
  rcases h with (h | ⟨o, h⟩) | h
  · exact .inl (.inl (e _ _ h))
  · exact .inl (.inr ⟨o, e _ _ h⟩)
  · exact .inr h
theorem Same.tupF {K : PySem.W.Frag} {H H' : Hp} {a : Addr} {o : Obj} {xs : List V} (e : Same H H') (h : H a = some (.frz o (.tup xs))) : SqT K H' a xs := .inl (.inr ⟨o, e _ _ h⟩)
theorem Dp.same {K : PySem.W.Frag} {H H' : Hp} (e : Same H H') : ∀ {v : V} {d : PyData}, Dp K H v d → Dp K H' v d := by
  intro v d h
  refine Dp.rec (motive_1 := fun v d _ => Dp K H' v d) (motive_2 := fun vs ds _ => DpAll K H' vs ds) ?_ ?_ ?_ ?_ ?_ ?_ ?_ ?_ h
  · exact .non
  · intro b; exact .bl b
  · intro i; exact .int i
  · intro x; exact .str x
  · intro a xs ds hs _ ih; exact .lst (e.seq hs) ih
  · intro a xs ds hs _ ih; exact .tup (Same.tup e hs) ih
  · exact .nil
  · intro v vs d ds _ _ h1 h2; exact .cons h1 h2
theorem DpAll.get {K : PySem.W.Frag} {H : Hp} : ∀ {vs : List V} {ds : List PyData}, DpAll K H vs ds → ∀ {i : Nat} {d : PyData}, ds[i]? = some d → ∃ v, vs[i]? = some v ∧ Dp K H v d
  | _, _, .nil, i, d, h => by simp at h
  | _, _, .cons a b, 0, d, h => by
    simp at h; subst h
    exact ⟨_, rfl, a⟩
  | _, _, .cons a b, i + 1, d, h => by
    obtain ⟨v, h1, h2⟩ := DpAll.get b (i := i) (d := d) (by simpa using h)
    exact ⟨v, by simpa using h1, h2⟩
theorem DpAll.len {K : PySem.W.Frag} {H : Hp} : ∀ {vs : List V} {ds : List PyData}, DpAll K H vs ds → vs.length = ds.length
  | _, _, .nil => rfl
  | _, _, .cons a b => by simp [DpAll.len b]
theorem DpAll.take {K : PySem.W.Frag} {H : Hp} : ∀ {vs : List V} {ds : List PyData} (n : Nat), DpAll K H vs ds → DpAll K H (vs.take n) (ds.take n)
  | _, _, 0, _ => .nil
  | _, _, _ + 1, .nil => .nil
  | _, _, n + 1, .cons a b => .cons a (DpAll.take n b)
theorem DpAll.append {K : PySem.W.Frag} {H : Hp} : ∀ {vs ws : List V} {ds es : List PyData}, DpAll K H vs ds → DpAll K H ws es → DpAll K H (vs ++ ws) (ds ++ es)
  | _, _, _, _, .nil, s => s
  | _, _, _, _, .cons a b, s => .cons a (DpAll.append b s)
theorem DpAll.same {K : PySem.W.Frag} {H H' : Hp} (e : Same H H') : ∀ {vs : List V} {ds : List PyData}, DpAll K H vs ds → DpAll K H' vs ds
  | _, _, .nil => .nil
  | _, _, .cons a b => .cons (Dp.same e a) (DpAll.same e b)
theorem dp_ints {K : PySem.W.Frag} {H : Hp} : ∀ ns : List Int, DpAll K H (ns.map V.int) (ns.map PyData.int)
  | [] => .nil
  | n :: ns => .cons (.int n) (dp_ints ns)
theorem ty_tup {K : PySem.W.Frag} {H : Hp} {a : Addr} {xs : List V} (h : SqT K H a xs) : TyX K H (.ref a) (.type "tuple") := by
  rcases h with (h | ⟨o, h⟩) | ⟨o, its, n, h, hc, _⟩
  · exact .base (.tup h)
  · exact .fTuple h
  · exact .kTuple h hc

/-! ### lists of numbers -/
def vi (p : List Nat) : List V := p.map fun (m : Nat) => V.int (m : Int)
def ci (p : List Nat) : List Int := p.map fun (m : Nat) => (m : Int)
theorem vi_ci (p : List Nat) : vi p = (ci p).map V.int := by simp [vi, ci]
theorem vi_len (p : List Nat) : (vi p).length = p.length := by simp [vi]
theorem vi_get {p : List Nat} {i m : Nat} (h : p[i]? = some m) : (vi p)[i]? = some (.int (m : Int)) := by simp [vi, h]
theorem vi_app (p q : List Nat) : vi (p ++ q) = vi p ++ vi q := by simp [vi]
theorem at_vi {p : List Nat} {i m : Nat} (h : p[i]? = some m) : atI (vi p) (i : Int) = some (.int (m : Int)) := atI_nat (vi_get h)
theorem sz60 {n : Nat} (h : n ≤ 100000) : n ≤ sizeLine := Nat.le_trans h (by decide)
theorem sz61 {n : Nat} (h : n ≤ 100000) : n < sizeLine := Nat.lt_of_le_of_lt h (by decide)
theorem decT {c : Prop} [Decidable c] (h : c) {A B : Prop} (a : A) : if decide c = true then A else B := by
  rw [if_pos (decide_eq_true h)]; exact a
theorem decF {c : Prop} [Decidable c] (h : ¬ c) {A B : Prop} (b : B) : if decide c = true then A else B := by
  rw [if_neg (by simp [h])]; exact b

/-! ### data of tuples: no list within -/
inductive Tf : PyData → Prop
  | non : Tf .none
  | bl (b : Bool) : Tf (.bool b)
  | int (i : Int) : Tf (.int i)
  | str (x : Str) : Tf (.str x)
  | tup {ds : List PyData} : (∀ d, d ∈ ds → Tf d) → Tf (.tuple ds)
theorem Tf.items {ds : List PyData} (h : Tf (.tuple ds)) : ∀ d, d ∈ ds → Tf d := by
  cases h with
  | tup h => exact h
theorem tf_ints (ns : List Int) : ∀ d, d ∈ ns.map PyData.int → Tf d := fun d h => by
  obtain ⟨i, _, rfl⟩ := List.mem_map.mp h
  exact .int i
/-- all tuples stay -/
def Keep (K : PySem.W.Frag) (H H' : Hp) : Prop := ∀ a xs, SqT K H a xs → SqT K H' a xs
theorem Keep.of {K : PySem.W.Frag} {H H' : Hp} (s : Same H H') : Keep K H H' := fun _ _ h => Same.tup s h
theorem Keep.trans {K : PySem.W.Frag} {H H1 H2 : Hp} (a : Keep K H H1) (b : Keep K H1 H2) : Keep K H H2 := fun _ _ h => b _ _ (a _ _ h)
theorem Keep.refl {K : PySem.W.Frag} {H : Hp} : Keep K H H := fun _ _ h => h
/-- all but the list at l stay -/
def But (l : Addr) (H H' : Hp) : Prop := ∀ b o, b ≠ l → H b = some o → H' b = some o
theorem But.refl {l : Addr} {H : Hp} : But l H H := fun _ _ _ h => h
theorem But.trans {l : Addr} {H H1 H2 : Hp} (a : But l H H1) (b : But l H1 H2) : But l H H2 := fun c o n h => b c o n (a c o n h)
theorem But.of {l : Addr} {H H' : Hp} (s : Same H H') : But l H H' := fun c o _ h => s c o h
theorem But.upd {l : Addr} {H : Hp} {o : HO} : But l H (L2.upd H l o) := fun c u n h => by rw [upd_ne n]; exact h
theorem But.keep {K : PySem.W.Frag} {l : Addr} {H H' : Hp} {ys : List V} (s : But l H H') (hl : H l = some (.lst ys)) : Keep K H H' := fun a xs h => by
  rcases h with (h | ⟨o, h⟩) | h
  · exact .inl (.inl (s _ _ (fun e => by rw [e, hl] at h; cases h) h))
  · exact .inl (.inr ⟨o, s _ _ (fun e => by rw [e, hl] at h; cases h) h⟩)
  · exact .inr h
theorem But.same {l : Addr} {H0 H H' : Hp} (s : Same H0 H) (b : But l H H') (n : H0 l = none) : Same H0 H' := fun c o e => b c o (ne_of_none e n) (s c o e)
theorem Dp.keep {K : PySem.W.Frag} {H H' : Hp} (e : Keep K H H') : ∀ {v : V} {d : PyData}, Tf d → Dp K H v d → Dp K H' v d := by
  intro v d t h
  refine Dp.rec (motive_1 := fun v d _ => Tf d → Dp K H' v d) (motive_2 := fun vs ds _ => (∀ d, d ∈ ds → Tf d) → DpAll K H' vs ds) ?_ ?_ ?_ ?_ ?_ ?_ ?_ ?_ h t
  · intro _; exact .non
  · intro b _; exact .bl b
  · intro i _; exact .int i
  · intro x _; exact .str x
  · intro a xs ds hs _ ih t; cases t
  · intro a xs ds hs _ ih t; exact .tup (e _ _ hs) (ih t.items)
  · intro _; exact .nil
  · intro v vs d ds _ _ h1 h2 t; exact .cons (h1 (t _ (List.mem_cons_self ..))) (h2 fun d hd => t d (List.mem_cons_of_mem _ hd))
theorem DpAll.keep {K : PySem.W.Frag} {H H' : Hp} (e : Keep K H H') : ∀ {vs : List V} {ds : List PyData}, (∀ d, d ∈ ds → Tf d) → DpAll K H vs ds → DpAll K H' vs ds
  | _, _, _, .nil => .nil
  | _, _, t, .cons a b => .cons (Dp.keep e (t _ (List.mem_cons_self ..)) a) (DpAll.keep e (fun d hd => t d (List.mem_cons_of_mem _ hd)) b)
theorem dp_ints_inv {K : PySem.W.Frag} {H : Hp} : ∀ {ns : List Int} {vs : List V}, DpAll K H vs (ns.map PyData.int) → vs = ns.map V.int
  | [], _, .nil => rfl
  | n :: ns, _, .cons a b => by
    cases a
    rw [dp_ints_inv b]
    rfl
theorem Dp.tupInv {K : PySem.W.Frag} {H : Hp} {v : V} {ds : List PyData} (h : Dp K H v (.tuple ds)) : ∃ a xs, v = .ref a ∧ SqT K H a xs ∧ DpAll K H xs ds := by
  cases h with
  | tup h1 h2 => exact ⟨_, _, rfl, h1, h2⟩
theorem Dp.intsInv {K : PySem.W.Frag} {H : Hp} {v : V} {ns : List Int} (h : Dp K H v (.tuple (ns.map PyData.int))) : ∃ a, v = .ref a ∧ SqT K H a (ns.map V.int) := by
  obtain ⟨a, xs, e, h1, h2⟩ := Dp.tupInv h
  rw [dp_ints_inv h2] at h1
  exact ⟨a, e, h1⟩

/-! ### a comprehension that gives an item at each turn -/
theorem lc_all {K : PySem.W.Frag} {J : It} {n : Nat} {G : Hp → Prop} {Y : Nat → Hp → V → Hp → Prop} (w : Walk J n G Y) {g : TG} {tt : TT} {te : TE} {vs : List Nat} {σ : L2.St} {H1 : Hp} {D : Addr} {Qd : Hp → Prop}
    (ds : List PyData) (hl : ds.length = n) (ht : ∀ d, d ∈ ds → Tf d) (hn : n ≤ 1000) (hD : H1 D = none) (hG : ∀ H, Same H1 H → G H)
    (hs : ∀ i x H H', i < n → Same H1 H → Y i H x H' → ∀ d, ds[i]? = some d → ∀ R : V → Hp → Prop, (∀ y H4, Same H H4 → Dp K H4 y d → R y H4) →
      g x (wipe σ vs) H' fun σ2 H2 => wipe σ2 vs = wipe σ vs ∧ tt σ2 H2 fun b H3 => b = true ∧ te σ2 H3 R)
    (hd : ∀ H acc, Same H1 H → H D = some (.lst acc) → DpAll K H acc ds → Qd H)
    (mg : ∀ x σ' H' (Q Q' : L2.St → Hp → Prop), (∀ a b, Q a b → Q' a b) → g x σ' H' Q → g x σ' H' Q') (mt : ∀ σ' H' (Q Q' : Bool → Hp → Prop), (∀ a b, Q a b → Q' a b) → tt σ' H' Q → tt σ' H' Q') :
    ∃ W : Nat → Nat → Hp → Prop, (∃ m, W 0 m (upd H1 D (.lst []))) ∧ ∀ i m H, W i m H →
      (J.stop i H ∧ Qd H) ∨ (J.go i H ∧ ∃ Nx : Hp → Prop, (∀ H', Nx H' → ∃ m', m' < m ∧ W (i + 1) m' H') ∧ ∀ x H', J.yld i H x H' → g x (wipe σ vs) H' fun σ2 H2 => wipe σ2 vs = wipe σ vs ∧ tt σ2 H2 fun b H3 =>
        if b = true then te σ2 H3 fun y H4 => ∃ acc, H4 D = some (.lst acc) ∧ acc.length < sizeLine ∧ Nx (upd H4 D (.lst (acc ++ [y]))) else Nx H3) := by
  refine lc_it w (fun i H => Same H1 H ∧ ∃ acc, H D = some (.lst acc) ∧ DpAll K H acc (ds.take i)) ⟨same_upd hD, [], upd_same, .nil⟩ (fun i H _ h => hG H h.1) ?_ ?_
  · rintro i x H H' hi ⟨s1, acc, ha, hA⟩ hy
    have hd' : ds[i]? = some ds[i] := List.getElem?_eq_getElem (by omega)
    have hlen := DpAll.len hA
    rw [List.length_take] at hlen
    refine mg _ _ _ _ _ ?_ (hs i x H H' hi s1 hy ds[i] hd' (fun y H4 => ∃ acc, H4 D = some (.lst acc) ∧ acc.length < sizeLine ∧ (Same H1 (upd H4 D (.lst (acc ++ [y]))) ∧ ∃ acc', (upd H4 D (.lst (acc ++ [y]))) D = some (.lst acc') ∧ DpAll K (upd H4 D (.lst (acc ++ [y]))) acc' (ds.take (i + 1)))) ?_)
    · rintro σ2 H2 ⟨h1, h2⟩
      refine ⟨h1, mt _ _ _ _ ?_ h2⟩
      rintro b H3 ⟨rfl, h3⟩
      exact iteT h3
    · intro y H4 s4 hy4
      refine ⟨acc, s4 _ _ ha, sz61 (by omega), Same.mut (s1.trans s4) hD, acc ++ [y], upd_same, ?_⟩
      have kp : Keep K H4 (upd H4 D (.lst (acc ++ [y]))) := But.keep But.upd (s4 _ _ ha)
      rw [List.take_add_one, hd']
      refine DpAll.keep kp (fun d h => ?_) (DpAll.append (DpAll.same s4 hA) (.cons hy4 .nil))
      rcases List.mem_append.mp h with h | h
      · exact ht d (List.mem_of_mem_take h)
      · have e : d = ds[i] := by simpa using h
        rw [e]; exact ht _ (List.getElem_mem ..)
  · rintro H ⟨s1, acc, ha, hA⟩
    rw [List.take_of_length_le (by omega)] at hA
    exact hd H acc s1 ha hA

/-! ### tuples cut and joined -/
theorem cut_to {xs : List V} {k : Nat} (h : k ≤ xs.length) : cutV xs none (some (k : Int)) = xs.take k := by
  unfold cutV
  rw [HT.sIx_none, HT.sIx_nat, Nat.min_eq_left h]
  simp
theorem cut_from {xs : List V} {k : Nat} (h : k ≤ xs.length) : cutV xs (some (k : Int)) none = xs.drop k := by
  unfold cutV
  rw [HT.sIx_none, HT.sIx_nat, Nat.min_eq_left h]
  rw [List.take_of_length_le (by rw [List.length_drop]; omega)]
theorem sl_read {K : PySem.W.Frag} {H : Hp} {a : Addr} {xs : List V} {lo hi : Option Int} {Q : VK} (h : SqT K H a xs) (q : ∀ p H', Same H H' → SqT K H' p (cutV xs lo hi) → Q (.ref p) H') : rSlA K (.ref a) lo hi H Q := by
  refine ⟨a, xs, rfl, h, fun e => q a H (Same.refl H) ?_, fun _ p hp => q p _ (same_upd hp) (.inl (.inl upd_same))⟩
  unfold cutV
  rw [e.1, e.2]
  simpa using h
theorem cat_read {K : PySem.W.Frag} {H : Hp} {a b : Addr} {xs ys : List V} {Q : VK} (ha : SqT K H a xs) (hb : SqT K H b ys) (hz : xs.length + ys.length ≤ 100000) (q : ∀ p H', Same H H' → SqT K H' p (xs ++ ys) → Q (.ref p) H') : rCatA K (.ref a) (.ref b) H Q := by
  refine ⟨a, b, xs, ys, rfl, rfl, ha, hb, sz60 hz, fun e => q b H (Same.refl H) ?_, fun _ e => q a H (Same.refl H) ?_, fun _ _ p hp => q p _ (same_upd hp) (.inl (.inl upd_same))⟩
  · rw [e]; exact hb
  · rw [e, List.append_nil]; exact ha
theorem DpAll.snoc {K : PySem.W.Frag} {H : Hp} : ∀ {vs : List V} {ds : List PyData} {d : PyData}, DpAll K H vs (ds ++ [d]) → ∃ us v, vs = us ++ [v] ∧ DpAll K H us ds ∧ Dp K H v d
  | _, [], _, .cons a .nil => ⟨[], _, rfl, .nil, a⟩
  | _, _ :: ds, _, .cons a b => by
    obtain ⟨us, v, e, h1, h2⟩ := DpAll.snoc b
    exact ⟨_ :: us, v, by rw [e]; rfl, .cons a h1, h2⟩
theorem ixN_of {n j : Nat} (hj : j < n) : ixN n (j : Int) = some j := by
  unfold ixN
  rw [if_pos (by omega), if_pos (by omega)]
  simp
theorem vi_set (c : List Nat) (k v : Nat) : (vi c).set k (.int (v : Int)) = vi (c.set k v) := by
  unfold vi
  rw [List.map_set]
theorem vi_rep (n v : Nat) : vi (List.replicate n v) = List.replicate n (.int (v : Int)) := by simp [vi]

/-! ### [x for x in range(lo, hi) if ..] -/
theorem lc_fil {lo : Int} {n j : Nat} {vs : List Nat} {σ : L2.St} {H1 : Hp} {D : Addr} {Qd : Hp → Prop} {tt : TT} (f : Nat → Bool) (hn : n ≤ 1000) (hD : H1 D = none)
    (hw : ∀ x, wipe ((wipe σ vs).set j (some x)) vs = wipe σ vs) (hj : ∀ x : V, ((wipe σ vs).set j (some x))[j]? = some (some x))
    (ht : ∀ (i : Nat) H (Q : Bool → Hp → Prop), i < n → Same H1 H → Q (f i) H → tt ((wipe σ vs).set j (some (.int (lo + (i : Nat))))) H Q)
    (hd : ∀ H, Same H1 H → H D = some (.lst (((List.range n).filter f).map fun (i : Nat) => V.int (lo + (i : Nat)))) → Qd H) :
    ∃ W : Nat → Nat → Hp → Prop, (∃ m, W 0 m (upd H1 D (.lst []))) ∧ ∀ i m H, W i m H →
      ((Itr lo n).stop i H ∧ Qd H) ∨ ((Itr lo n).go i H ∧ ∃ Nx : Hp → Prop, (∀ H', Nx H' → ∃ m', m' < m ∧ W (i + 1) m' H') ∧ ∀ x H', (Itr lo n).yld i H x H' → gName j x (wipe σ vs) H' fun σ2 H2 => wipe σ2 vs = wipe σ vs ∧ tt σ2 H2 fun b H3 =>
        if b = true then tVar j σ2 H3 fun y H4 => ∃ acc, H4 D = some (.lst acc) ∧ acc.length < sizeLine ∧ Nx (upd H4 D (.lst (acc ++ [y]))) else Nx H3) := by
  refine lc_range (lo := lo) (n := n) (fun i H => Same H1 H ∧ H D = some (.lst (((List.range i).filter f).map fun (i : Nat) => V.int (lo + (i : Nat))))) ⟨same_upd hD, upd_same⟩ ?_ ?_
  · rintro i H hi ⟨s1, h1⟩
    refine ⟨hw _, ht i H _ hi s1 ?_⟩
    have hlen : (((List.range i).filter f).map fun (i : Nat) => V.int (lo + (i : Nat))).length ≤ i := by
      rw [List.length_map]
      have := List.length_filter_le f (List.range i)
      rw [List.length_range] at this
      exact this
    by_cases hf : f i = true
    · rw [hf]
      refine iteT ⟨_, hj _, _, h1, sz61 (by omega), Same.mut s1 hD, ?_⟩
      rw [List.range_succ, List.filter_append, List.map_append]
      simp only [List.filter_cons, hf, if_true, List.filter_nil, List.map_cons, List.map_nil]
      exact upd_same
    · have hf' : f i = false := by simpa using hf
      rw [hf']
      refine iteF ⟨s1, ?_⟩
      rw [List.range_succ, List.filter_append, List.map_append]
      simpa [hf'] using h1
  · rintro H ⟨s1, h1⟩
    exact hd H s1 h1
theorem iteB1 {b : Bool} {A B : Prop} (h : b = true) (a : A) : if b = true then A else B := by rw [if_pos h]; exact a
theorem iteB0 {b : Bool} {A B : Prop} (h : b = false) (a : B) : if b = true then A else B := by rw [if_neg (by rw [h]; decide)]; exact a

/-! ### deep comparisons -/
theorem lay_all : ∀ {ds : List PyData}, (∀ d, d ∈ ds → d.canLay0 = true) → PyData.canLayAll0 ds = true
  | [], _ => by simp [PyData.canLayAll0]
  | d :: ds, h => by
    simp only [PyData.canLayAll0]
    rw [h d (List.mem_cons_self ..), lay_all fun e he => h e (List.mem_cons_of_mem _ he)]; rfl
theorem dep_all {k : Nat} : ∀ {ds : List PyData}, (∀ d, d ∈ ds → d.depth ≤ k) → PyData.depthAll ds ≤ k
  | [], _ => by simp [PyData.depthAll]
  | d :: ds, h => by
    simp only [PyData.depthAll]
    have h1 := h d (List.mem_cons_self ..)
    have h2 := dep_all (k := k) fun e he => h e (List.mem_cons_of_mem _ he)
    omega
/-- plain data of at most so many levels -/
def Sh (k : Nat) (d : PyData) : Prop := d.canLay0 = true ∧ d.depth ≤ k
theorem Sh.shaped {k : Nat} {d : PyData} (h : Sh k d) (hk : k ≤ 64) : SeqAt.shaped d = true := by
  unfold SeqAt.shaped
  rw [h.1, decide_eq_true (by have := h.2; omega)]; rfl
theorem Sh.tup {k : Nat} {ds : List PyData} (h : ∀ d, d ∈ ds → Sh k d) : Sh (k + 1) (.tuple ds) :=
  ⟨by simp only [PyData.canLay0]; exact lay_all fun d hd => (h d hd).1, by simp only [PyData.depth]; have := dep_all (k := k) (ds := ds) fun d hd => (h d hd).2; omega⟩
theorem Sh.lst {k : Nat} {ds : List PyData} (h : ∀ d, d ∈ ds → Sh k d) : Sh (k + 1) (.list ds) :=
  ⟨by simp only [PyData.canLay0]; exact lay_all fun d hd => (h d hd).1, by simp only [PyData.depth]; have := dep_all (k := k) (ds := ds) fun d hd => (h d hd).2; omega⟩
theorem Sh.int (i : Int) {k : Nat} : Sh k (.int i) := ⟨by simp [PyData.canLay0], by simp [PyData.depth]⟩
theorem Sh.ints {k : Nat} (ns : List Int) : ∀ d, d ∈ ns.map PyData.int → Sh k d := fun d h => by
  obtain ⟨i, _, rfl⟩ := List.mem_map.mp h
  exact .int i
theorem eq_data {K : PySem.W.Frag} {H : Hp} {x y : V} {d : PyData} {Q : VK} {k : Nat} (hx : Dp K H x d) (hy : Dp K H y d) (hs : Sh k d) (hk : k ≤ 64) (q : Q (.bl true) H) : rEqD K x y H Q :=
  ⟨d, d, hx, hy, hs.shaped hk, hs.shaped hk, by rw [SeqAt.eqv_refl d hs.1]; exact q⟩
theorem ne_data {K : PySem.W.Frag} {H : Hp} {x y : V} {d : PyData} {Q : VK} {k : Nat} (hx : Dp K H x d) (hy : Dp K H y d) (hs : Sh k d) (hk : k ≤ 64) (q : Q (.bl false) H) : rNeD K x y H Q :=
  ⟨d, d, hx, hy, hs.shaped hk, hs.shaped hk, by rw [SeqAt.eqv_refl d hs.1]; exact q⟩
theorem dp_tup {K : PySem.W.Frag} {H : Hp} {a : Addr} {ns : List Int} (h : SqT K H a (ns.map V.int)) : Dp K H (.ref a) (.tuple (ns.map PyData.int)) := .tup h (dp_ints ns)
theorem ne_ints {K : PySem.W.Frag} {H : Hp} {a b : Addr} {ns : List Int} {Q : VK} (ha : SqT K H a (ns.map V.int)) (hb : SqT K H b (ns.map V.int)) (q : Q (.bl false) H) : rNeD K (.ref a) (.ref b) H Q :=
  ne_data (dp_tup ha) (dp_tup hb) (Sh.tup (k := 0) (Sh.ints ns)) (by decide) q
end MB

set_option maxHeartbeats 4000000
namespace MB
open PySem PySem.Spec PyProof.Rows L2

/-! ### a def called where no repr is under way -/
structure FnG (P : Program) (w : World) (K : PySem.W.Frag) (mg : Str → Option Value) (base : Heap) (CX : CXT) (k : Nat) (f : Addr) (fd : FuncData) (ps : List Str) (sp : Sp) : Prop where
  len : ∀ vs H Q E, sp vs H Q E → vs.length = ps.length
  run : ∀ (A : Around), A.guards = some [] → Room k A → ∀ (outer : List Env) (s : Shared) (H : Hp) (args : Args) (us : List Value) (vs : List V) (Q : VK) (E : XK),
    Env0 P w K mg base A outer s H → BindsTo s fd args (ps.zip us) → Vals vs us → sp vs H Q E → codeAny (model P w) A (.call (.ref f) args) (CR CX outer P w H s Q E) s
section
variable {P : Program} {w : World} {K : PySem.W.Frag} {mg : Str → Option Value} {base : Heap} {CX : CXT} {k : Nat} {f : Addr} {fd : FuncData} {ps : List Str} {sp : Sp}
theorem FnG.of (F : FnOk P w K mg base CX k f fd ps sp) : FnG P w K mg base CX k f fd ps sp :=
  ⟨F.len, fun A _ hr outer s H args us vs Q E => F.run A outer s H args us vs Q E hr⟩
theorem deeper_guards {A : Around} {env : Env} (h : A.guards = some []) : (A.deeper env).guards = some [] := h
theorem fnG_of {name qual : Str} {params : Arguments} {body : List Stmt} {scope : Scope} {dV kV doc pm cdv ct oc : Value} {an od : Option Addr} {osl : Array (Option Value)} {N : List Str}
    (lk : K.lookup f = some ⟨oc, od, .func (PySem.W.fnOf name qual params body scope dV kV doc pm an cdv ct), osl⟩) (hcd : PySem.W.codeIn K cdv qual = true) (S : FnScope N ps scope)
    (len : ∀ vs H Q E, sp vs H Q E → vs.length = ps.length)
    (hbody : ∀ (A : Around), A.guards = some [] → ∀ (outer : List Env) (s : Shared) (H : Hp) (vs : List V) (Q : VK) (E : XK), Room k (A.deeper (envOfC qual scope s.heap.objs.size f cdv)) → sp vs H Q E →
      ∃ t, PSs (cxOf CX P w K mg base N qual scope f cdv A outer s H E) body t ∧ t { nx := fun _ H' => Q .non H', rt := Q } (start N vs) H) :
    FnG P w K mg base CX (k + 1) f (PySem.W.fnOf name qual params body scope dV kV doc pm an cdv ct) ps sp := by
  refine ⟨len, fun A hgd hr outer s H args us vs Q E e0 hb r hsp => ?_⟩
  have kept : ∀ b o, base.get? b = some o → s.heap.get? b = some o := fun b o e => (e0.bs b o e).1
  have KX : K.In s.heap := e0.mod.kin.keeps kept
  obtain ⟨t, ht, hq⟩ := hbody A hgd outer s H vs Q E (hr.deeper _) hsp
  have par : ∀ y ∈ ps.zip us, scope.names.lookup y.1 = some .local ∨ (scope.names.lookup y.1 = some .cell ∧ ((cellsFrom (s.heap.objs.size + 1) scope.names []).lookup y.1).isSome = true) := by
    rintro ⟨n, v⟩ hy
    exact (S.par n (List.of_mem_zip hy).1).imp id fun z => ⟨z, PySem.W.cellsFrom_some _ _ _ (.inl z)⟩
  refine codeAny_call_function hr.depth (KX _ _ lk) rfl S.co S.gen rfl (PySem.W.codeRec_of KX hcd) (hb _ _ _ _ (wpAny_newFunctionEnv_cells S.kind par fun env he s1 x => ?_))
  subst he
  refine ⟨(e0.mod.nolimit.keeps kept).keeps x.toInCall.keep, codeAny_func (wpAny_mono (ht.run [] s1 (start N vs) H _ (inv_start S hr.hd e0 (len _ _ _ _ hsp) r x) hq) (fun fl s' hs => ?_) fun e s' hs => hs)⟩
  rcases fl with _ | _ | _ | u
  · obtain ⟨σ', H', J, q⟩ := hs
    exact ⟨V.non, H', J.os, J.bare, J.base, J.hok, rfl, q⟩
  · exact (let ⟨_, _, _, q⟩ := hs; False.elim q)
  · exact (let ⟨_, _, _, q⟩ := hs; False.elim q)
  · obtain ⟨v, σ', H', J, rv, q⟩ := hs
    exact ⟨v, H', J.os, J.bare, J.base, J.hok, rv, q⟩
theorem Fun.okG {x qual : Str} {st : Stmt} {N : List Str} (F : L2.Fun K x qual st f fd) (S : FnScope N ps (defScope st)) (len : ∀ vs H Q E, sp vs H Q E → vs.length = ps.length)
    (hbody : ∀ (cdv : Value) (A : Around), A.guards = some [] → ∀ (outer : List Env) (s : Shared) (H : Hp) (vs : List V) (Q : VK) (E : XK), Room k (A.deeper (envOfC qual (defScope st) s.heap.objs.size f cdv)) → sp vs H Q E →
      ∃ t, PSs (cxOf CX0 P w K mg base N qual (defScope st) f cdv A outer s H E).nox (defBody st) t ∧ t { nx := fun _ H' => Q .non H', rt := Q } (start N vs) H) : FnG P w K mg base CX0 (k + 1) f fd ps sp := by
  obtain ⟨oc, od, kV, doc, pm, an, cdv, ct, osl, rfl, lk, hcd⟩ := F.ex
  exact fnG_of lk hcd S len fun A hgd outer s H vs Q E hr hsp => let ⟨t, h, q⟩ := hbody cdv A hgd outer s H vs Q E hr hsp; ⟨t, h.nox, q⟩
end
section
variable {X : Cx} {CX : CXT} {k : Nat} {f : Addr} {fd : FuncData} {ps : List Str} {sp : Sp} {ds : List Value} {dvs : List V} {E : XK} {x : Str} {p pos : Pos} {e : Expr} {es : List Expr} {t : TA}
theorem pe_callG (F : FnG X.prog X.w X.K X.mg X.base CX k f fd ps sp) (hgd : X.A.guards = some []) (hr : Room k X.A) (hg : Gl X x) (hm : X.mg x = some (.ref f)) (hk : PySem.W.keepIn X.K (.ref f) = true) (hb : Binds X.K fd ps ds) (hd : Vals dvs ds) (hx : Passes CX X E)
    (ha : PA X (e :: es) t) (hdb : (x == ("__debug__" : Str)) = false := by decide) (he : starEach (e :: es) X.env = (false, eval e X.env) :: starEach es X.env := by rfl) (hpl : (backTo pos (starEach es X.env)).any (·.1) = false := by rfl) :
    PE X (.Call (.Name x p) (e :: es) [] pos) (tCall sp dvs E t) := by
  refine ⟨fun pins s σ H Q I h => wpAny_Call_Name_kw (ld_glob I hg hm (PySem.W.callWith_K (h₀ := X.base) I.ok.mod.kin hk (thn (ha.run pos pins s σ H _ I h) fun us s1 ⟨vs, H1, I1, r, q⟩ => ⟨I1.kIn, ?_⟩) he hpl) hdb)⟩
  have r2 : Vals (vs ++ dvs) (us ++ ds) := r.append hd
  have hl : (us ++ ds).length = ps.length := r2.length.symm.trans (F.len _ _ _ _ q)
  refine wpAny_call (codeAny_mono (F.run X.A hgd hr X.stack s1 H1 ⟨us, []⟩ (us ++ ds) (vs ++ dvs) Q E I1.env0 (hb s1 us I1.kIn hl) r2 q) fun res s' hq => ?_)
  rcases res with e | fl
  · exact hx pins σ H1 s1 e s' I1 hq
  · rcases fl with _ | _ | _ | u
    · exact False.elim hq
    · exact False.elim hq
    · exact False.elim hq
    · exact I1.after hq
end

/-! ### repr of plain data -/
def rReprD (K : PySem.W.Frag) : List V → Hp → VK → Prop := fun xs H Q => ∃ (x : V) (d : PyData), xs = [x] ∧ Dp K H x d ∧ d.canLay0 = true ∧ d.showable = true ∧ d.depth ≤ 60 ∧ d.shown.length ≤ sizeLine ∧ Q (.str d.shown) H
theorem call_reprD {X : Cx} (hgd : X.A.guards = some []) (hu : X.A.units + 64 < cLine) : CallR X (.builtin "repr") (rReprD X.K) := by
  intro pins s σ H xs us Q I r h
  obtain ⟨x, d, rfl, hd, hc, hs, hdep, hz, q⟩ := h
  obtain ⟨u, rfl, rx⟩ := vals1 r
  obtain ⟨as, rd⟩ := Dp.reads I d x u hd rx
  have nd := PyData.hasDict_of_canLay d hc
  have fin : ∀ (h' : Heap) (v tk : Tok), (∀ b o, s.heap.get? b = some o → h'.get? b = some o) → EP X pins σ Q (.str d.shown v) { s with heap := h', toks := tk } := fun h' v tk hk => ⟨.str d.shown, H, I.kept hk, ⟨_, rfl⟩, q⟩
  cases rd with
  | none => exact PySem.P.repr_of_none (fin _ _ _ fun _ _ e => e)
  | bool b =>
    refine PySem.P.repr_of_bool ?_
    cases b <;> exact fin s.heap s.toks (s.toks + 1) fun _ _ e => e
  | int i t => exact PySem.P.repr_of_int (by simpa [PyData.showable] using hs) (fin s.heap s.toks (s.toks + 1) fun _ _ e => e)
  | str y t => exact PySem.P.repr_of_str (fin s.heap s.toks (s.toks + 1) fun _ _ e => e) hz
  | list h1 h2 h3 h4 => exact repr_of_reads' (.list h1 h2 h3 h4) hs (PyData.noDict_hsm nd) hgd (by omega) (fun _ _ e => e) fin hz
  | tuple h1 h2 h3 h4 => exact repr_of_reads' (.tuple h1 h2 h3 h4) hs (PyData.noDict_hsm nd) hgd (by omega) (fun _ _ e => e) fin hz
  | dict h1 h2 h3 h4 h5 => simp [PyData.canLay0] at hc

/-! ### the end: a law whose promise asks that no repr is under way -/
theorem law_callG {P : Program} {w : World} {K : PySem.W.Frag} {mg mb : Str → Option Value} {k : Nat} {fa a : Addr} {fd : FuncData} {x : Str} {sp : Sp} {s₁ : Shared} {vs : List Value} {ns : List Int}
    (KX : K.In s₁.heap) (hns : s₁.heap.Ns mainGlobals mg) (hb : s₁.heap.Ns builtinsNs mb) (hbb : ∀ x : Str, x ≠ "__name__" → mb x = bootBuiltins x) (hlim : s₁.heap.NoLimit) (hg : s₁.gens = #[])
    (ha : s₁.heap.get? a = some { cls := .type "list", data := .seq vs.toArray }) (hi : IntsAre vs ns) (hl : ns.length ≤ sizeLine) (hr : Room k callerA)
    (F : ∀ base : Heap, K.In base → base.Ns mainGlobals mg → FnG P w K mg base CX0 k fa fd [x] sp) (hbind : ∀ (s : Shared) (u : Value), BindsTo s fd ⟨[u], []⟩ [(x, u)])
    (hsp : ∀ H : Hp, SqL K H a (ns.map V.int) → sp [.ref a] H (fun v _ => v = .bl true) fun _ _ _ => False) :
    codeAny (model P w) callerA (.call (.ref fa) ⟨[.ref a], []⟩) (fun r s' => r = .ok (.ret (.bool true)) ∧ OldK s₁.heap s'.heap ∧ s'.os = s₁.os ∧ AllBare s'.gens) s₁ := by
  let oS : Obj := { cls := .type "list", data := .seq vs.toArray }
  -- the script is tracked as it stands, unless it is one of the module's own objects
  let H : Hp := fun b => if b = a ∧ K.lookup a = none then some (.frz oS (.lst (ns.map V.int))) else none
  have rv := vals_ints hi
  have Hsome : ∀ {b : Addr} {o : HO}, H b = some o → b = a ∧ K.lookup a = none ∧ o = .frz oS (.lst (ns.map V.int)) := fun {b o} e => by
    by_cases c : b = a ∧ K.lookup a = none
    · have e' := (if_pos c).symm.trans e
      exact ⟨c.1, c.2, (Option.some.inj e').symm⟩
    · have e' := (if_neg c).symm.trans e
      cases e'
  have free : ∀ {b : Addr}, (∀ z : b = a, K.lookup a ≠ none) → H b = none := fun {b} n => if_neg fun c => n c.1 c.2
  have hS : SqL K H a (ns.map V.int) := by
    cases hk : K.lookup a with
    | none => exact .inl (.inr ⟨oS, if_pos ⟨rfl, hk⟩⟩)
    | some o =>
      have e := (KX a o hk).symm.trans ha
      cases e
      exact .inr ⟨_, vs.toArray, _, hk, rfl, rfl, rfl, by rw [List.size_toArray, hi.length]; exact hl, by simpa using rv⟩
  have hok : HOk P w H s₁.heap := fun b o e => by
    obtain ⟨rfl, _, rfl⟩ := Hsome e
    exact ⟨ha, by rw [List.length_map]; exact hl, vs, _, rv, ha⟩
  have noDict : ∀ {b : Addr} {o : Obj} {es : Array DictEntry} {ep : Nat}, s₁.heap.get? b = some o → o.data = .dict es ep → H b = none := fun {b o es ep} e d => free fun z => by
    subst z
    rw [ha] at e
    cases e
    cases d
  have ns_hid : ∀ {b : Addr} {m : Str → Option Value}, s₁.heap.Ns b m → (hidT s₁.heap H).Ns b m := fun {b m} ⟨o, es, ep, e, d, r⟩ => ⟨o, es, ep, hidT_get e (noDict e d), d, r⟩
  have hKb : K.In (hidT s₁.heap H) := fun b o e => hidT_get (KX b o e) (free fun z => by subst z; rw [e]; exact fun y => nomatch y)
  have hM : Mod K mg (hidT s₁.heap H) := ⟨hKb, ns_hid hns, ⟨mb, ns_hid hb, hbb⟩, let ⟨mc, h1, h2⟩ := hlim; ⟨mc, ns_hid h1, h2⟩⟩
  have e0 : Env0 P w K mg (hidT s₁.heap H) callerA [] s₁ H := ⟨rfl, hM, fun b o e => of_hidT e, Nat.le_of_eq (hidT_size _ _), trivial, (fun b hb => absurd (show b ∈ ([] : List Addr) from hb) (by simp)), hok, .of_eq hg⟩
  refine codeAny_mono ((F _ hKb (ns_hid hns)).run callerA rfl hr [] s₁ H ⟨[.ref a], []⟩ [.ref a] [.ref a] _ _ e0 (hbind s₁ (.ref a)) (.cons rfl .nil) (hsp H hS)) fun r s' h => ?_
  rcases r with e | fl
  · exact False.elim h
  rcases fl with _ | _ | _ | u
  · exact False.elim h
  · exact False.elim h
  · exact False.elim h
  obtain ⟨v, H', os, bare, un, hok', r', q⟩ := h
  have q' : v = .bl true := q
  subst q'
  obtain rfl : u = Value.bool true := r'
  refine ⟨rfl, OldK.of_keep fun b o e => ?_, os, bare⟩
  cases hb' : H b with
  | none => exact un.keep b o e hb' (fun z => absurd (show b ∈ ([] : List Addr) from z) (by simp)) (by simp)
  | some u =>
    obtain ⟨rfl, hk, rfl⟩ := Hsome hb'
    have e2 := (hok' _ _ (un.frzs _ oS _ hb')).1
    rw [ha] at e
    cases e
    exact e2
theorem walk_ofG {l : PySem.W.OpenLaw} {n k : Nat} {q : Program} {loose : List Str} {XP : (Str → Option Value) → Heap → Prop} {YP : World → Heap → Prop} {d : DefRec} {K : Params → PySem.W.Frag} {sp : PySem.W.Frag → Sp} {x : Str}
    (hn : l.most = some n) (hn2 : n ≤ sizeLine) (hdf : d.params.defaults = []) (hr : Room k callerA)
    (hY : ∀ (w : World) (h : Heap), YP w h → (K w.params).In h)
    (F : ∀ (w : World) (mg : Str → Option Value) (fa : Addr) (h : Heap), (K w.params).In h → h.Ns mainGlobals mg → mg d.name = some (.ref fa) →
      ∃ fd : FuncData, (∀ (s : Shared) (u : Value), BindsTo s fd ⟨[u], []⟩ [(x, u)]) ∧
        ∀ base : Heap, (K w.params).In base → base.Ns mainGlobals mg → FnG l.prog w (K w.params) mg base CX0 k fa fd [x] (sp (K w.params)))
    (hsp : ∀ (K : PySem.W.Frag) (H : Hp) (a : Addr) (ns : List Int), ns.length ≤ n → SqL K H a (ns.map V.int) → sp K [.ref a] H (fun v _ => v = .bl true) fun _ _ _ => False) :
    PySem.W.WalkO q loose XP YP l.row.toRowW d [] (fun f vs => PySem.call f vs) :=
  Att.attach_call hn hdf fun w s₀ s₁ mg mb fa o pm cd doc a vs ns G Y ho hd hcd hmg hobj hints hlen hg =>
    have KX := hY w _ Y
    let ⟨fd, hb, hF⟩ := F w mg fa _ KX G.T.g hmg
    law_callG KX G.T.g G.T.b G.T.builtins G.T.nolimit hg hobj hints (Nat.le_trans hlen hn2) hr hF hb fun H hS => hsp _ H a ns hlen hS
end MB

set_option maxHeartbeats 4000000
namespace MB
open PySem PySem.Spec PyProof.Rows L2
/-- data whose repr is asked: levels, size -/
structure Rp (k n : Nat) (d : PyData) : Prop where
  sh : Sh k d
  shw : d.showable = true
  short : d.leavesShort 13 = true
  bulk : d.bulk ≤ n
theorem Rp.mono {k n m : Nat} {d : PyData} (h : Rp k n d) (e : n ≤ m) : Rp k m d := ⟨h.sh, h.shw, h.short, Nat.le_trans h.bulk e⟩
theorem Rp.int {i : Int} {k : Nat} (h : i.natAbs < 1000000) : Rp k 0 (.int i) := by
  refine ⟨.int i, ?_, ?_, by simp [PyData.bulk]⟩
  · simp only [PyData.showable]
    refine decide_eq_true ?_
    by_cases h0 : i.natAbs = 0
    · rw [h0]; decide
    · exact Nat.lt_trans ((Nat.log2_lt h0).mpr (show i.natAbs < 2 ^ 20 by omega)) (by decide)
  · simp only [PyData.leavesShort]
    refine decide_eq_true ?_
    have e := int_text_length_le10 (a := i) (k := 6) (by decide) h
    have e2 : (PyData.shown (.int i)).length = (toString i).length := by
      simp only [PyData.shown]
      exact PySem.ofString_length _
    omega
theorem rp_all {k n : Nat} : ∀ {ds : List PyData}, (∀ d, d ∈ ds → Rp k n d) → PyData.showableAll ds = true ∧ PyData.leavesShortAll 13 ds = true ∧ PyData.bulkAll ds ≤ (n + 1) * ds.length
  | [], _ => ⟨by simp [PyData.showableAll], by simp [PyData.leavesShortAll], by simp [PyData.bulkAll]⟩
  | d :: ds, h => by
    have h1 := h d (List.mem_cons_self ..)
    obtain ⟨a, b, c⟩ := rp_all fun e he => h e (List.mem_cons_of_mem _ he)
    refine ⟨by simp only [PyData.showableAll, h1.shw, a, Bool.and_self], by simp only [PyData.leavesShortAll, h1.short, b, Bool.and_self], ?_⟩
    simp only [PyData.bulkAll, List.length_cons]
    have := h1.bulk
    rw [Nat.mul_add]
    omega
theorem Rp.tup {k n m : Nat} {ds : List PyData} (h : ∀ d, d ∈ ds → Rp k n d) (hm : (n + 1) * ds.length ≤ m) : Rp (k + 1) m (.tuple ds) := by
  obtain ⟨a, b, c⟩ := rp_all h
  exact ⟨Sh.tup fun d hd => (h d hd).sh, by simp only [PyData.showable]; exact a, by simp only [PyData.leavesShort]; exact b, by simp only [PyData.bulk]; omega⟩
theorem Rp.lst {k n m : Nat} {ds : List PyData} (h : ∀ d, d ∈ ds → Rp k n d) (hm : (n + 1) * ds.length ≤ m) : Rp (k + 1) m (.list ds) := by
  obtain ⟨a, b, c⟩ := rp_all h
  exact ⟨Sh.lst fun d hd => (h d hd).sh, by simp only [PyData.showable]; exact a, by simp only [PyData.leavesShort]; exact b, by simp only [PyData.bulk]; omega⟩
theorem Rp.ints {ns : List Int} {k m : Nat} (h : ∀ i, i ∈ ns → i.natAbs < 1000000) (hm : ns.length ≤ m) : Rp (k + 1) m (.tuple (ns.map PyData.int)) :=
  Rp.tup (n := 0) (fun d hd => by obtain ⟨i, hi, rfl⟩ := List.mem_map.mp hd; exact .int (h i hi)) (by rw [List.length_map]; omega)
theorem Rp.bool {b : Bool} {k : Nat} : Rp k 0 (.bool b) := ⟨⟨by simp [PyData.canLay0], by simp [PyData.depth]⟩, by simp [PyData.showable], by simp [PyData.leavesShort], by simp [PyData.bulk]⟩
/-- repr(x), by data -/
theorem repr_read {K : PySem.W.Frag} {H : Hp} {x : V} {d : PyData} {Q : VK} {k n : Nat} (hd : Dp K H x d) (hs : Rp k n d) (hk : k ≤ 60) (hn : n ≤ 1048576) (q : Q (.str d.shown) H) : rReprD K [x] H Q :=
  ⟨x, d, rfl, hd, hs.sh.1, hs.shw, Nat.le_trans hs.sh.2 hk, PyData.shown_fits_bulk (B := 13) (by decide) (by decide) hs.short (Nat.le_trans hs.bulk (by omega)), q⟩
theorem Rp.all {k n : Nat} {d : PyData} (hs : Rp k n d) (hk : k ≤ 60) (hn : n ≤ 1048576) : d.canLay0 = true ∧ d.showable = true ∧ d.depth ≤ 60 ∧ d.shown.length ≤ sizeLine :=
  ⟨hs.sh.1, hs.shw, Nat.le_trans hs.sh.2 hk, PyData.shown_fits_bulk (B := 13) (by decide) (by decide) hs.short (Nat.le_trans hs.bulk (by omega))⟩
end MB

set_option maxHeartbeats 4000000
namespace MB
open PySem PySem.Spec PyProof.Rows L2
/-- data whose repr is asked: levels, size -/
structure RpW (k n : Nat) (d : PyData) : Prop where
  sh : Sh k d
  shw : d.showable = true
  short : d.leavesShort  75 = true
  bulk : d.bulk ≤ n
theorem RpW.mono {k n m : Nat} {d : PyData} (h : RpW k n d) (e : n ≤ m) : RpW k m d := ⟨h.sh, h.shw, h.short, Nat.le_trans h.bulk e⟩
theorem RpW.int {i : Int} {k : Nat} (h : i.natAbs < 10 ^ 70) : RpW k 0 (.int i) := by
  refine ⟨.int i, ?_, ?_, by simp [PyData.bulk]⟩
  · simp only [PyData.showable]
    refine decide_eq_true ?_
    by_cases h0 : i.natAbs = 0
    · rw [h0]; decide
    · exact Nat.lt_trans ((Nat.log2_lt h0).mpr (show i.natAbs < 2 ^ 240 by exact Nat.lt_trans h (by decide +kernel))) (by decide)
  · simp only [PyData.leavesShort]
    refine decide_eq_true ?_
    have e := int_text_length_le10 (a := i) (k := 70) (by decide) h
    have e2 : (PyData.shown (.int i)).length = (toString i).length := by
      simp only [PyData.shown]
      exact PySem.ofString_length _
    omega
theorem rpW_all {k n : Nat} : ∀ {ds : List PyData}, (∀ d, d ∈ ds → RpW k n d) → PyData.showableAll ds = true ∧ PyData.leavesShortAll  75 ds = true ∧ PyData.bulkAll ds ≤ (n + 1) * ds.length
  | [], _ => ⟨by simp [PyData.showableAll], by simp [PyData.leavesShortAll], by simp [PyData.bulkAll]⟩
  | d :: ds, h => by
    have h1 := h d (List.mem_cons_self ..)
    obtain ⟨a, b, c⟩ := rpW_all fun e he => h e (List.mem_cons_of_mem _ he)
    refine ⟨by simp only [PyData.showableAll, h1.shw, a, Bool.and_self], by simp only [PyData.leavesShortAll, h1.short, b, Bool.and_self], ?_⟩
    simp only [PyData.bulkAll, List.length_cons]
    have := h1.bulk
    rw [Nat.mul_add]
    omega
theorem RpW.tup {k n m : Nat} {ds : List PyData} (h : ∀ d, d ∈ ds → RpW k n d) (hm : (n + 1) * ds.length ≤ m) : RpW (k + 1) m (.tuple ds) := by
  obtain ⟨a, b, c⟩ := rpW_all h
  exact ⟨Sh.tup fun d hd => (h d hd).sh, by simp only [PyData.showable]; exact a, by simp only [PyData.leavesShort]; exact b, by simp only [PyData.bulk]; omega⟩
theorem RpW.lst {k n m : Nat} {ds : List PyData} (h : ∀ d, d ∈ ds → RpW k n d) (hm : (n + 1) * ds.length ≤ m) : RpW (k + 1) m (.list ds) := by
  obtain ⟨a, b, c⟩ := rpW_all h
  exact ⟨Sh.lst fun d hd => (h d hd).sh, by simp only [PyData.showable]; exact a, by simp only [PyData.leavesShort]; exact b, by simp only [PyData.bulk]; omega⟩
theorem RpW.ints {ns : List Int} {k m : Nat} (h : ∀ i, i ∈ ns → i.natAbs < 10 ^ 70) (hm : ns.length ≤ m) : RpW (k + 1) m (.tuple (ns.map PyData.int)) :=
  RpW.tup (n := 0) (fun d hd => by obtain ⟨i, hi, rfl⟩ := List.mem_map.mp hd; exact .int (h i hi)) (by rw [List.length_map]; omega)
theorem RpW.bool {b : Bool} {k : Nat} : RpW k 0 (.bool b) := ⟨⟨by simp [PyData.canLay0], by simp [PyData.depth]⟩, by simp [PyData.showable], by simp [PyData.leavesShort], by simp [PyData.bulk]⟩
theorem fits75 {d : PyData} (hl : d.leavesShort 75 = true) (hw : d.bulk ≤ 100000) : d.shown.length ≤ sizeLine := by
  have h := PyData.shown_le_bulk 75 (by decide) d hl
  have h2 : (75 + 2) * d.bulk ≤ 77 * 100000 := Nat.mul_le_mul (by omega) (by omega)
  have e : sizeLine = 16777216 := by decide
  omega
/-- repr(x), by data -/
theorem reprW_read {K : PySem.W.Frag} {H : Hp} {x : V} {d : PyData} {Q : VK} {k n : Nat} (hd : Dp K H x d) (hs : RpW k n d) (hk : k ≤ 60) (hn : n ≤ 100000) (q : Q (.str d.shown) H) : rReprD K [x] H Q :=
  ⟨x, d, rfl, hd, hs.sh.1, hs.shw, Nat.le_trans hs.sh.2 hk, fits75 hs.short (Nat.le_trans hs.bulk hn), q⟩
theorem RpW.all {k n : Nat} {d : PyData} (hs : RpW k n d) (hk : k ≤ 60) (hn : n ≤ 100000) : d.canLay0 = true ∧ d.showable = true ∧ d.depth ≤ 60 ∧ d.shown.length ≤ sizeLine :=
  ⟨hs.sh.1, hs.shw, Nat.le_trans hs.sh.2 hk, fits75 hs.short (Nat.le_trans hs.bulk hn)⟩
end MB

set_option maxHeartbeats 4000000
namespace MB
open PySem PySem.Spec PyProof.Rows L2
/-! ### data of any kind, dicts among them -/
def kD : Key → PyData
  | .inl i => .int i
  | .inr x => .str x
mutual
inductive Dq (K : PySem.W.Frag) (H : Hp) : V → PyData → Prop
  | nonq : Dq K H .non .none
  | blq (b : Bool) : Dq K H (.bl b) (.bool b)
  | intq (i : Int) : Dq K H (.int i) (.int i)
  | strq (x : Str) : Dq K H (.str x) (.str x)
  | lstq {a : Addr} {xs : List V} {ds : List PyData} : SqL K H a xs → a ≠ sysModules → DqAll K H xs ds → Dq K H (.ref a) (.list ds)
  | tupq {a : Addr} {xs : List V} {ds : List PyData} : SqT K H a xs → DqAll K H xs ds → Dq K H (.ref a) (.tuple ds)
  | dctq {a : Addr} {kvs : List (Key × V)} {des : List (PyData × PyData)} : H a = some (.dK kvs) → des.map (·.1) = kvs.map (fun p => kD p.1) → DqAll K H (kvs.map (·.2)) (des.map (·.2)) → Dq K H (.ref a) (.dict des)
inductive DqAll (K : PySem.W.Frag) (H : Hp) : List V → List PyData → Prop
  | nil : DqAll K H [] []
  | cons {v : V} {vs : List V} {d : PyData} {ds : List PyData} : Dq K H v d → DqAll K H vs ds → DqAll K H (v :: vs) (d :: ds)
end
section
variable {X : Cx} {pins : List (Addr × Obj)} {σ : L2.St} {H : Hp} {s : Shared}
theorem keys_read {h : Heap} {P : Program} {w : World} {es : List DictEntry} {vs : List (Key × Value)} (hp : Pairs (mixKind P w) es vs) : ∀ {kvs : List (Key × V)}, KV kvs vs →
    ReadsAll h (es.map (·.key)) (kvs.map fun p => kD p.1) [] ∧ Vals (kvs.map (·.2)) (es.map (·.val)) := by
  induction hp with
  | nil => intro kvs r; cases r; exact ⟨.nil, .nil⟩
  | @cons e kv es vs a b c ih =>
    intro kvs r
    cases r with
    | @cons p _ ps _ r t =>
      obtain ⟨h1, h2⟩ := ih t
      obtain ⟨r1, r2⟩ := r
      have r3 : RelV p.2 e.val := by rw [b]; exact r2
      refine ⟨?_, .cons r3 h2⟩
      have e1 : keyIs kv.1 e.key = true := a
      rw [List.map_cons, List.map_cons, r1]
      rcases keyIs_shape e1 with ⟨i, t, h3, h4⟩ | ⟨x, t, h3, h4⟩
      · rw [h3, h4]; exact ReadsAll.cons (as := []) (bs := []) (.int i t) h1
      · rw [h3, h4]; exact ReadsAll.cons (as := []) (bs := []) (.str x t) h1
theorem Dq.reads (I : Inv X pins σ H s) {d : PyData} {v : V} (hq : Dq X.K H v d) : ∀ u : Value, RelV v u → ∃ as, Reads s.heap u d as ∧ sysModules ∉ as := by
  refine Dq.rec (motive_1 := fun v d _ => ∀ u : Value, RelV v u → ∃ as, Reads s.heap u d as ∧ sysModules ∉ as) (motive_2 := fun vs ds _ => ∀ us : List Value, Vals vs us → ∃ as, ReadsAll s.heap us ds as ∧ sysModules ∉ as) ?_ ?_ ?_ ?_ ?_ ?_ ?_ ?_ ?_ hq
  · intro u r; cases r; exact ⟨_, .none, by simp⟩
  · intro b u r; cases r; exact ⟨_, .bool b, by simp⟩
  · intro i u r; obtain ⟨t, rfl⟩ := r; exact ⟨_, .int i t, by simp⟩
  · intro x u r; obtain ⟨t, rfl⟩ := r; exact ⟨_, .str x t, by simp⟩
  · intro a xs ds hs hne _ ih u r
    cases r
    obtain ⟨its, rv, ⟨o, n, h1, h2, h3, h4⟩, _⟩ := I.list hs
    obtain ⟨as, ra, na⟩ := ih _ rv
    refine ⟨_, .list h1 h2 h4 (by simpa using ra), ?_⟩
    intro hm
    rcases List.mem_cons.mp hm with e | e
    · exact hne e.symm
    · exact na e
  · intro a xs ds hs _ ih u r
    cases r
    obtain ⟨its, rv, ⟨o, h1, h2, n, h3⟩, _⟩ := I.tuple hs
    obtain ⟨as, ra, na⟩ := ih _ rv
    exact ⟨_, .tuple h1 h2 h3 (by simpa using ra), na⟩
  · intro a kvs des he hk _ ih u r
    cases r
    obtain ⟨_, hsys, vs, kv, o, es, ep, h1, h2, h3, _, h5, _⟩ := dk_of I.hok he
    obtain ⟨g1, g2⟩ := keys_read (h := s.heap) h5 kv
    obtain ⟨bs, rb, nb⟩ := ih _ g2
    refine ⟨_, .dict h1 h2.1 h3 (by rw [hk]; exact g1) rb, ?_⟩
    intro hm
    rcases List.mem_cons.mp hm with e | e
    · rw [← e] at hsys; simp at hsys
    · exact nb (by simpa using e)
  · intro us t; cases t; exact ⟨_, .nil, by simp⟩
  · intro v vs d ds _ _ h1 h2 us t
    cases t with
    | cons r t =>
      obtain ⟨as, g1, n1⟩ := h1 _ r
      obtain ⟨bs, g2, n2⟩ := h2 _ t
      exact ⟨_, .cons g1 g2, by simp [n1, n2]⟩
end
theorem Dq.same {K : PySem.W.Frag} {H H' : Hp} (e : Same H H') {v : V} {d : PyData} (h : Dq K H v d) : Dq K H' v d := by
  refine Dq.rec (motive_1 := fun v d _ => Dq K H' v d) (motive_2 := fun vs ds _ => DqAll K H' vs ds) ?_ ?_ ?_ ?_ ?_ ?_ ?_ ?_ ?_ h
  · exact .nonq
  · intro b; exact .blq b
  · intro i; exact .intq i
  · intro x; exact .strq x
  · intro a xs ds hs hne _ ih; exact .lstq (e.seq hs) hne ih
  · intro a xs ds hs _ ih; exact .tupq (Same.tup e hs) ih
  · intro a kvs des he hk _ ih; exact .dctq (e _ _ he) hk ih
  · exact .nil
  · intro v vs d ds _ _ h1 h2; exact .cons h1 h2
theorem DqAll.same {K : PySem.W.Frag} {H H' : Hp} (e : Same H H') : ∀ {vs : List V} {ds : List PyData}, DqAll K H vs ds → DqAll K H' vs ds
  | _, _, .nil => .nil
  | _, _, .cons a b => .cons (Dq.same e a) (DqAll.same e b)
/-! ### repr -/
def rReprQ (K : PySem.W.Frag) : List V → Hp → VK → Prop := fun xs H Q => ∃ (x : V) (d : PyData), xs = [x] ∧ Dq K H x d ∧ d.showable = true ∧ d.depth ≤ 60 ∧ d.shown.length ≤ sizeLine ∧ Q (.str d.shown) H
theorem call_reprQ {X : Cx} (hgd : X.A.guards = some []) (hu : X.A.units + 64 < cLine) : CallR X (.builtin "repr") (rReprQ X.K) := by
  intro pins s σ H xs us Q I r h
  obtain ⟨x, d, rfl, hd, hs, hdep, hz, q⟩ := h
  obtain ⟨u, rfl, rx⟩ := vals1 r
  obtain ⟨as, rd, nsys⟩ := Dq.reads I hd u rx
  have fin : ∀ (h' : Heap) (v tk : Tok), (∀ b o, s.heap.get? b = some o → h'.get? b = some o) → EP X pins σ Q (.str d.shown v) { s with heap := h', toks := tk } := fun h' v tk hk => ⟨.str d.shown, H, I.kept hk, ⟨_, rfl⟩, q⟩
  cases rd with
  | none => exact PySem.P.repr_of_none (fin _ _ _ fun _ _ e => e)
  | bool b =>
    refine PySem.P.repr_of_bool ?_
    cases b <;> exact fin s.heap s.toks (s.toks + 1) fun _ _ e => e
  | int i t => exact PySem.P.repr_of_int (by simpa [PyData.showable] using hs) (fin s.heap s.toks (s.toks + 1) fun _ _ e => e)
  | str y t => exact PySem.P.repr_of_str (fin s.heap s.toks (s.toks + 1) fun _ _ e => e) hz
  | list h1 h2 h3 h4 => exact repr_of_reads' (.list h1 h2 h3 h4) hs (fun _ => nsys) hgd (by omega) (fun _ _ e => e) fin hz
  | tuple h1 h2 h3 h4 => exact repr_of_reads' (.tuple h1 h2 h3 h4) hs (fun _ => nsys) hgd (by omega) (fun _ _ e => e) fin hz
  | dict h1 h2 h3 h4 h5 => exact repr_of_reads' (.dict h1 h2 h3 h4 h5) hs (fun _ => nsys) hgd (by omega) (fun _ _ e => e) fin hz
theorem k_reprQ {X : Cx} {K : PySem.W.Frag} (e : X.K = K) (hgd : X.A.guards = some []) (hu : X.A.units + 64 < cLine) : CallR X (.builtin "repr") (rReprQ K) := by
  rw [← e]; exact call_reprQ hgd hu
end MB

set_option maxHeartbeats 4000000
namespace MB
open PySem PySem.Spec PyProof.Rows L2

/-! ### f(p = v), no value by position -/
def gK {α : Type} (us ws : List α) : List α := match us with
  | [] => ws
  | _ :: _ => []
section
variable {X : Cx} {CX : CXT} {k : Nat} {f : Addr} {fd : FuncData} {ps ks : List Str} {sp : Sp} {E : XK} {x : Str} {p pos : Pos} {kws : List Keyword} {tk : TA} {g : List Value → List Value → List Value} {gV : List V → List V → List V}
theorem pe_callK0 (F : FnOk X.prog X.w X.K X.mg X.base CX k f fd ps sp) (hr : Room k X.A) (hg : Gl X x) (hm : X.mg x = some (.ref f)) (hk : PySem.W.keepIn X.K (.ref f) = true) (hb : KBinds X.K fd ps ks g gV) (hx : Passes CX X E)
    (hkw : PK X kws tk) (hall : (backToKw pos (keywordEach kws X.env)).all (·.1.isSome) = true := by rfl) (hks : (backToKw pos (keywordEach kws X.env)).filterMap (·.1) = ks := by rfl)
    (hdb : (x == ("__debug__" : Str)) = false := by decide)
    (hpl : ((backTo pos (starEach [] X.env)).any (·.1) || (backToKw pos (keywordEach kws X.env)).any (·.1.isNone)) = false := by rfl) :
    PE X (.Call (.Name x p) [] kws pos) (tCallK sp gV E tNil tk) := by
  refine ⟨fun pins s σ H Q I h => ?_⟩
  refine wpAny_Call_Name_kw (ld_glob I hg hm ?_ hdb)
  refine PySem.W.callWith_KW0 (h₀ := X.base) I.ok.mod.kin hk hall ?_ hpl
  refine thn (hkw.run pos pins s σ H _ I h) fun ws s2 ⟨zs, H2, I2, rz, q2⟩ => ⟨I2.kIn, ?_⟩
  rw [hks]
  exact run_fnk (us := []) (vs := []) F hr hb hx I2 .nil rz q2
end
theorem kb1 {K : PySem.W.Frag} {x qual : Str} {st : Stmt} {f : Addr} {fd : FuncData} {q : Str} (F : L2.Fun K x qual st f fd)
    (h : ∀ (kV doc pm : Value) (an : Option Addr) (cdv ct u : Value), bindArgs (PySem.W.fnOf x qual (defArgs st) (defBody st) (defScope st) .none kV doc pm an cdv ct) ⟨[], [(q, u)]⟩ = pure [(q, u)]) : KBinds K fd [q] [q] gK gK := by
  obtain ⟨oc, od, kV, doc, pm, an, cdv, ct, osl, rfl, lk, hcd⟩ := F.ex
  refine ⟨fun s us ws _ hl => ?_, fun {vs us zs ws} r1 r2 => ?_⟩
  · cases us with
    | cons u us => exact nomatch hl
    | nil =>
      match ws, hl with
      | [u], _ => exact .of_eq (h kV doc pm an cdv ct u)
  · cases r1 with
    | nil => exact r2
    | cons _ _ => exact .nil

/-! ### a comprehension with a test -/
theorem lc_sel {K : PySem.W.Frag} {J : It} {n : Nat} {G : Hp → Prop} {Y : Nat → Hp → V → Hp → Prop} (w : Walk J n G Y) {g : TG} {tt : TT} {te : TE} {vs : List Nat} {σ : L2.St} {H1 : Hp} {D : Addr} {Qd : Hp → Prop}
    (f : Nat → Bool) (d : Nat → PyData) (ht : ∀ i, i < n → Tf (d i)) (hn : n ≤ 1000) (hD : H1 D = none) (hG : ∀ H, Same H1 H → G H)
    (hs : ∀ i x H H', i < n → Same H1 H → Y i H x H' → ∀ R : V → Hp → Prop, (∀ y H4, Same H H4 → Dp K H4 y (d i) → R y H4) →
      g x (wipe σ vs) H' fun σ2 H2 => wipe σ2 vs = wipe σ vs ∧ tt σ2 H2 fun b H3 => b = f i ∧ Same H H3 ∧ (b = true → te σ2 H3 R))
    (hd : ∀ H acc, Same H1 H → H D = some (.lst acc) → DpAll K H acc (((List.range n).filter f).map d) → Qd H)
    (mg : ∀ x σ' H' (Q Q' : L2.St → Hp → Prop), (∀ a b, Q a b → Q' a b) → g x σ' H' Q → g x σ' H' Q') (mt : ∀ σ' H' (Q Q' : Bool → Hp → Prop), (∀ a b, Q a b → Q' a b) → tt σ' H' Q → tt σ' H' Q') :
    ∃ W : Nat → Nat → Hp → Prop, (∃ m, W 0 m (upd H1 D (.lst []))) ∧ ∀ i m H, W i m H →
      (J.stop i H ∧ Qd H) ∨ (J.go i H ∧ ∃ Nx : Hp → Prop, (∀ H', Nx H' → ∃ m', m' < m ∧ W (i + 1) m' H') ∧ ∀ x H', J.yld i H x H' → g x (wipe σ vs) H' fun σ2 H2 => wipe σ2 vs = wipe σ vs ∧ tt σ2 H2 fun b H3 =>
        if b = true then te σ2 H3 fun y H4 => ∃ acc, H4 D = some (.lst acc) ∧ acc.length < sizeLine ∧ Nx (upd H4 D (.lst (acc ++ [y]))) else Nx H3) := by
  refine lc_it w (fun i H => Same H1 H ∧ ∃ acc, H D = some (.lst acc) ∧ DpAll K H acc (((List.range i).filter f).map d)) ⟨same_upd hD, [], upd_same, .nil⟩ (fun i H _ h => hG H h.1) ?_ ?_
  · rintro i x H H' hi ⟨s1, acc, ha, hA⟩ hy
    have hlen := DpAll.len hA
    have hle : acc.length ≤ i := by
      rw [hlen, List.length_map]
      have := List.length_filter_le f (List.range i)
      rw [List.length_range] at this
      exact this
    refine mg _ _ _ _ _ ?_ (hs i x H H' hi s1 hy (fun y H4 => ∃ acc, H4 D = some (.lst acc) ∧ acc.length < sizeLine ∧ (f i = true → Same H1 (upd H4 D (.lst (acc ++ [y]))) ∧ ∃ acc', (upd H4 D (.lst (acc ++ [y]))) D = some (.lst acc') ∧ DpAll K (upd H4 D (.lst (acc ++ [y]))) acc' (((List.range (i + 1)).filter f).map d))) ?_)
    · rintro σ2 H2 ⟨h1, h2⟩
      refine ⟨h1, mt _ _ _ _ ?_ h2⟩
      rintro b H3 ⟨hb, s3, h3⟩
      cases b with
      | true =>
        refine iteT ?_
        have h4 := h3 rfl
        have hb' := hb.symm
        simp only [hb', true_implies] at h4
        exact h4
      | false =>
        refine iteF ⟨s1.trans s3, acc, s3 _ _ ha, ?_⟩
        rw [List.range_succ, List.filter_append, List.map_append]
        have e : List.filter f [i] = [] := by rw [List.filter_cons, if_neg (by rw [← hb]; decide)]; rfl
        rw [e, List.map_nil, List.append_nil]
        exact DpAll.same s3 hA
    · intro y H4 s4 hy4
      refine ⟨acc, s4 _ _ ha, sz61 (by omega), fun hf => ⟨Same.mut (s1.trans s4) hD, acc ++ [y], upd_same, ?_⟩⟩
      have kp : Keep K H4 (upd H4 D (.lst (acc ++ [y]))) := But.keep But.upd (s4 _ _ ha)
      have e : List.filter f [i] = [i] := by rw [List.filter_cons, if_pos hf]; rfl
      rw [List.range_succ, List.filter_append, List.map_append, e]
      refine DpAll.keep kp (fun d' h => ?_) (DpAll.append (DpAll.same s4 hA) (.cons hy4 .nil))
      rcases List.mem_append.mp h with h | h
      · obtain ⟨j, hj, rfl⟩ := List.mem_map.mp h
        have := List.mem_range.mp (List.mem_filter.mp hj).1
        exact ht j (by omega)
      · have e : d' = d i := by simpa using h
        rw [e]; exact ht i hi
  · rintro H ⟨s1, acc, ha, hA⟩
    exact hd H acc s1 ha hA
end MB

set_option maxHeartbeats 4000000
namespace MB
open PySem PySem.Spec PyProof.Rows L2
/-! ### x *= e -/
theorem ip_mulW {X : Cx} : PIp X .Mult (fun x y H Q => ∃ i j, x = .int i ∧ y = .int j ∧ CMulW i j ∧ Q (.int (i * j)) H) := by
  intro pins s σ H x y v u Q I r1 r2 h
  obtain ⟨i, j, e1, e2, hc, q⟩ := h
  subst e1; subst e2
  obtain ⟨t, rfl⟩ := r1
  obtain ⟨t', rfl⟩ := r2
  exact imul_int ⟨.int _, H, I.tok _, ⟨_, rfl⟩, q⟩ hc.ok
/-! ### f(q = v, p = w): by keywords in any order -/
def gP {α : Type} (idx : List Nat) (us ws : List α) : List α := match us with
  | [] => idx.filterMap fun i => ws[i]?
  | _ :: _ => []
theorem gP_take {α : Type} {n : Nat} {ws : List α} : ∀ {idx : List Nat}, (∀ i, i ∈ idx → i < n) → (idx.filterMap fun i => (ws.take n)[i]?) = idx.filterMap fun i => ws[i]?
  | [], _ => rfl
  | i :: idx, h => by
    have h1 := h i (List.mem_cons_self ..)
    have h2 := gP_take (α := α) (n := n) (ws := ws) (idx := idx) fun j hj => h j (List.mem_cons_of_mem _ hj)
    rw [List.filterMap_cons, List.filterMap_cons, h2, List.getElem?_take, if_pos h1]
theorem gP_len {α : Type} {ws : List α} : ∀ {idx : List Nat}, (idx.filterMap fun i => ws[i]?).length = idx.length → ∀ i, i ∈ idx → i < ws.length
  | [], _, i, h => nomatch h
  | j :: idx, hl, i, h => by
    cases e : ws[j]? with
    | none =>
      simp only [List.filterMap_cons, e] at hl
      have := List.length_filterMap_le (fun i => ws[i]?) idx
      simp only [List.length_cons] at hl
      omega
    | some x =>
      simp only [List.filterMap_cons, e, List.length_cons, Nat.add_right_cancel_iff] at hl
      rcases List.mem_cons.mp h with h | h
      · subst h
        exact (List.getElem?_eq_some_iff.mp e).1
      · exact gP_len hl i h
theorem gP_rel {zs : List V} {ws : List Value} (r : Vals zs ws) : ∀ idx : List Nat, Vals (idx.filterMap fun i => zs[i]?) (idx.filterMap fun i => ws[i]?)
  | [] => .nil
  | i :: idx => by
    have ih := gP_rel r idx
    cases e : zs[i]? with
    | none =>
      have e2 : ws[i]? = none := List.getElem?_eq_none (by rw [← r.length]; exact List.getElem?_eq_none_iff.mp e)
      simp only [List.filterMap_cons, e, e2]; exact ih
    | some x =>
      obtain ⟨u, e2, ru⟩ := r.get e
      simp only [List.filterMap_cons, e, e2]; exact .cons ru ih
theorem zip_take {α β : Type} : ∀ (ks : List α) (ws : List β), ks.zip (ws.take ks.length) = ks.zip ws
  | [], _ => rfl
  | _ :: _, [] => rfl
  | k :: ks, w :: ws => by simp [zip_take ks ws]
theorem kbP {K : PySem.W.Frag} {x qual : Str} {st : Stmt} {f : Addr} {fd : FuncData} {ps ks : List Str} {idx : List Nat} (F : L2.Fun K x qual st f fd) (hi : idx.length = ps.length) (hk : ks.length = ps.length) (hp : 0 < ps.length)
    (hall : (∀ i, i ∈ idx → i < ps.length) ∧ ps.length - 1 ∈ idx)
    (h : ∀ (kV doc pm : Value) (an : Option Addr) (cdv ct : Value) (ws : List Value), ws.length = ps.length → bindArgs (PySem.W.fnOf x qual (defArgs st) (defBody st) (defScope st) .none kV doc pm an cdv ct) ⟨[], ks.zip ws⟩ = pure (ps.zip (gP idx [] ws))) : KBinds K fd ps ks (gP idx) (gP idx) := by
  obtain ⟨oc, od, kV, doc, pm, an, cdv, ct, osl, rfl, lk, hcd⟩ := F.ex
  refine ⟨fun s us ws _ hl => ?_, fun {vs us zs ws} r1 r2 => ?_⟩
  · cases us with
    | cons u us =>
      have : 0 = ps.length := hl
      omega
    | nil =>
      have hl' : (idx.filterMap fun i => ws[i]?).length = idx.length := by rw [hi]; exact hl
      have h2 := gP_len hl' _ hall.2
      have h3 := h kV doc pm an cdv ct (ws.take ps.length) (by rw [List.length_take]; omega)
      have e1 : gP idx [] (ws.take ps.length) = gP idx [] ws := gP_take hall.1
      have e2 : ks.zip (ws.take ps.length) = ks.zip ws := by
        rw [← hk]
        exact zip_take ks ws
      rw [e1, e2] at h3
      exact .of_eq h3
  · cases r1 with
    | nil => exact gP_rel r2 idx
    | cons _ _ => exact .nil
section
variable {X : Cx} {CX : CXT} {k : Nat} {f : Addr} {fd : FuncData} {ps ks : List Str} {sp : Sp} {E : XK} {x : Str} {p pos : Pos} {kws : List Keyword} {tk : TA} {g : List Value → List Value → List Value} {gV : List V → List V → List V}
end
end MB

set_option maxHeartbeats 4000000
namespace MB
open PySem PySem.Spec PyProof.Rows L2
/-! ### f(u, q = v, ..): one argument by place, the others by name in their order -/
def gQ {α : Type} (m : Nat) (us ws : List α) : List α := match us with
  | [u] => u :: ws.take m
  | _ => []
theorem kbQ {K : PySem.W.Frag} {x qual : Str} {st : Stmt} {f : Addr} {fd : FuncData} {p0 : Str} {ks : List Str} (F : L2.Fun K x qual st f fd)
    (h : ∀ (kV doc pm : Value) (an : Option Addr) (cdv ct u : Value) (ws : List Value), ws.length = ks.length → bindArgs (PySem.W.fnOf x qual (defArgs st) (defBody st) (defScope st) .none kV doc pm an cdv ct) ⟨[u], ks.zip ws⟩ = pure ((p0 :: ks).zip (u :: ws))) : KBinds K fd (p0 :: ks) ks (gQ ks.length) (gQ ks.length) := by
  obtain ⟨oc, od, kV, doc, pm, an, cdv, ct, osl, rfl, lk, hcd⟩ := F.ex
  refine ⟨fun s us ws _ hl => ?_, fun {vs us zs ws} r1 r2 => ?_⟩
  · match us, hl with
    | [u], hl =>
      have hl' : (ws.take ks.length).length = ks.length := by
        have : (u :: ws.take ks.length).length = ks.length + 1 := hl
        simpa using this
      have h3 := h kV doc pm an cdv ct u (ws.take ks.length) hl'
      rw [zip_take ks ws] at h3
      exact .of_eq h3
  · cases r1 with
    | nil => exact .nil
    | cons r1 r =>
      cases r with
      | nil => exact .cons r1 (r2.take _)
      | cons _ _ => exact .nil
/-- a dividend below 2 ^ 4000 is divided by C -/
theorem divp_nat {i j : Nat} (hj : 0 < j) (h : i < 2 ^ 4000) : CDivP (i : Int) (j : Int) := by
  refine divp_ok (by omega) ?_
  have : Builtin.Int.intBits (i : Int) ≤ 4000 := by
    unfold Builtin.Int.intBits
    split
    · omega
    · rename_i z
      have hi : i ≠ 0 := fun e => z (by simp [e])
      rw [Int.natAbs_natCast]
      have := (Nat.log2_lt hi).mpr h
      omega
  omega
end MB

set_option maxHeartbeats 4000000
namespace MB
open PySem PySem.Spec PyProof.Rows L2
def clsDef (s : Stmt) : Stmt := match s with
  | .ClassDef _ _ _ b _ _ _ _ _ _ _ => b.getD 0 (.Pass ⟨0, 0, 0, 0⟩)
  | t => t
/-! ### own exceptions as values -/
/-- at a: a caught exception, of the class cls, its dict at d -/
def KeO (a : Addr) (cls : Value) (d : Option Addr) : HO := .ext fun h => ∃ oe vs, h.get? a = some oe ∧ oe.cls = cls ∧ oe.dict = d ∧ oe.data = .fields vs
theorem keO_ok {P : Program} {w : World} {H : Hp} {h : Heap} {a : Addr} {cls : Value} {d : Option Addr} {oe : Obj} {vs : Array Value} (e : h.get? a = some oe) (hc : oe.cls = cls) (hd : oe.dict = d) (hf : oe.data = .fields vs) : ObjOk P w H h a (KeO a cls d) :=
  ⟨⟨oe, vs, e, hc, hd, hf⟩, ⟨oe, e⟩, fun h1 h2 ⟨o1, v1, q1, q2⟩ k => ⟨o1, v1, k _ q1, q2⟩⟩
/-- at a: an own exception of the class at C; with a dict that holds fs, or with none -/
inductive XAt (H : Hp) (a C : Addr) : Option (List (Str × V)) → Prop
  | full {d : Addr} {fs : List (Str × V)} : H a = some (exo a C (some d)) → H d = some (exd d fs) → XAt H a C (some fs)
  | bare : H a = some (ExO (.ref C) a) → XAt H a C none
  | kept {d : Addr} {fs : List (Str × V)} : H a = some (KeO a (.ref C) (some d)) → H d = some (exd d fs) → XAt H a C (some fs)
  | keptd {d : Addr} {fs : List (Str × V)} : H a = some (KeO a (.ref C) (some d)) → H d = some (.xd fs) → XAt H a C (some fs)
theorem XAt.same {H H' : Hp} {a C : Addr} {o : Option (List (Str × V))} (e : Same H H') (h : XAt H a C o) : XAt H' a C o := by
  cases h with
  | full h1 h2 => exact .full (e _ _ h1) (e _ _ h2)
  | bare h1 => exact .bare (e _ _ h1)
  | kept h1 h2 => exact .kept (e _ _ h1) (e _ _ h2)
  | keptd h1 h2 => exact .keptd (e _ _ h1) (e _ _ h2)
theorem keO_at {P : Program} {w : World} {H : Hp} {h : Heap} {a C : Addr} {d : Option Addr} (k : HOk P w H h) (e : H a = some (KeO a (.ref C) d)) : ∃ o vs, h.get? a = some o ∧ o.cls = .ref C ∧ o.dict = d ∧ o.data = .fields vs := by
  obtain ⟨⟨o, vs, q1, q2, q3, q4⟩, _⟩ := k a _ e
  exact ⟨o, vs, q1, q2, q3, q4⟩
section
variable {X : Cx} {pins : List (Addr × Obj)} {σ : L2.St} {H : Hp} {s : Shared}
/-- x.f -/
def tXv (K : PySem.W.Frag) (f : Str) (te : TE) : TE := fun σ H Q => te σ H fun x H1 => ∃ (a C : Addr) (fs : List (Str × V)) (v : V), x = .ref a ∧ XAt H1 a C (some fs) ∧ XfC K C ∧ PySem.W.findIn K (.ref C) f = some none ∧ fs.lookup f = some v ∧ Q v H1
theorem pe_xv {e : Expr} {te : TE} {pos : Pos} {n : Str} (he : PE X e te) (hb : attributeBase e n X.env (eval e X.env) = eval e X.env := by rfl) : PE X (.Attribute e n pos) (tXv X.K n te) := by
  refine ⟨fun pins s σ H Q I h => ?_⟩
  refine attr_of hb (thn (he.run pins s σ H _ I h) fun u s1 hh => ?_)
  obtain ⟨x, H1, I1, rx, a, C, fs, v, ex, hx, T, hno, l, q⟩ := hh
  subst ex
  obtain rfl : u = Value.ref a := rx
  cases hx with
  | @full d _ ea ed =>
    obtain ⟨t1, ho⟩ := exo_at I1.hok ea
    obtain ⟨mA, hns, hr⟩ := exd_at I1.hok ed
    obtain ⟨od, hod, hl⟩ := lookIn_ns hns
    obtain ⟨z, hz, rz⟩ := RelO.some_of (v := v) (o := mA n) (by rw [← l]; exact hr n)
    have J : PySem.W.InstAt s1.heap a _ C (some od) := ⟨ho, rfl, rfl, hod⟩
    exact HandSPX.exc_get I1.kIn J T.ga T.gg T.exC (PySem.W.findObj_own T.hdC hno rfl (by rw [hl, hz])) (handed_of rz) ⟨v, H1, I1.tok _, rz, q⟩
  | @kept d _ ea ed =>
    obtain ⟨o, vs, ho, hcl, hdc, hfd⟩ := keO_at I1.hok ea
    obtain ⟨mA, hns, hr⟩ := exd_at I1.hok ed
    obtain ⟨od, hod, hl⟩ := lookIn_ns hns
    obtain ⟨z, hz, rz⟩ := RelO.some_of (v := v) (o := mA n) (by rw [← l]; exact hr n)
    obtain ⟨oc, odc, oda, osl⟩ := o
    dsimp only at hcl hdc hfd
    subst hcl hdc hfd
    have J : PySem.W.InstAt s1.heap a _ C (some od) := ⟨ho, rfl, rfl, hod⟩
    exact HandSPX.exc_get I1.kIn J T.ga T.gg T.exC (PySem.W.findObj_own T.hdC hno rfl (by rw [hl, hz])) (handed_of rz) ⟨v, H1, I1.tok _, rz, q⟩
  | @keptd d _ ea ed =>
    obtain ⟨o, vs, ho, hcl, hdc, hfd⟩ := keO_at I1.hok ea
    obtain ⟨mA, hns, hr⟩ := (show ObjOk X.prog X.w H1 s1.heap d (.xd _) from I1.hok d _ ed)
    obtain ⟨od, hod, hl⟩ := lookIn_ns hns
    obtain ⟨z, hz, rz⟩ := RelO.some_of (v := v) (o := mA n) (by rw [← l]; exact hr n)
    obtain ⟨oc, odc, oda, osl⟩ := o
    dsimp only at hcl hdc hfd
    subst hcl hdc hfd
    have J : PySem.W.InstAt s1.heap a _ C (some od) := ⟨ho, rfl, rfl, hod⟩
    exact HandSPX.exc_get I1.kIn J T.ga T.gg T.exC (PySem.W.findObj_own T.hdC hno rfl (by rw [hl, hz])) (handed_of rz) ⟨v, H1, I1.tok _, rz, q⟩
/-- isinstance(x, c) -/
def rIsX (K : PySem.W.Frag) : List V → Hp → VK → Prop := fun xs H Q => ∃ (a C : Addr) (o : Option (List (Str × V))) (c : V) (u : Value) (b : Bool), xs = [.ref a, c] ∧ ClsV c u ∧ XAt H a C o ∧ ExcC K C ∧ PySem.W.kitOne K (.ref C) u = some b ∧ Q (.bl b) H
theorem call_isX : CallR X (.builtin "isinstance") (rIsX X.K) := by
  intro pins s σ H xs us Q I r h
  obtain ⟨a, C, o, c, u, b, rfl, k, hx, T, e, q⟩ := h
  obtain ⟨u1, u2, rfl, r1, r2⟩ := vals2 r
  have e2 := k.eq r2
  subst e2
  cases r1
  have hcl : (PySem.W.clsIn X.K C).isSome = true := by
    obtain ⟨cd, hc, _⟩ := PySem.W.any_some T.hd
    rw [hc]; rfl
  have fin : ∀ tk, EP X pins σ Q (.bool b) { s with toks := tk } := fun tk => ⟨.bl b, H, I.tok tk, rfl, q⟩
  cases hx with
  | @full d fs ea ed =>
    obtain ⟨t1, ho⟩ := exo_at I.hok ea
    obtain ⟨mA, hns, hr⟩ := exd_at I.hok ed
    obtain ⟨od, hod, hl⟩ := lookIn_ns hns
    have J : PySem.W.InstAt s.heap a _ C (some od) := ⟨ho, rfl, rfl, hod⟩
    exact PySem.W.kia_one (PySem.W.kitx_exc hcl T.hg T.hk T.hs T.ha T.hn T.ht T.hm) I.kIn J e (fun z => nomatch z) fin
  | @kept d fs ea ed =>
    obtain ⟨o, vs, ho, hc1, hdc, hfd⟩ := keO_at I.hok ea
    obtain ⟨mA, hns, hr⟩ := exd_at I.hok ed
    obtain ⟨od, hod, hl⟩ := lookIn_ns hns
    obtain ⟨oc, odc, oda, osl⟩ := o
    dsimp only at hc1 hdc hfd
    subst hc1 hdc hfd
    have J : PySem.W.InstAt s.heap a _ C (some od) := ⟨ho, rfl, rfl, hod⟩
    exact PySem.W.kia_one (PySem.W.kitx_exc hcl T.hg T.hk T.hs T.ha T.hn T.ht T.hm) I.kIn J e (fun z => nomatch z) fin
  | @keptd d fs ea ed =>
    obtain ⟨o, vs, ho, hc1, hdc, hfd⟩ := keO_at I.hok ea
    obtain ⟨mA, hns, hr⟩ := (show ObjOk X.prog X.w H s.heap d (.xd fs) from I.hok d _ ed)
    obtain ⟨od, hod, hl⟩ := lookIn_ns hns
    obtain ⟨oc, odc, oda, osl⟩ := o
    dsimp only at hc1 hdc hfd
    subst hc1 hdc hfd
    have J : PySem.W.InstAt s.heap a _ C (some od) := ⟨ho, rfl, rfl, hod⟩
    exact PySem.W.kia_one (PySem.W.kitx_exc hcl T.hg T.hk T.hs T.ha T.hn T.ht T.hm) I.kIn J e (fun z => nomatch z) fin
  | bare ea =>
    obtain ⟨⟨oe, vs, ho, hz, hd, _⟩, _⟩ := I.hok a _ ea
    have J : PySem.W.InstAt s.heap a oe C none := by
      obtain ⟨oc, od, oda, osl⟩ := oe
      obtain ⟨z1, z2⟩ := hz
      dsimp only at z1 z2 hd
      subst z1 z2 hd
      exact ⟨ho, rfl, rfl, trivial⟩
    exact PySem.W.kia_one (PySem.W.kitx_exc hcl T.hg T.hk T.hs T.ha T.hn T.ht T.hm) I.kIn J e (fun z => nomatch z) fin
/-- C(e), the class's own __init__ keeping sp: the object stands -/
def tMkX (C : Addr) (sp : Sp) (ta : TA) : TE := fun σ H Q => ta σ H fun vs H1 => vs.length ≤ 1000 ∧ ∀ a, H1 a = none → sp (.ref a :: vs) (upd H1 a (exo a C none)) (fun v H2 => v = .non ∧ Q (.ref a) H2) E0
theorem pe_mkX {x : Str} {C fI : Addr} {k : Nat} {fd : FuncData} {ps : List Str} {sp : Sp} {e : Expr} {es : List Expr} {ta : TA} {p pos : Pos} (T : OexC X.K C) (iC : PySem.W.findIn X.K (.ref C) "__init__" = some (some (.ref fI))) (tI : PySem.W.typeIn X.K (.ref fI) = some (.type "function"))
    (F1 : FnOk X.prog X.w X.K X.mg X.base CX0 k fI fd ps sp) (hr : Room (k + 1) X.A) (hb : Binds X.K fd ps []) (hg : Gl X x) (hm : X.mg x = some (.ref C)) (ha : PA X (e :: es) ta) (hx : Passes CX0 X E0)
    (hdb : (x == ("__debug__" : Str)) = false := by decide) (he : starEach (e :: es) X.env = (false, eval e X.env) :: starEach es X.env := by rfl) (hpl : (backTo pos (starEach es X.env)).any (·.1) = false := by rfl) :
    PE X (.Call (.Name x p) (e :: es) [] pos) (tMkX C sp ta) := by
  refine ⟨fun pins s σ H Q I h => ?_⟩
  obtain ⟨nm, qn, N, bs, bm, sn, sub, ab, col, dd, k0, k1, k2, k3, k5, hC, hbm⟩ := T.cls
  refine wpAny_Call_Name_kw (ld_glob I hg hm ?_ hdb)
  refine PySem.W.callWith_K (h₀ := X.base) I.ok.mod.kin T.kC (thn (ha.run pos pins s σ H _ I h) fun us s1 ⟨vs, H1, I1, r1, hz, q1⟩ => ⟨I1.kIn, ?_⟩) he hpl
  show wpAny _ _ (call (.ref C) us) _ _ _
  obtain ⟨hp, gs, dr, tk, os⟩ := s1
  have fresh : H1 (hp.objs.size + 1) = none := I1.hok.fresh (Nat.le_succ _)
  have hq := q1 _ fresh
  have there : ((hp.push (PySem.W.kdv_tup us)).push (PySem.HandSPX.excO C hp.objs.size)).get? (hp.objs.size + 1) = some (PySem.HandSPX.excO C hp.objs.size) := by heap_get
  have J : Inv X pins σ (upd H1 (hp.objs.size + 1) (exo (hp.objs.size + 1) C none)) ⟨(hp.push (PySem.W.kdv_tup us)).push (PySem.HandSPX.excO C hp.objs.size), gs, dr, tk, os⟩ :=
    I1.laid (t' := tk) (fun b o z => Heap.get?_push_of_some _ (Heap.get?_push_of_some _ z)) (Nat.le_succ _) (exo_ok there)
  have r2 : Vals (V.ref (hp.objs.size + 1) :: vs) (Value.ref (hp.objs.size + 1) :: us) := .cons rfl r1
  have hl : (Value.ref (hp.objs.size + 1) :: us).length = ps.length := r2.length.symm.trans (F1.len _ _ _ _ hq)
  have hus : us.length ≤ sizeLine := by rw [← Paired.length r1, sizeLine_eq]; omega
  have bnd := hb ⟨(hp.push (PySem.W.kdv_tup us)).push (PySem.HandSPX.excO C hp.objs.size), gs, dr, tk, os⟩ (Value.ref (hp.objs.size + 1) :: us) J.kIn (by rw [List.append_nil]; exact hl)
  rw [List.append_nil] at bnd
  refine wpAny_call (PySem.HandSPX.call_own F.excBase_ValueError (fun Y => PySem.HandSPX.refsVE_contains Y bm hbm) (I1.kIn _ _ hC) (PySem.W.looks_findIn I1.kIn iC) (fun self => PySem.W.bind_fn I1.kIn self tI) hus
    (codeAny_mono (F1.run _ X.stack _ _ ⟨Value.ref (hp.objs.size + 1) :: us, []⟩ (Value.ref (hp.objs.size + 1) :: us) _ _ E0 (hr.make C us []) (J.env0.make C us []) bnd r2 hq) fun res s' back => ?_))
  rcases res with er | fl
  · exact hx pins σ _ _ er s' J back
  · rcases fl with _ | _ | _ | u
    · exact False.elim back
    · exact False.elim back
    · exact False.elim back
    · obtain ⟨v, H2, J2, rv, ev, q2⟩ := J.after back
      subst ev
      exact ⟨rv, ⟨V.ref (hp.objs.size + 1), H2, J2, rfl, q2⟩⟩
/-- C(), a class without own __init__ -/
theorem pe_exc0 {C : Addr} {bmB : List Value} {B newId initId : String} {x : Str} {p pos : Pos} (F : ExcBaseFacts B newId initId bmB) (hi : PySem.W.excIn X.K C bmB newId = true) (gC : X.mg x = some (.ref C)) (kC : PySem.W.keepIn X.K (.ref C) = true) (hg : Gl X x) (hdb : (x == ("__debug__" : Str)) = false := by decide) :
    PE X (.Call (.Name x p) [] [] pos) (fun _ H Q => ∀ a, H a = none → Q (.ref a) (upd H a (ExO (.ref C) a))) := by
  refine ⟨fun pins s σ H Q I h => ?_⟩
  refine wpAny_Call_Name_kw (ld_glob I hg gC ?_ hdb)
  refine PySem.W.callWith_K0 I.kIn kC ?_
  show wpAny _ _ (call (.ref C) []) _ _ _
  obtain ⟨bm, N, nm, qn, bs, hdct, sn, sub, ab, col, dd, k0, k1, k2, k3, k5, mN, hC, hN, hni, T⟩ := exc_obj I.kIn hi
  refine wpAny_call_exc_subT F T hC hN hni (fun h' a hm => ?_) (by show 0 ≤ sizeLine; exact Nat.zero_le _)
  have gone : H a = none := I.hok.gone hm.new
  obtain ⟨t, ht, _, _⟩ := hm.there
  exact ⟨.ref a, upd H a (ExO (.ref C) a), I.laidN hm.keeps hm.new gone (exO_ok ht ⟨rfl, rfl⟩ rfl rfl rfl (by simp)), rfl, h a gone⟩
/-- self.value = value, the whole of an __init__ -/
def sp_init (K : PySem.W.Frag) (C : Addr) (f : Str) : Sp := fun vs H Q _ => ∃ (a : Addr) (y : V), vs = [.ref a, y] ∧ H a = some (exo a C none) ∧ ∀ dx, H dx = none → dx ≠ a → Q .non (upd (upd H dx (exd dx [(f, y)])) a (exo a C (some dx)))
/-- C(e) read by what stands behind it -/
theorem mkX_read {K : PySem.W.Frag} {C : Addr} {f : Str} {ta : TA} {σ : L2.St} {H : Hp} {Q : VK} (h : ta σ H fun vs H1 => ∃ y, vs = [y] ∧ ∀ a H2, Same H1 H2 → H1 a = none → XAt H2 a C (some [(f, y)]) → Q (.ref a) H2)
    (mono : ∀ (R R' : List V → Hp → Prop), (∀ vs H1, R vs H1 → R' vs H1) → ta σ H R → ta σ H R') : tMkX C (sp_init K C f) ta σ H Q := by
  refine mono _ _ ?_ h
  rintro vs H1 ⟨y, rfl, q⟩
  refine ⟨by simp, fun a na => ⟨a, y, rfl, upd_same, fun dx ndx ne => ⟨rfl, q a _ ?_ na (.full upd_same ?_)⟩⟩⟩
  · intro b o eb
    have h1 : b ≠ a := ne_of_none eb na
    have h2 : (upd H1 a (exo a C none)) b = some o := by rw [upd_ne h1]; exact eb
    rw [upd_ne h1, upd_ne (ne_of_none h2 ndx), upd_ne h1]
    exact eb
  · rw [upd_ne ne]; exact upd_same
end
end MB

set_option maxHeartbeats 4000000
namespace MB
open PySem PySem.Spec PyProof.Rows L2
/-- the thing at sysModules, tracked as it stands: a new thing then stands elsewhere -/
def sysO (oY : Obj) : HO := .frz oY (.ext fun h => h.get? sysModules = some oY)
theorem law_callS {P : Program} {w : World} {K : PySem.W.Frag} {mg mb : Str → Option Value} {k : Nat} {fa a : Addr} {fd : FuncData} {x : Str} {sp : Sp} {s₁ : Shared} {vs : List Value} {ns : List Int} {oY : Obj}
    (hKs : K.lookup sysModules = none) (hsy : s₁.heap.get? sysModules = some oY) (hna : a ≠ sysModules) (KX : K.In s₁.heap) (hns : s₁.heap.Ns mainGlobals mg) (hb : s₁.heap.Ns builtinsNs mb)
    (hbb : ∀ x : Str, x ≠ "__name__" → mb x = bootBuiltins x) (hlim : s₁.heap.NoLimit) (hg : s₁.gens = #[])
    (ha : s₁.heap.get? a = some { cls := .type "list", data := .seq vs.toArray }) (hi : IntsAre vs ns) (hl : ns.length ≤ sizeLine) (hr : Room k callerA)
    (F : ∀ base : Heap, K.In base → base.Ns mainGlobals mg → FnG P w K mg base CX0 k fa fd [x] sp) (hbind : ∀ (s : Shared) (u : Value), BindsTo s fd ⟨[u], []⟩ [(x, u)])
    (hsp : ∀ (H : Hp) (o : HO), SqL K H a (ns.map V.int) → H sysModules = some o → sp [.ref a] H (fun v _ => v = .bl true) fun _ _ _ => False) :
    codeAny (model P w) callerA (.call (.ref fa) ⟨[.ref a], []⟩) (fun r s' => r = .ok (.ret (.bool true)) ∧ OldK s₁.heap s'.heap ∧ s'.os = s₁.os ∧ AllBare s'.gens) s₁ := by
  let oS : Obj := { cls := .type "list", data := .seq vs.toArray }
  let H : Hp := fun b => if b = a ∧ K.lookup a = none then some (.frz oS (.lst (ns.map V.int))) else if b = sysModules then some (sysO oY) else none
  have Ha : K.lookup a = none → H a = some (.frz oS (.lst (ns.map V.int))) := fun hk => if_pos ⟨rfl, hk⟩
  have Hy : H sysModules = some (sysO oY) := (if_neg fun z => hna z.1.symm).trans (if_pos rfl)
  have rv := vals_ints hi
  have Hsome : ∀ {b : Addr} {o : HO}, H b = some o → (b = a ∧ o = .frz oS (.lst (ns.map V.int))) ∨ (b = sysModules ∧ o = sysO oY) := fun {b o} e => by
    by_cases c : b = a ∧ K.lookup a = none
    · have e' := (if_pos c).symm.trans e
      exact .inl ⟨c.1, (Option.some.inj e').symm⟩
    · by_cases c2 : b = sysModules
      · rw [c2, Hy] at e; exact .inr ⟨c2, (Option.some.inj e).symm⟩
      · have e' : H b = none := (if_neg c).trans (if_neg c2)
        rw [e'] at e; cases e
  have hfree : ∀ {b : Addr}, (b = a → K.lookup a ≠ none) → b ≠ sysModules → H b = none := fun {b} c c2 => (if_neg fun z => c z.1 z.2).trans (if_neg c2)
  have hS : SqL K H a (ns.map V.int) := by
    cases hk : K.lookup a with
    | none => exact .inl (.inr ⟨oS, Ha hk⟩)
    | some o =>
      have e := (KX a o hk).symm.trans ha
      cases e
      exact .inr ⟨_, vs.toArray, _, hk, rfl, rfl, rfl, by rw [List.size_toArray, hi.length]; exact hl, by simpa using rv⟩
  have hok : HOk P w H s₁.heap := fun b o e => by
    rcases Hsome e with ⟨rfl, rfl⟩ | ⟨rfl, rfl⟩
    · exact ⟨ha, by rw [List.length_map]; exact hl, vs, _, rv, ha⟩
    · exact ⟨hsy, hsy, ⟨_, hsy⟩, fun h1 h2 z kk => kk _ z⟩
  have notA : ∀ {b : Addr} {m : Str → Option Value}, s₁.heap.Ns b m → b ≠ a := fun {b m} ⟨o, es, ep, e, d, r⟩ z => by
    rw [z, ha] at e; cases e; cases d
  have ns_hid : ∀ {b : Addr} {m : Str → Option Value}, b ≠ sysModules → s₁.heap.Ns b m → (hidT s₁.heap H).Ns b m := fun {b m} hb x => by
    have h1 := notA x
    obtain ⟨o, es, ep, e, d, r⟩ := x
    exact ⟨o, es, ep, hidT_get e (hfree (fun z => absurd z h1) hb), d, r⟩
  have hKb : K.In (hidT s₁.heap H) := fun b o e => hidT_get (KX b o e) (hfree (fun z => by rw [z] at e; rw [e]; exact fun y => nomatch y) (fun z => by rw [z, hKs] at e; cases e))
  have hM : Mod K mg (hidT s₁.heap H) := ⟨hKb, ns_hid (by decide) hns, ⟨mb, ns_hid (by decide) hb, hbb⟩, let ⟨mc, h1, h2⟩ := hlim; ⟨mc, ns_hid (by decide) h1, h2⟩⟩
  have e0 : Env0 P w K mg (hidT s₁.heap H) callerA [] s₁ H := ⟨rfl, hM, fun b o e => of_hidT e, Nat.le_of_eq (hidT_size _ _), trivial, (fun b hb => absurd (show b ∈ ([] : List Addr) from hb) (by simp)), hok, .of_eq hg⟩
  refine codeAny_mono ((F _ hKb (ns_hid (by decide) hns)).run callerA rfl hr [] s₁ H ⟨[.ref a], []⟩ [.ref a] [.ref a] _ _ e0 (hbind s₁ (.ref a)) (.cons rfl .nil) (hsp H _ hS Hy)) fun r s' h => ?_
  rcases r with e | fl
  · exact False.elim h
  rcases fl with _ | _ | _ | u
  · exact False.elim h
  · exact False.elim h
  · exact False.elim h
  obtain ⟨v, H', os, bare, un, hok', r', q⟩ := h
  have q' : v = .bl true := q
  subst q'
  obtain rfl : u = Value.bool true := r'
  refine ⟨rfl, OldK.of_keep fun b o e => ?_, os, bare⟩
  cases hb' : H b with
  | none => exact un.keep b o e hb' (fun z => absurd (show b ∈ ([] : List Addr) from z) (by simp)) (by simp)
  | some u =>
    rcases Hsome hb' with ⟨rfl, rfl⟩ | ⟨rfl, rfl⟩
    · have e2 := (hok' _ _ (un.frzs _ oS _ hb')).1
      rw [ha] at e
      cases e
      exact e2
    · have e2 := (hok' _ _ (un.frzs _ oY _ hb')).1
      rw [hsy] at e
      cases e
      exact e2
theorem walk_ofS {l : PySem.W.OpenLaw} {n k : Nat} {q : Program} {loose : List Str} {XP : (Str → Option Value) → Heap → Prop} {YP : World → Heap → Prop} {d : DefRec} {K : Params → PySem.W.Frag} {sp : PySem.W.Frag → Sp} {x : Str}
    (hn : l.most = some n) (hn2 : n ≤ sizeLine) (hdf : d.params.defaults = []) (hr : Room k callerA) (him : importsNone q = true) (hKs : ∀ p, (K p).lookup sysModules = none)
    (hY : ∀ (w : World) (h : Heap), YP w h → (K w.params).In h)
    (F : ∀ (w : World) (mg : Str → Option Value) (fa : Addr) (h : Heap), (K w.params).In h → h.Ns mainGlobals mg → mg d.name = some (.ref fa) →
      ∃ fd : FuncData, (∀ (s : Shared) (u : Value), BindsTo s fd ⟨[u], []⟩ [(x, u)]) ∧
        ∀ base : Heap, (K w.params).In base → base.Ns mainGlobals mg → FnG l.prog w (K w.params) mg base CX0 k fa fd [x] (sp (K w.params)))
    (hsp : ∀ (K : PySem.W.Frag) (H : Hp) (a : Addr) (ns : List Int) (o : HO), ns.length ≤ n → SqL K H a (ns.map V.int) → H sysModules = some o → sp K [.ref a] H (fun v _ => v = .bl true) fun _ _ _ => False) :
    PySem.W.WalkO q loose XP YP l.row.toRowW d [] (fun f vs => PySem.call f vs) :=
  Att.attach_call hn hdf fun w s₀ s₁ mg mb fa o pm cd doc a vs ns G Y ho hd hcd hmg hobj hints hlen hg =>
    have KX := hY w _ Y
    let ⟨fd, hb, hF⟩ := F w mg fa _ KX G.T.g hmg
    let ⟨mm, hmm, _⟩ := (G.T.seer him).mods
    let ⟨oY, es, ep, eY, dY, _⟩ := hmm
    law_callS (hKs w.params) eY (fun z => by rw [z, eY] at hobj; cases hobj; cases dY) KX G.T.g G.T.b G.T.builtins G.T.nolimit hg hobj hints (Nat.le_trans hlen hn2) hr hF hb fun H o hS hy => hsp _ H a ns o hlen hS hy
end MB

set_option maxHeartbeats 4000000
namespace MB
open PySem PySem.Spec PyProof.Rows L2
/-! ### facts of own exception classes, each as one truth value -/
def excB (K : PySem.W.Frag) (D : Addr) : Bool :=
  decide (PySem.W.findIn K (.ref D) "__getattribute__" = some (some (.builtin "BaseException.__getattribute__"))) && (decide (PySem.W.findIn K (.ref D) "__getattr__" = some none) && (decide (PySem.W.subIn K (.ref D) (.type "BaseException") = some true) && (PySem.W.hasDictIn K D &&
  (decide (PySem.W.findIn K (.ref D) "__class__" = some (some (.builtin "object.__class__"))) && (decide (PySem.W.specialIn K (.builtin "object.__class__") "__get__" = some (some (.builtin "getset_descriptor.__get__"))) && (decide (PySem.W.takesIn K (.builtin "object.__class__") = some true) && decide (PySem.W.mroIn K D (.type "object") = some true)))))))
theorem excB_ok {K : PySem.W.Frag} {D : Addr} (h : excB K D = true) : ExcC K D ∧ XfC K D := by
  unfold excB at h
  simp only [Bool.and_eq_true, decide_eq_true_eq] at h
  obtain ⟨h1, h2, h3, h4, h5, h6, h7, h8⟩ := h
  exact ⟨⟨h1, h2, h3, h4, h5, h6, h7, h8⟩, ⟨h1, h2, h3, h4⟩⟩
def oexB (K : PySem.W.Frag) (C fI : Addr) (f : Str) : Bool :=
  decide (PySem.W.findIn K (.ref C) "__setattr__" = some (some (.builtin "object.__setattr__"))) && (decide (PySem.W.subIn K (.ref C) (.type "BaseException") = some true) && (decide (PySem.W.typeIn K (.ref C) = some (.type "type")) && (PySem.W.keepIn K (.ref C) &&
  (decide (PySem.W.findIn K (.ref C) f = some none) && (decide (PySem.W.typeIn K (.ref fI) = some (.type "function")))))))
theorem oexB_ok {K : PySem.W.Frag} {C fI : Addr} {f : Str} (h : oexB K C fI f = true) : PySem.W.findIn K (.ref C) "__setattr__" = some (some (.builtin "object.__setattr__")) ∧ PySem.W.subIn K (.ref C) (.type "BaseException") = some true ∧ PySem.W.typeIn K (.ref C) = some (.type "type") ∧ PySem.W.keepIn K (.ref C) = true ∧ PySem.W.findIn K (.ref C) f = some none ∧ PySem.W.typeIn K (.ref fI) = some (.type "function") := by
  unfold oexB at h
  simpa only [Bool.and_eq_true, decide_eq_true_eq] using h
/-- each is an instance of itself alone among them, of the base m, and of ValueError -/
def kitB (K : PySem.W.Frag) (cs : List Addr) (m : Addr) : Bool :=
  cs.all fun c => (cs.all fun d => decide (PySem.W.kitOne K (.ref c) (.ref d) = some (c == d))) && (decide (PySem.W.kitOne K (.ref c) (.ref m) = some true) && decide (PySem.W.kitOne K (.ref c) (.type "ValueError") = some true))
theorem kitB_ok {K : PySem.W.Frag} {cs : List Addr} {m : Addr} (h : kitB K cs m = true) {c : Addr} (hc : c ∈ cs) : (∀ d, d ∈ cs → PySem.W.kitOne K (.ref c) (.ref d) = some (c == d)) ∧ PySem.W.kitOne K (.ref c) (.ref m) = some true ∧ PySem.W.kitOne K (.ref c) (.type "ValueError") = some true := by
  unfold kitB at h
  have h1 := List.all_eq_true.mp h c hc
  simp only [Bool.and_eq_true, decide_eq_true_eq, List.all_eq_true] at h1
  exact h1
def nodupB (cs : List Addr) : Bool := decide cs.Nodup

/-- the same from the lines of ancestors alone -/
def kitT (l : List (Addr × List Value)) (m : Addr) : Bool :=
  l.all fun c => !c.2.isEmpty && ((l.all fun d => decide ((c.1 = d.1 ∨ c.2.contains (.ref d.1) = false))) && (c.2.contains (.ref m) && c.2.contains (.type "ValueError")))
theorem kitOne_self {K : PySem.W.Frag} {v : Value} : PySem.W.kitOne K v v = some true := by
  unfold PySem.W.kitOne
  rw [if_pos (beq_self_eq_true v)]
theorem kitOne_ref {K : PySem.W.Frag} {c d : Addr} {cd dd : ClassData} (hn : c ≠ d) (h : PySem.W.clsIn K c = some cd) (he : cd.mro.isEmpty = false) (g : PySem.W.clsIn K d = some dd) (gt : PySem.W.typeIn K (.ref d) = some (.type "type")) :
    PySem.W.kitOne K (.ref c) (.ref d) = some (cd.mro.contains (.ref d)) := by
  unfold PySem.W.kitOne
  have e : ¬ ((Value.ref c == Value.ref d) = true) := fun z => by
    have z2 : Value.ref c = Value.ref d := beq_iff_eq.mp z
    cases z2; exact hn rfl
  rw [if_neg e]
  unfold PySem.W.kitCls
  dsimp only
  rw [g, gt, if_pos (by simp)]
  show PySem.W.mroIn K c (.ref d) = _
  unfold PySem.W.mroIn
  rw [h]
  show (if cd.mro.isEmpty = true then none else some (cd.mro.contains (.ref d))) = _
  rw [he]; rfl
theorem kitOne_ve {K : PySem.W.Frag} {c : Addr} {cd : ClassData} (h : PySem.W.clsIn K c = some cd) (he : cd.mro.isEmpty = false) :
    PySem.W.kitOne K (.ref c) (.type "ValueError") = some (cd.mro.contains (.type "ValueError")) := by
  unfold PySem.W.kitOne
  have e : ¬ ((Value.ref c == Value.type "ValueError") = true) := fun z => by
    have z2 : Value.ref c = Value.type "ValueError" := beq_iff_eq.mp z
    cases z2
  rw [if_neg e]
  unfold PySem.W.kitCls
  dsimp only
  rw [if_pos (by decide +kernel)]
  show PySem.W.mroIn K c (.type "ValueError") = _
  unfold PySem.W.mroIn
  rw [h]
  show (if cd.mro.isEmpty = true then none else some (cd.mro.contains (.type "ValueError"))) = _
  rw [he]; rfl
theorem kitB_mk {K : PySem.W.Frag} {m : Addr} {md : ClassData} (l : List (Addr × ClassData)) (h : ∀ p, p ∈ l → PySem.W.clsIn K p.1 = some p.2 ∧ PySem.W.typeIn K (.ref p.1) = some (.type "type"))
    (hm : PySem.W.clsIn K m = some md) (tm : PySem.W.typeIn K (.ref m) = some (.type "type")) (t : kitT (l.map fun p => (p.1, p.2.mro)) m = true) : kitB K (l.map (·.1)) m = true := by
  unfold kitB
  unfold kitT at t
  rw [List.all_eq_true] at t ⊢
  intro c hc
  obtain ⟨p, hp, rfl⟩ := List.mem_map.mp hc
  have tp := t _ (List.mem_map.mpr ⟨p, hp, rfl⟩)
  simp only [Bool.and_eq_true, decide_eq_true_eq, List.all_eq_true] at tp
  obtain ⟨t1, t2, t3, t4⟩ := tp
  have t1' : p.2.mro.isEmpty = false := by simpa using t1
  simp only [Bool.and_eq_true, decide_eq_true_eq, List.all_eq_true]
  refine ⟨fun d hd => ?_, ?_, ?_⟩
  · obtain ⟨q, hq, rfl⟩ := List.mem_map.mp hd
    by_cases z : p.1 = q.1
    · rw [z, kitOne_self]; simp
    · have := t2 _ (List.mem_map.mpr ⟨q, hq, rfl⟩)
      rcases this with e | e
      · exact absurd e z
      · rw [kitOne_ref z (h p hp).1 t1' (h q hq).1 (h q hq).2, e]
        have : (p.1 == q.1) = false := by simpa using z
        rw [this]
  · by_cases z : p.1 = m
    · rw [z, kitOne_self]
    · rw [kitOne_ref z (h p hp).1 t1' hm tm, t3]
  · rw [kitOne_ve (h p hp).1 t1', t4]
end MB

set_option maxHeartbeats 4000000
namespace MB
open PySem PySem.Spec PyProof.Rows L2
/-! ### a caught exception is kept: its object comes among what is tracked -/
theorem inv_adopt {X : Cx} {pins : List (Addr × Obj)} {σ : L2.St} {H : Hp} {s : Shared} {a : Addr} {o : HO} (I : Inv X pins σ H s)
    (na : H a = none) (n0 : a ∉ X.ex → X.s_0.heap.get? a = none) (nL : a ≠ X.env.locals) (nC : ∀ x c, X.env.cells.lookup x = some c → c ≠ a) (nP : ∀ p ∈ X.pn ++ pins, p.1 ≠ a)
    (new : ObjOk X.prog X.w (upd H a o) s.heap a o) : Inv X pins σ (upd H a o) s := by
  have ne : ∀ b u, H b = some u → b ≠ a := fun b u q z => by rw [z, na] at q; cases q
  have up : ∀ b u, H b = some u → upd H a o b = some u := fun b u q => by rw [upd_ne (ne b u q)]; exact q
  have no : ∀ b, b ≠ a → H b = none → upd H a o b = none := fun b z q => by rw [upd_ne z]; exact q
  have B := I.base
  refine ⟨I.ok, I.os, I.bare, ⟨B.keep, B.slot, fun b ob q n x => ?_, B.there, fun b xs q => up _ _ (B.tups b xs q), fun b ob u q => up _ _ (B.frzs b ob u q), fun b ps q => ?_⟩, I.loc, I.cell, no _ (Ne.symm nL) I.free, fun x c q => no _ (nC x c q) (I.freeC x c q), fun p hp => ?_, fun b u q => ?_, I.len⟩
  · refine no _ (fun z => ?_) (B.free b ob q n x)
    rw [z] at q x
    rw [n0 x] at q; cases q
  · obtain ⟨more, e⟩ := B.tbls b ps q
    exact ⟨more, up _ _ e⟩
  · obtain ⟨p1, p2, p3⟩ := I.pin p hp
    exact ⟨p1, no _ (nP p hp) p2, p3⟩
  · by_cases z : b = a
    · rw [z, upd_same] at q
      cases q
      rw [z]
      exact new
    · rw [upd_ne z] at q
      exact (I.hok b u q).stay (fun c v _ e => e) (fun c e => up c _ e) fun c _ e => up c _ e

/-- what the catch wishes: the class is one that is caught; behind the suite the error stays, tracked -/
def wKept (K : PySem.W.Frag) (c : Value) (i : Nat) (ts : Addr → Value → Option Addr → TS) (D : Ends) : WX := fun cls d σ H =>
  PySem.W.exmOne K cls c = some true ∧ ∀ a, H a = none →
    ts a cls d { nx := fun σ' H' => D.nx (σ'.set i none) (upd H' a (KeO a cls d)), rt := fun _ _ => False, bk := fun _ _ => False, ct := fun _ _ => False } (σ.set i (some (.ref a))) H
section
variable {X : Cx} {x n : Str} {c : Value} {i : Nat} {body more : List Stmt} {st : Stmt} {np pos pos' : Pos} {tb : WX → TS} {ts : Addr → Value → Option Addr → TS}
theorem ps_try_kept (hst : X.stack = X.env :: X.outer) (hfm : X.env.frame = some X.env.locals)
    (hN : X.N.Nodup) (hi : X.N[i]? = some n)
    (hln : X.env.kindOf n = some .local) (hc : Names X x c)
    (hb : ∀ (W : WX) (pn : List (Addr × Obj)) (xe : Value → Shared → Prop), Takes (X.tr pn xe) W →
      PassesOwn (model X.prog X.w) X.A X.env xe → PSs (X.tr pn xe) body (tb W))
    (hsu : ∀ (a : Addr) (oe : Obj) (cls : Value) (d : Option Addr) (pn : List (Addr × Obj)), Zc cls d oe →
      (∃ vs, oe.data = .fields vs) → PSs (X.suite a ((a, oe) :: pn)) (st :: more) (ts a cls d)) :
    PS X (.Try body [.ExceptHandler (some (.Name x np)) (some n) (st :: more) pos'] [] [] pos)
      (fun D σ H => tb (wKept X.K c i ts D) D σ H) := by
  refine ⟨fun pins s σ H D I h => ?_⟩
  have okX := I.ok
  have frm : X.A.frames = some (X.env :: X.outer) := by rw [okX.frames, hst]
  refine wpAny_Try_except (wpAny_mono ((hb (wKept X.K c i ts D) (X.pn ++ pins) _ (fun u s1 xx => ?_) PassesOwn.looking).run [] s σ H D (I.toTry _) h) (fun f s1 q => ?_) (fun e s1 q => q))
  · obtain ⟨a, B, sI, pins', σ1, H1, cls, d, rfl, Jt, nb, up, sky, na, os, ag, hyes, hts⟩ := xx
    have J : Inv X pins σ1 H1 sI := Jt.ofTry okX
    rw [show (X.tr (X.pn ++ pins) _).stack = X.env :: X.outer from hst] at sky
    show wpAny (model X.prog X.w) X.A (noteFrame (.ref a) X.env) _ _ _
    refine Sky.land Zc.steady frm hfm sky fun h2 fl up2 => ?_
    have J2 : Inv X pins σ1 H1 { s1 with heap := h2 } := J.landed nb fl.1 (up.trans up2) os ag
    have Bn : B.get? a = none := fl.2.1
    obtain ⟨o2, vs2, g2, z2, d2⟩ := fl.there
    have offF : a ∉ frs (X.env :: X.outer) := fun hm => by
      obtain ⟨_, o', e', hnf⟩ := fl.2.2.1.mem hm
      rw [g2] at e'; cases e'
      exact hnf _ d2
    have offL : a ≠ X.env.locals := fun z => offF (List.mem_filterMap.mpr ⟨X.env, List.mem_cons_self, by rw [hfm, z]⟩)
    have offO : a ∉ X.fs := fun hm => by
      obtain ⟨e, he, q⟩ := List.mem_filterMap.mp hm
      exact offF (List.mem_filterMap.mpr ⟨e, List.mem_cons_of_mem _ he, q⟩)
    have offI : ∀ o, sI.heap.get? a = some o → False := fun o e => by
      have := nb a o e (by show a ∉ frs X.stack; rw [hst]; exact offF)
      rw [Bn] at this; cases this
    have n0 : a ∉ X.ex → X.s_0.heap.get? a = none := fun hx => by
      cases e : X.s_0.heap.get? a with
      | none => rfl
      | some o =>
        obtain ⟨o', e'⟩ := J.base.there a o e hx
        exact (offI _ e').elim
    have nC : ∀ x c, X.env.cells.lookup x = some c → c ≠ a := fun x c e z => by
      obtain ⟨v, q⟩ := J.cell x c e
      rw [z] at q
      obtain ⟨o, q1, _⟩ := q
      exact offI _ q1
    have nP : ∀ p ∈ X.pn ++ pins, p.1 ≠ a := fun p hp z => by
      have q := (J.pin p hp).1
      rw [z] at q
      exact offI _ q
    have S2 := J2.suite g2 d2 na offL offO
    refine wpAny_handleBy_cons (codeAny_handlers_test ?_) (by intro q; cases q)
    have ty : PySem.W.Looks (model X.prog X.w) h2 (typeOf (.ref a)) cls := fun _ _ _ _ k q =>
      wpAny_typeOf_ref (k _ _ g2) (by rw [z2.1]; exact q)
    have look := PySem.W.exm_one (M := model X.prog X.w) J2.kIn ty hyes
    have nam : ∀ {Q E : Value → Shared → Prop}, Q c { s1 with heap := h2 } →
        wpAny (model X.prog X.w) (X.A.mark (some (.ref a))) (eval (.Name x np) X.env) Q E { s1 with heap := h2 } := fun {Q E} q => by
      rcases hc with ⟨hg, hdb, hm | ⟨hm, hv, hnn⟩⟩
      · exact ld_glob (X := X.suite a ((a, o2) :: (X.pn ++ pins))) S2 hg hm q hdb
      · exact ld_blt (X := X.suite a ((a, o2) :: (X.pn ++ pins))) S2 hg hm hv q hnn hdb
    refine nam (look.here (codeAny_handlers_suite_as (HandSPX.lands_againZ fl fun h3 fl3 up3 => ?_)))
    have J3 : Inv X pins σ1 H1 { s1 with heap := h3 } := J.landed nb fl3.1 ((up.trans up2).trans up3) os ag
    obtain ⟨o3, vs3, g3, z3, d3⟩ := fl3.there
    have S3 := J3.suite g3 d3 na offL offO
    refine store_ok (X := X.suite a ((a, o3) :: (X.pn ++ pins))) (v := .ref a) S3 hN hi (.inl hln) rfl (fun s4 S4 => ?_) (.inr hln)
    refine wpAny_mono ((hsu a o3 cls d (X.pn ++ pins) z3 ⟨_, d3⟩).run [] s4 _ H1 _ S4 (hts a na)) (fun f s5 q => ?_) (fun _ _ z => z.elim)
    cases f with
    | next =>
      obtain ⟨σ5, H5, S5, q5⟩ := q
      obtain ⟨g5, n5, _⟩ := S5.pin (a, o3) (by simp [Cx.suite])
      exact gone_ok (inv_adopt (S5.unsuite okX) n5 n0 offL nC nP (keO_ok g5 z3.1 z3.2 d3)) hN hi hln fun s6 J6 => ⟨_, _, J6, q5⟩
    | brk => obtain ⟨_, _, _, z⟩ := q; exact z.elim
    | cont => obtain ⟨_, _, _, z⟩ := q; exact z.elim
    | ret u => obtain ⟨_, _, _, _, _, z⟩ := q; exact z.elim
  · cases f with
    | next => obtain ⟨_, _, J, z⟩ := q; exact wpAny_execs_nil ⟨_, _, J.ofTry okX, z⟩
    | brk => obtain ⟨_, _, J, z⟩ := q; exact ⟨_, _, J.ofTry okX, z⟩
    | cont => obtain ⟨_, _, J, z⟩ := q; exact ⟨_, _, J.ofTry okX, z⟩
    | ret u => obtain ⟨_, _, _, J, r, z⟩ := q; exact ⟨_, _, _, J.ofTry okX, r, z⟩
end
end MB

set_option maxHeartbeats 4000000
namespace MB
open PySem PySem.Spec PyProof.Rows L2
/-! ### what a def or a lambda lets out, its caller takes -/
theorem takesX {P : Program} {w : World} {K : PySem.W.Frag} {mg : Str → Option Value} {base : Heap} {N : List Str} {qual : Str} {scope : Scope} {f : Addr} {cd : Value} {A : Around} {outer : List Env} {s : Shared} {H : Hp} {E : XK} :
    Takes (cxOf (L2.CX P w) P w K mg base N qual scope f cd A outer s H E) (fun cls d _ H => E cls d H) := takes_of rfl rfl rfl rfl
theorem passX {P : Program} {w : World} {K : PySem.W.Frag} {mg : Str → Option Value} {base : Heap} {N : List Str} {qual : Str} {scope : Scope} {f : Addr} {cd : Value} {A : Around} {outer : List Env} {s : Shared} {H : Hp} {E : XK} :
    Passes (L2.CX P w) (cxOf (L2.CX P w) P w K mg base N qual scope f cd A outer s H E) E := passes_call takesX fun _ _ _ _ h => h
theorem takesL {X : Cx} {A : Around} {outer : List Env} {s : Shared} {H : Hp} {E : XK} {scope : Scope} {f c' : Addr} : Takes (LamX.lamCx X A outer s H E scope f c') (fun cls d _ H => E cls d H) := takes_of rfl rfl rfl rfl
theorem passL' {X : Cx} {A : Around} {outer : List Env} {s : Shared} {H : Hp} {E : XK} {scope : Scope} {f c' : Addr} : Passes (L2.CX X.prog X.w) (LamX.lamCx X A outer s H E scope f c') E := passes_call takesL fun _ _ _ _ h => h
/-- a def that may raise, called where it does not -/
theorem passN {P : Program} {w : World} {X : Cx} : Passes (L2.CX P w) X E0 := fun _ _ _ _ _ _ _ ⟨_, _, _, _, _, _, _, _, _, _, _, _, h⟩ => h.elim
/-! ### raise C(value) -/
theorem raise_read {K : PySem.W.Frag} {C : Addr} {ta : TA} {σ : L2.St} {H : Hp} {W : XK} (h : ta σ H fun vs H1 => ∃ y, vs = [y] ∧ ∀ d H2, Same H1 H2 → H1 d = none → H2 d = some (.xd [("value", y)]) → W (.ref C) (some d) H2)
    (mono : ∀ (R R' : List V → Hp → Prop), (∀ vs H1, R vs H1 → R' vs H1) → ta σ H R → ta σ H R') : tMkO C (sp_init K C "value") [] ta σ H W := by
  refine mono _ _ ?_ h
  rintro vs H1 ⟨y, rfl, q⟩
  refine ⟨by simp, fun a na => ⟨a, y, rfl, upd_same, fun dx ndx ne => ⟨rfl, dx, [("value", y)], upd_same, ?_, ?_, ?_⟩⟩⟩
  · rw [upd_ne ne]; exact upd_same
  · by_cases e : dx = a
    · exact absurd e ne
    · rw [upd_ne e] at ndx; exact ndx
  · have nd : H1 dx = none := by rw [upd_ne ne] at ndx; exact ndx
    refine q dx _ (fun b o eb => ?_) nd upd_same
    have h1 : b ≠ a := ne_of_none eb na
    have h2 : b ≠ dx := ne_of_none eb nd
    rw [upd_ne h2]
    unfold del
    rw [if_neg h1, upd_ne h1, upd_ne h2, upd_ne h1]
    exact eb
/-! ### what stays when a lambda is made -/
theorem extN_seq {K : PySem.W.Frag} {H H' : Hp} (e : LamX.ExtN H H') {a : Addr} {xs : List V} (h : SqL K H a xs) : SqL K H' a xs := by
  rcases h with (h | ⟨o, h⟩) | h
  · exact .inl (.inl (e _ _ h fun _ z => nomatch z))
  · exact .inl (.inr ⟨o, e _ _ h fun _ z => nomatch z⟩)
  · exact .inr h
theorem extN_tup {K : PySem.W.Frag} {H H' : Hp} (e : LamX.ExtN H H') {a : Addr} {xs : List V} (h : SqT K H a xs) : SqT K H' a xs := by
  rcases h with (h | ⟨o, h⟩) | h
  · exact .inl (.inl (e _ _ h fun _ z => nomatch z))
  · exact .inl (.inr ⟨o, e _ _ h fun _ z => nomatch z⟩)
  · exact .inr h
theorem Dq.extN {K : PySem.W.Frag} {H H' : Hp} (e : LamX.ExtN H H') {v : V} {d : PyData} (h : Dq K H v d) : Dq K H' v d := by
  refine Dq.rec (motive_1 := fun v d _ => Dq K H' v d) (motive_2 := fun vs ds _ => DqAll K H' vs ds) ?_ ?_ ?_ ?_ ?_ ?_ ?_ ?_ ?_ h
  · exact .nonq
  · intro b; exact .blq b
  · intro i; exact .intq i
  · intro x; exact .strq x
  · intro a xs ds hs hne _ ih; exact .lstq (extN_seq e hs) hne ih
  · intro a xs ds hs _ ih; exact .tupq (extN_tup e hs) ih
  · intro a kvs des he hk _ ih; exact .dctq (e _ _ he fun _ z => nomatch z) hk ih
  · exact .nil
  · intro v vs d ds _ _ h1 h2; exact .cons h1 h2
theorem tabs_but {T : List (Addr × Str)} {H H' : Hp} {a : Addr} {xs : List V} (t : LamX.Tabs T H) (b : But a H H') (h : H a = some (.lst xs)) : LamX.Tabs T H' := fun p hp => by
  obtain ⟨ps, h1, h2, h3⟩ := t p hp
  refine ⟨ps, b _ _ (fun z => by rw [z, h] at h1; cases h1) h1, h2, fun pos cv hc => ?_⟩
  obtain ⟨c, e1, e2⟩ := h3 pos cv hc
  refine ⟨c, e1, b _ _ (fun z => ?_) e2⟩
  rw [z, h] at e2
  have e3 := Option.some.inj e2
  unfold LamX.CodeO at e3
  cases e3
theorem Tabs.same {T : List (Addr × Str)} {H H' : Hp} (t : LamX.Tabs T H) (s : Same H H') : LamX.Tabs T H' := LamX.Tabs.ext t s
/-! ### bs.count(True) -/
theorem dpBs {K : PySem.W.Frag} {H : Hp} : ∀ (bs : List Bool), DpAll K H (bs.map V.bl) (bs.map PyData.bool)
  | [] => .nil
  | b :: bs => .cons (.bl b) (dpBs bs)
def rCountB (K : PySem.W.Frag) : V → List V → Hp → VK → Prop := fun x xs H Q => ∃ (a : Addr) (bs : List Bool), x = .ref a ∧ xs = [.bl true] ∧ SqL K H a (bs.map V.bl) ∧ Q (.int (bs.countP id : Nat)) H
theorem mt_countB {X : Cx} (hu : X.A.units + 65 < cLine) : MtR X "list.count" (rCountB X.K) := by
  intro pins s σ H x xs v us Q I rx rxs h
  obtain ⟨a, bs, rfl, rfl, hs, q⟩ := h
  cases rx
  cases rxs with
  | cons ry rt =>
    rename_i uy ut
    cases rt
    cases ry
    obtain ⟨its, rv, ⟨o, n, ho, hc, hdn, hdt⟩, hlen⟩ := I.list hs
    obtain ⟨as, h4⟩ := Dp.readsAll I (bs.map PyData.bool) _ its (dpBs bs) rv
    have pl : ∀ l : List Bool, PyData.plainAll (l.map PyData.bool) = true := fun l => by
      induction l with
      | nil => rfl
      | cons b l ih => simp [PyData.plainAll, PyData.plain, ih]
    have dp : ∀ l : List Bool, PyData.depthAll (l.map PyData.bool) = 0 := fun l => by
      induction l with
      | nil => rfl
      | cons b l ih => simp [PyData.depthAll, PyData.depth, ih]
    refine SeqAt.count_list_data (xs := bs.map PyData.bool) (vs := its.toArray) (d := .bool true) ⟨o, ho, hc, n, hdt⟩ (by simpa using h4) (.bool true) (pl bs) rfl (by rw [dp]; omega) ?_
    have e : (bs.map PyData.bool).countP (fun y => PyData.eqv y (.bool true)) = bs.countP id := by
      rw [List.countP_map]
      congr 1
      funext b
      cases b <;> rfl
    rw [e]
    exact ⟨.int (bs.countP id : Nat), H, I.tok _, ⟨_, rfl⟩, q⟩
end MB

set_option maxHeartbeats 4000000
namespace MB
open PySem PySem.Spec PyProof.Rows L2
/-! ### a method that may raise, called in a try: what it lets out is told at the slots of the call -/
section
variable {X : Cx} {k : Nat} {f C : Addr} {fd : FuncData} {ps : List Str} {sp : Sp} {dvs : List V} {ds : List Value} {W : WX} {x m : Str} {p pos apos : PySem.Pos} {e o : Expr} {es : List Expr} {ta : TE} {t : TA}
theorem run_fnE {pins : List (Addr × Obj)} {σ : L2.St} {H : Hp} {s : Shared} {Q : VK} {us : List Value} {vs : List V} (F : FnOk X.prog X.w X.K X.mg X.base (L2.CX X.prog X.w) k f fd ps sp) (hr : Room k X.A) (hb : Binds X.K fd ps ds) (hd : Vals dvs ds) (tk : Takes X W)
    (I : Inv X pins σ H s) (r : Vals vs us) (h : sp (vs ++ dvs) H Q (fun cls d H' => W cls d σ H')) : wpAny (model X.prog X.w) X.A (call (.ref f) us) (EP X pins σ Q) X.xe s := by
  have r2 : Vals (vs ++ dvs) (us ++ ds) := r.append hd
  have hl : (us ++ ds).length = ps.length := by rw [← r2.length]; exact F.len _ _ _ _ h
  refine wpAny_call (codeAny_mono (F.run X.A X.stack s H ⟨us, []⟩ (us ++ ds) (vs ++ dvs) Q _ hr I.env0 (hb s us I.kIn hl) r2 h) fun r s' hq => ?_)
  cases r with
  | error e => exact tk e s' (XE.of_call I (fun cls d H' h => h) hq)
  | ok fl =>
    cases fl with
    | ret u => exact I.after hq
    | next => exact False.elim hq
    | brk => exact False.elim hq
    | cont => exact False.elim hq
def tMethE (C : Addr) (m : Str) (sp : Sp) (dvs : List V) (W : WX) (ta : TE) (t : TA) : TE := fun σ H Q => tMeth C m sp dvs (fun cls d H' => W cls d σ H') ta t σ H Q
theorem pe_methE {pl : Sem Bool} (tk : Takes X W) (he : PE X o ta) (c : Cls X.K C) (hm : Meth X.K C m f) (F : FnOk X.prog X.w X.K X.mg X.base (L2.CX X.prog X.w) k f fd ps sp) (hr : Room k X.A) (hb : Binds X.K fd ps ds) (hd : Vals dvs ds) (ha : PA X (e :: es) t)
    (hst : starEach (e :: es) X.env = (false, eval e X.env) :: starEach es X.env := by rfl) (hpl : (backTo pos (starEach es X.env)).any (·.1) = false := by rfl)
    (ht : eval (.Call (.Attribute o m apos) (e :: es) [] pos) X.env = (do
      let ov ← eval o X.env
      standAt apos.atName
      let (f, first) ← holding [ov] (getMethod ov m pl)
      callWith pos f first (backTo pos (starEach (e :: es) X.env)) (backToKw pos (keywordEach [] X.env))) := by rfl) :
    PE X (.Call (.Attribute o m apos) (e :: es) [] pos) (tMethE C m sp dvs W ta t) := by
  refine ⟨fun pins s σ H Q I h => ?_⟩
  refine PySem.W.methodCall_KW (pl := pl) (thn (he.run pins s σ H _ I h) fun u s1 ⟨x, H1, I1, rx, a, dx, fs, ex, ea, l, q⟩ => ?_) ht
  subst ex
  obtain rfl : u = Value.ref a := rx
  refine getmeth_ok I1 ea c hm l ?_
  refine PySem.W.callWith_K (first := [.ref a]) (h₀ := X.base) I.ok.mod.kin hm.kp (thn (ha.run pos pins s1 σ H1 _ I1 q) fun us s2 ⟨vs, H2, I2, r, q2⟩ => ⟨I2.kIn, ?_⟩) hst hpl
  exact run_fnE (us := .ref a :: us) (vs := .ref a :: vs) F hr hb hd tk I2 (.cons rfl r) q2
theorem pe_methE0 {pl : Sem Bool} (tk : Takes X W) (he : PE X o ta) (c : Cls X.K C) (hm : Meth X.K C m f) (F : FnOk X.prog X.w X.K X.mg X.base (L2.CX X.prog X.w) k f fd ps sp) (hr : Room k X.A) (hb : Binds X.K fd ps ds) (hd : Vals dvs ds)
    (ht : eval (.Call (.Attribute o m apos) [] [] pos) X.env = (do
      let ov ← eval o X.env
      standAt apos.atName
      let (f, first) ← holding [ov] (getMethod ov m pl)
      callWith pos f first (backTo pos (starEach [] X.env)) (backToKw pos (keywordEach [] X.env))) := by rfl) :
    PE X (.Call (.Attribute o m apos) [] [] pos) (tMethE C m sp dvs W ta tNil) := by
  refine ⟨fun pins s σ H Q I h => ?_⟩
  refine PySem.W.methodCall_KW (pl := pl) (thn (he.run pins s σ H _ I h) fun u s1 ⟨x, H1, I1, rx, a, dx, fs, ex, ea, l, q⟩ => ?_) ht
  subst ex
  obtain rfl : u = Value.ref a := rx
  refine getmeth_ok I1 ea c hm l ?_
  exact PySem.W.callWith_K0 (first := [.ref a]) I1.kIn hm.kp (run_fnE (us := [.ref a]) (vs := [.ref a]) F hr hb hd tk I1 (.cons rfl .nil) q)
end
/-- what is caught: the class is one that is caught, then the suite -/
def wD (K : PySem.W.Frag) (c : Value) (ts : TS) (D : Ends) : WX := wOnly K c (fun _ _ _ => ts) (fun _ _ _ _ => False) D
theorem wD_of {K : PySem.W.Frag} {c cls : Value} {ts : TS} {D : Ends} {d : Option Addr} {σ : L2.St} {H : Hp} (h : PySem.W.exmOne K cls c = some true) (q : ts D σ H) : wD K c ts D cls d σ H :=
  ⟨true, h, fun _ _ _ => q, fun z => nomatch z⟩
section
variable {X : Cx} {x : Str} {c : Value} {body suite : List Stmt} {b₀ : Stmt} {np pos pos' : PySem.Pos} {tb : WX → TS} {ts : TS}
theorem ps_tryE (hs : X.stack = X.env :: X.outer) (hf : X.env.frame = some X.env.locals) (hc : Names X x c)
    (hb : ∀ (W : WX) (pn : List (Addr × Obj)) (xe : Value → Shared → Prop), Takes (X.tr pn xe) W → PSs (X.tr pn xe) body (tb W))
    (hsu : ∀ (a : Addr) (oe : Obj) (cls : Value) (d : Option Addr) (pn : List (Addr × Obj)), Zc cls d oe → (∃ vs, oe.data = .fields vs) → PSs (X.suite a ((a, oe) :: pn)) (b₀ :: suite) ts) :
    PS X (.Try body [.ExceptHandler (some (.Name x np)) none (b₀ :: suite) pos'] [] [] pos) (fun D σ H => tb (wD X.K c ts D) D σ H) :=
  ps_try_only (Wout := fun _ _ _ _ => False) (ts := fun _ _ _ => ts) (tb := tb) hs hf hc (fun u s' ⟨_, _, _, _, _, _, _, _, _, _, _, _, _, _, _, _, w⟩ => w.elim) (fun W pn xe tk _ => hb W pn xe tk) hsu
end
end MB

set_option maxHeartbeats 4000000
namespace MB
open PySem PySem.Spec PyProof.Rows L2
/-! ### raise C(), a class without its own __init__ -/
section
variable {X : Cx} {C : Addr} {bmB : List Value} {B newId initId : String}
theorem pmk_own0 {x : Str} {p pos : PySem.Pos} (F : ExcBaseFacts B newId initId bmB) (q : PySem.W.excIn X.K C bmB newId = true) (gC : X.mg x = some (.ref C)) (kC : PySem.W.keepIn X.K (.ref C) = true) (r : Raises X (.ref C)) (hg : Gl X x)
    (hdb : (x == ("__debug__" : Str)) = false := by decide) : PMk X (.Call (.Name x p) [] [] pos) (fun _ H Q => Q (.ref C) none H) := by
  intro pins s σ H Q I h
  refine wpAny_Call_Name_kw (ld_glob I hg gC ?_ hdb)
  refine PySem.W.callWith_K0 I.kIn kC ?_
  obtain ⟨bm, N, nm, qn, bs, hdct, sn, sub, ab, col, dd, k0, k1, k2, k3, k5, mN, hC, hN, hni, T⟩ := exc_obj I.kIn q
  refine wpAny_call_exc_subT F T hC hN hni (fun h' e hm => ?_) (by show 0 ≤ sizeLine; omega)
  exact mk_of I hm r h (I.hok.gone hm.new)
theorem raises_xf {K : PySem.W.Frag} (hK : X.K = K) {C : Addr} (h : XfC K C) (q : PySem.W.excIn K C bmB newId = true) : Raises X (.ref C) := by
  subst hK
  refine raises_own h.exC ?_
  unfold PySem.W.excIn at q
  split at q
  · rename_i dd cd sl ho
    show (X.K.lookup C).map _ = _
    rw [ho]; rfl
  · cases q
end
end MB

set_option maxHeartbeats 4000000
namespace MB
open PySem PySem.Spec PyProof.Rows L2
/-- a law's call: no repr is under way, sysModules is tracked, and so are the tables ts of code objects (cs: code object and table) -/
theorem law_callT {P : Program} {w : World} {K : PySem.W.Frag} {mg mb : Str → Option Value} {k : Nat} {fa a : Addr} {fd : FuncData} {x : Str} {sp : Sp} {s₁ : Shared} {vs : List Value} {ns : List Int} {oY : Obj} {cs : List (Addr × Addr)}
    (hKs : K.lookup sysModules = none) (hsy : s₁.heap.get? sysModules = some oY) (hyT : ∀ p ∈ cs, p.2 ≠ sysModules) (hna : a ≠ sysModules) (KX : K.In s₁.heap) (hns : s₁.heap.Ns mainGlobals mg) (hb : s₁.heap.Ns builtinsNs mb)
    (hbb : ∀ x : Str, x ≠ "__name__" → mb x = bootBuiltins x) (hlim : s₁.heap.NoLimit) (hg : s₁.gens = #[])
    (hT : ∀ p ∈ cs, s₁.heap.get? p.2 = some { cls := .none, data := .fields #[] }) (nT : ∀ p ∈ cs, K.lookup p.2 = none) (hC : ∀ p ∈ cs, PySem.W.CodeHd s₁.heap p.1 p.2) (hCy : ∀ p ∈ cs, p.1 ≠ sysModules)
    (hbm : ∃ (bm : Addr) (ob : Obj), mg "__builtins__" = some (.ref bm) ∧ bm ≠ builtinsNs ∧ s₁.heap.get? bm = some ob ∧ ob.cls = .type "module" ∧ ob.dict = some builtinsNs ∧ ob.data = .plain)
    (hyd : ∃ es ep, oY.data = .dict es ep)
    (ha : s₁.heap.get? a = some { cls := .type "list", data := .seq vs.toArray }) (hi : IntsAre vs ns) (hl : ns.length ≤ sizeLine) (hr : Room k callerA)
    (F : ∀ base : Heap, K.In base → base.Ns mainGlobals mg → (∀ p ∈ cs, LamX.TabB base mg p.1 p.2) → FnG P w K mg base CX0 k fa fd [x] sp) (hbind : ∀ (s : Shared) (u : Value), BindsTo s fd ⟨[u], []⟩ [(x, u)])
    (hsp : ∀ (H : Hp) (o : HO), SqL K H a (ns.map V.int) → H sysModules = some o → (∀ ps, o ≠ .tbl ps) → (∀ p ∈ cs, H p.2 = some (.tbl #[])) → sp [.ref a] H (fun v _ => v = .bl true) fun _ _ _ => False) :
    codeAny (model P w) callerA (.call (.ref fa) ⟨[.ref a], []⟩) (fun r s' => r = .ok (.ret (.bool true)) ∧ OldK s₁.heap s'.heap ∧ s'.os = s₁.os ∧ AllBare s'.gens) s₁ := by
  let oS : Obj := { cls := .type "list", data := .seq vs.toArray }
  let H : Hp := fun b => if b = a ∧ K.lookup a = none then some (.frz oS (.lst (ns.map V.int))) else if b = sysModules then some (sysO oY) else if b ∈ cs.map (·.2) then some (.tbl #[]) else none
  have isT : ∀ b : Addr, b ∈ cs.map (·.2) → s₁.heap.get? b = some { cls := .none, data := .fields #[] } ∧ K.lookup b = none ∧ b ≠ sysModules := fun b hb => by
    obtain ⟨p, hp, rfl⟩ := List.mem_map.mp hb
    exact ⟨hT p hp, nT p hp, hyT p hp⟩
  have aT : a ∉ cs.map (·.2) := fun z => by
    have q := (isT a z).1
    rw [ha] at q
    cases q
  have Ha : K.lookup a = none → H a = some (.frz oS (.lst (ns.map V.int))) := fun hk => if_pos ⟨rfl, hk⟩
  have Hy : H sysModules = some (sysO oY) := (if_neg fun z => hna z.1.symm).trans (if_pos rfl)
  have Ht : ∀ b, b ∈ cs.map (·.2) → H b = some (.tbl #[]) := fun b hb => (if_neg fun z => aT (by rw [← z.1]; exact hb)).trans ((if_neg (isT b hb).2.2).trans (if_pos hb))
  have rv := vals_ints hi
  have Hsome : ∀ {b : Addr} {o : HO}, H b = some o → (b = a ∧ o = .frz oS (.lst (ns.map V.int))) ∨ (b = sysModules ∧ o = sysO oY) ∨ (b ∈ cs.map (·.2) ∧ o = .tbl #[]) := fun {b o} e => by
    by_cases c : b = a ∧ K.lookup a = none
    · have e' := (if_pos c).symm.trans e
      exact .inl ⟨c.1, (Option.some.inj e').symm⟩
    · by_cases c2 : b = sysModules
      · rw [c2, Hy] at e; exact .inr (.inl ⟨c2, (Option.some.inj e).symm⟩)
      · by_cases c3 : b ∈ cs.map (·.2)
        · rw [Ht b c3] at e; exact .inr (.inr ⟨c3, (Option.some.inj e).symm⟩)
        · have e' : H b = none := (if_neg c).trans ((if_neg c2).trans (if_neg c3))
          rw [e'] at e; cases e
  have hfree : ∀ {b : Addr}, (b = a → K.lookup a ≠ none) → b ≠ sysModules → b ∉ cs.map (·.2) → H b = none := fun {b} c c2 c3 => (if_neg fun z => c z.1 z.2).trans ((if_neg c2).trans (if_neg c3))
  have hS : SqL K H a (ns.map V.int) := by
    cases hk : K.lookup a with
    | none => exact .inl (.inr ⟨oS, Ha hk⟩)
    | some o =>
      have e := (KX a o hk).symm.trans ha
      cases e
      exact .inr ⟨_, vs.toArray, _, hk, rfl, rfl, rfl, by rw [List.size_toArray, hi.length]; exact hl, by simpa using rv⟩
  have hok : HOk P w H s₁.heap := fun b o e => by
    rcases Hsome e with ⟨rfl, rfl⟩ | ⟨rfl, rfl⟩ | ⟨h1, rfl⟩
    · exact ⟨ha, by rw [List.length_map]; exact hl, vs, _, rv, ha⟩
    · exact ⟨hsy, hsy, ⟨_, hsy⟩, fun h1 h2 z kk => kk _ z⟩
    · exact (isT b h1).1
  have noD : ∀ {b : Addr} {o : Obj}, s₁.heap.get? b = some o → b ≠ sysModules → (∀ us n, o.data ≠ .seq us n) → o.data ≠ .fields #[] → H b = none := fun {b o} e c h1 h2 => hfree (fun z => by
      rw [z, ha] at e
      cases e
      exact (h1 _ _ rfl).elim) c fun z => by
      rw [(isT b z).1] at e
      cases e
      exact h2 rfl
  have ns_hid : ∀ {b : Addr} {m : Str → Option Value}, b ≠ sysModules → s₁.heap.Ns b m → (hidT s₁.heap H).Ns b m := fun {b m} hb x => by
    obtain ⟨o, es, ep, e, d, r⟩ := x
    exact ⟨o, es, ep, hidT_get e (noD e hb (fun us n z => by rw [d] at z; cases z) fun z => by rw [d] at z; cases z), d, r⟩
  have hKb : K.In (hidT s₁.heap H) := fun b o e => hidT_get (KX b o e) (hfree (fun z => by rw [z] at e; rw [e]; exact fun y => nomatch y) (fun z => by rw [z, hKs] at e; cases e) fun z => by rw [(isT b z).2.1] at e; cases e)
  have hM : Mod K mg (hidT s₁.heap H) := ⟨hKb, ns_hid (by decide) hns, ⟨mb, ns_hid (by decide) hb, hbb⟩, let ⟨mc, h1, h2⟩ := hlim; ⟨mc, ns_hid (by decide) h1, h2⟩⟩
  have TB : ∀ p ∈ cs, LamX.TabB (hidT s₁.heap H) mg p.1 p.2 := fun p hp => by
    have hTp := hT p hp
    refine ⟨?_, ?_, fun z => ?_⟩
    · obtain ⟨o, us, file, tf, flags, tg, inF, text, tt, e1, r1, r2, r3, r4⟩ := hC p hp
      refine ⟨o, us, file, tf, flags, tg, inF, text, tt, hidT_get e1 (noD e1 (hCy p hp) (fun us' n z => ?_) fun z => ?_), r1, r2, r3, r4⟩
      · rw [r2] at z; cases z
      · rw [r2] at z; cases z; simp at r3
    · obtain ⟨bm, ob, b1, b2, b3, b4, b5, b6⟩ := hbm
      have nY : bm ≠ sysModules := fun q => by
        obtain ⟨es, ep, hd⟩ := hyd
        rw [q, hsy] at b3
        cases b3
        rw [hd] at b6; cases b6
      have nG : bm ≠ mainGlobals := fun q => by
        obtain ⟨o, es, ep, e, hd, _⟩ := hns
        rw [q, e] at b3
        cases b3
        rw [hd] at b6; cases b6
      have nP : bm ≠ p.2 := fun q => by rw [q, hTp] at b3; cases b3; cases b6
      exact ⟨bm, ob, b1, b2, nG, nP, hidT_get b3 (noD b3 nY (fun us' n z => by rw [b6] at z; cases z) fun z => by rw [b6] at z; cases z), b4, b5, b6⟩
    · obtain ⟨o, es, ep, e, hd, _⟩ := hns
      rw [z, hTp] at e
      cases e
      cases hd
  have e0 : Env0 P w K mg (hidT s₁.heap H) callerA [] s₁ H := ⟨rfl, hM, fun b o e => of_hidT e, Nat.le_of_eq (hidT_size _ _), trivial, (fun b hb => absurd (show b ∈ ([] : List Addr) from hb) (by simp)), hok, .of_eq hg⟩
  refine codeAny_mono ((F _ hKb (ns_hid (by decide) hns) TB).run callerA rfl hr [] s₁ H ⟨[.ref a], []⟩ [.ref a] [.ref a] _ _ e0 (hbind s₁ (.ref a)) (.cons rfl .nil) (hsp H _ hS Hy (fun ps z => by unfold sysO at z; cases z) fun p hp => Ht _ (List.mem_map.mpr ⟨p, hp, rfl⟩))) fun r s' h => ?_
  rcases r with e | fl
  · exact False.elim h
  rcases fl with _ | _ | _ | u
  · exact False.elim h
  · exact False.elim h
  · exact False.elim h
  obtain ⟨v, H', os, bare, un, hok', r', q⟩ := h
  have q' : v = .bl true := q
  subst q'
  obtain rfl : u = Value.bool true := r'
  have key : ∀ b o, b ∉ cs.map (·.2) → s₁.heap.get? b = some o → s'.heap.get? b = some o := fun b o nb e => by
    cases hb' : H b with
    | none => exact un.keep b o e hb' (fun z => absurd (show b ∈ ([] : List Addr) from z) (by simp)) (by simp)
    | some u =>
      rcases Hsome hb' with ⟨rfl, rfl⟩ | ⟨rfl, rfl⟩ | ⟨h1, _⟩
      · have e2 := (hok' _ _ (un.frzs _ oS _ hb')).1
        rw [ha] at e
        cases e
        exact e2
      · have e2 := (hok' _ _ (un.frzs _ oY _ hb')).1
        rw [hsy] at e
        cases e
        exact e2
      · exact absurd h1 nb
  have grown : ∀ p ∈ cs, ∃ more : Array Value, s'.heap.get? p.2 = some { cls := .none, data := .fields more } := fun p hp => by
    obtain ⟨more, z⟩ := un.tbls p.2 #[] (Ht _ (List.mem_map.mpr ⟨p, hp, rfl⟩))
    exact ⟨_, hok' p.2 _ z⟩
  refine ⟨rfl, ⟨fun b o e => ?_, fun b o e => ?_⟩, os, bare⟩
  · by_cases hb : b ∈ cs.map (·.2)
    · obtain ⟨p, hp, rfl⟩ := List.mem_map.mp hb
      obtain ⟨more, hm⟩ := grown p hp
      rw [hT p hp] at e
      cases e
      exact .inr (.inl ⟨((hC p hp).tab (hT p hp)).isCodeTable, rfl, #[], more, rfl, by rw [Array.empty_append]; exact hm⟩)
    · exact .inl (key b o hb e)
  · by_cases hb : b ∈ cs.map (·.2)
    · obtain ⟨p, hp, rfl⟩ := List.mem_map.mp hb
      obtain ⟨more, hm⟩ := grown p hp
      exact ⟨_, hm⟩
    · exact ⟨o, key b o hb e⟩
theorem walk_ofT {l : PySem.W.OpenLaw} {n k : Nat} {q : Program} {loose : List Str} {XP : (Str → Option Value) → Heap → Prop} {YP : World → Heap → Prop} {d : DefRec} {K : Params → PySem.W.Frag} {sp : PySem.W.Frag → List (Addr × Addr) → Sp} {x : Str}
    (hn : l.most = some n) (hn2 : n ≤ sizeLine) (hdf : d.params.defaults = []) (hr : Room k callerA) (him : importsNone q = true) (hKs : ∀ p, (K p).lookup sysModules = none)
    (hY : ∀ (w : World) (h : Heap), YP w h → (K w.params).In h)
    (F : ∀ (w : World) (mg : Str → Option Value) (fa : Addr) (h : Heap), YP w h → (K w.params).In h → h.Ns mainGlobals mg → mg d.name = some (.ref fa) →
      ∃ (fd : FuncData) (cs : List (Addr × Addr)), (∀ p ∈ cs, h.get? p.2 = some { cls := .none, data := .fields #[] }) ∧ (∀ p ∈ cs, (K w.params).lookup p.2 = none) ∧ (∀ p ∈ cs, PySem.W.CodeHd h p.1 p.2) ∧ (∀ p ∈ cs, p.1 ≠ sysModules ∧ p.2 ≠ sysModules) ∧ (∀ (s : Shared) (u : Value), BindsTo s fd ⟨[u], []⟩ [(x, u)]) ∧
        (∀ base : Heap, (K w.params).In base → base.Ns mainGlobals mg → (∀ p ∈ cs, LamX.TabB base mg p.1 p.2) → FnG l.prog w (K w.params) mg base CX0 k fa fd [x] (sp (K w.params) cs)) ∧
        ∀ (H : Hp) (a : Addr) (ns : List Int) (o : HO), ns.length ≤ n → SqL (K w.params) H a (ns.map V.int) → H sysModules = some o → (∀ ps, o ≠ .tbl ps) → (∀ p ∈ cs, H p.2 = some (.tbl #[])) → sp (K w.params) cs [.ref a] H (fun v _ => v = .bl true) fun _ _ _ => False) :
    PySem.W.WalkO q loose XP YP l.row.toRowW d [] (fun f vs => PySem.call f vs) :=
  Att.attach_call hn hdf fun w s₀ s₁ mg mb fa o pm cd doc a vs ns G Y ho hd hcd hmg hobj hints hlen hg =>
    have KX := hY w _ Y
    let ⟨fd, cs, hT, nT, hC, hy, hb, hF, hsp⟩ := F w mg fa _ Y KX G.T.g hmg
    let ⟨mm, hmm, _⟩ := (G.T.seer him).mods
    let ⟨oY, es, ep, eY, dY, _⟩ := hmm
    law_callT (hKs w.params) eY (fun p hp => (hy p hp).2) (fun z => by rw [z, eY] at hobj; cases hobj; cases dY) KX G.T.g G.T.b G.T.builtins G.T.nolimit hg hT nT hC (fun p hp => (hy p hp).1) G.T.bmain ⟨es, ep, dY⟩ hobj hints (Nat.le_trans hlen hn2) hr hF hb fun H o hS hyy hoo hTT => hsp H a ns o hlen hS hyy hoo hTT
end MB

set_option maxHeartbeats 4000000
namespace MB
open PySem PySem.Spec PyProof.Rows L2
/-! ### a lambda handed to a def, whose handler reads the def's own names: what the call lets out is told at the slots of the call -/
section
variable {X : Cx} {pins : List (Addr × Obj)} {σ : L2.St} {H : Hp} {s : Shared}
theorem pe_actE {CXg : CXT} {Eg : XK} {Ng : List Str} {qg : Str} {sg : Scope} {g f c' : Addr} {cdg pm ctv : Value} {params : Arguments} {body : Expr} {scope : Scope} {k i : Nat} {a : Str} {pn : List (Addr × Obj)} {xe : Value → Shared → Prop} {W : WX} {E : XK} {tb : TE} {p1 p2 : Pos}
    (I : Inv X pins σ H s) (L : LamX.LamS X.env.scope scope) (hf : s.heap.get? f = some (PySem.W.kla_obj "<lambda>" (X.env.qual ++ "<lambda>") params body scope (cloFrom X.env.cells scope.names []) pm c' ctv)) (hfn : H f = none) (hfr : f ∉ frs X.stack)
    (bnd : bindArgs (PySem.W.kla_fn "<lambda>" (X.env.qual ++ "<lambda>") params body scope (cloFrom X.env.cells scope.names []) pm (.ref c') ctv) ⟨[], []⟩ = pure [])
    (tk : Takes ((cxOf CXg X.prog X.w X.K X.mg X.base Ng qg sg g cdg X.A X.stack s H Eg).tr pn xe) W) (hr : Room (k + 1) (X.A.deeper (envOfC qg sg s.heap.objs.size g cdg)))
    (bodyOk : ∀ (A : Around) (outer : List Env) (s : Shared) (H : Hp), Room k (A.deeper (LamX.lamEnv X scope s.heap.objs.size f c')) → PE (LamX.lamCx X A outer s H E scope f c') body tb)
    (hN : Ng[i]? = some a) (vis : Vis sg a) (hd : (a == ("__debug__" : Str)) = false := by decide) (hcd : (a == ("__classdict__" : Str)) = false := by decide) :
    PE ((cxOf CXg X.prog X.w X.K X.mg X.base Ng qg sg g cdg X.A X.stack s H Eg).tr pn xe) (.Call (.Name a p1) [] [] p2)
      (fun σ2 H2 Q => σ2[i]? = some (some (.ref f)) ∧ H2 c' = some (LamX.CodeO c' (X.env.qual ++ "<lambda>")) ∧ (∀ cls d H', E cls d H' → W cls d σ2 H') ∧ tb σ H2 Q) :=
  ⟨fun pins2 s2 σ2 H2 Q J ⟨hs, hc, hW, ht⟩ => wpAny_Call_Name_kw (thn ((pe_var (pos := p1) (i := i) hN vis hd hcd).run pins2 s2 σ2 H2 (fun v G => v = .ref f ∧ G = H2) J ⟨.ref f, hs, rfl, rfl⟩) fun u s1 ⟨v, H1, J1, r1, ev, eH⟩ => by
    subst ev eH
    obtain rfl : u = Value.ref f := r1
    have kf := J1.base.keep f _ hf hfn hfr (fun z => nomatch (show f ∈ ([] : List Addr) from z))
    have un : Un (frs X.stack) [] H H1 s.heap s1.heap := J1.base
    obtain ⟨⟨oc, vs, t, q1, q2, q3⟩, _, _⟩ := J1.hok c' _ hc
    have run : codeAny (model X.prog X.w) (X.A.deeper (envOfC qg sg s.heap.objs.size g cdg)) (.call (.ref f) ⟨[], []⟩) (CR (L2.CX X.prog X.w) (envOfC qg sg s.heap.objs.size g cdg :: X.stack) X.prog X.w H1 s1 Q E) s1 := by
      refine PySem.W.kla_callFunE hr.depth kf rfl L.co L.gen rfl ⟨c', oc, vs, t, rfl, q1, q2, q3⟩ ?_
      rw [bnd]
      refine wpAny_pure (wpAny_newFunctionEnv (fun y hy => (L.own y hy).2) (fun y hy => absurd hy (by simp)) (fun h₁ n1 n2 => ⟨J1.nolimit.fresh _ n2, show codeAny _ _ (.expr body (LamX.lamEnv X scope s1.heap.objs.size f c')) _ _ from ?_⟩) L.kind)
      have st : Inv (LamX.lamCx X (X.A.deeper (envOfC qg sg s.heap.objs.size g cdg)) (envOfC qg sg s.heap.objs.size g cdg :: X.stack) s1 H1 E scope f c') [] σ H1 { s1 with heap := h₁, toks := s1.toks + ([] : List (Str × Value)).length } :=
        LamX.lam_start2 I L J1.env0 hr.hd un n1 fun b o e => n2.extBut b o (Nat.ne_of_lt (Heap.lt_size e)) (Heap.get?_push_of_some _ e)
      exact PySem.W.kla_codeExpr (wpAny_mono ((bodyOk _ _ s1 H1 (hr.deeper _)).run [] _ _ H1 Q st ht) (fun v s' ⟨y, H', J', rv, z⟩ => ⟨y, H', J'.os, J'.bare, J'.base, J'.hok, rv, z⟩) fun e s' z => z)
    refine PySem.W.callWith_F0 ⟨_, _, _, _, kf⟩ (wpAny_call (codeAny_mono run fun r s' z => ?_))
    rcases r with e | fl
    · exact tk e s' (XE.of_call J1 (fun cls d H' h => hW cls d H' h) z)
    · rcases fl with _ | _ | _ | u
      · exact False.elim z
      · exact False.elim z
      · exact False.elim z
      · exact J1.after z)⟩
end
/-- the def that calls what it got, TT: what it makes of the lambda's reading -/
def GivesE (X : Cx) (Ng : List Str) (x : Str) (sg : Scope) (g : Addr) (cdg : Value) (bg : List Stmt) (a : Str) (q : Str) (TT : (XK → Hp → VK → Prop) → Hp → VK → Prop) : Prop :=
  ∀ (f c' : Addr) (s : Shared) (H : Hp) (Q : VK) (tl : XK → Hp → VK → Prop),
    (∀ (W : WX) (pn : List (Addr × Obj)) (xe : Value → Shared → Prop) (E : XK) (p1 p2 : Pos), Takes ((cxOf CX0 X.prog X.w X.K X.mg X.base Ng x sg g cdg X.A X.stack s H E0).tr pn xe) W →
      PE ((cxOf CX0 X.prog X.w X.K X.mg X.base Ng x sg g cdg X.A X.stack s H E0).tr pn xe) (.Call (.Name a p1) [] [] p2) (fun σ2 H2 Q => σ2[0]? = some (some (.ref f)) ∧ H2 c' = some (LamX.CodeO c' q) ∧ (∀ cls d H', E cls d H' → W cls d σ2 H') ∧ tl E H2 Q)) →
    H c' = some (LamX.CodeO c' q) → TT tl H Q →
    ∃ t, PSs (cxOf CX0 X.prog X.w X.K X.mg X.base Ng x sg g cdg X.A X.stack s H E0).nox bg t ∧ t { nx := fun _ H' => Q .non H', rt := Q } (L2.start Ng [.ref f]) H
section
variable {X : Cx}
/-- x(lambda: body) -/
theorem pe_lamE {T : List (Addr × Str)} {TT : (XK → Hp → VK → Prop) → Hp → VK → Prop} {x a : Str} {g c P : Addr} {k : Nat} {pg : Arguments} {bg : List Stmt} {sg : Scope} {dV kV doc pm cdv ct oc : Value} {an od : Option Addr} {osl : Array (Option Value)} {Ng : List Str}
    {params : Arguments} {body : Expr} {scope : Scope} {t : XK → TE} {p lpos pos : Pos} (hg : Gl X x) (hm : X.mg x = some (.ref g)) (hk : PySem.W.keepIn X.K (.ref g) = true)
    (lk : X.K.lookup g = some ⟨oc, od, .func (PySem.W.fnOf x x pg bg sg dV kV doc pm an cdv ct), osl⟩) (hcg : PySem.W.codeIn X.K cdv x = true) (hb : L2.Binds X.K (PySem.W.fnOf x x pg bg sg dV kV doc pm an cdv ct) [a] []) (Sg : FnScope Ng [a] sg) (hNg : Ng[0]? = some a) (hva : Vis sg a)
    (hG : GivesE X Ng x sg g cdv bg a (X.env.qual ++ "<lambda>") TT)
    (TB : LamX.TabB X.base X.mg c P) (hcode : X.env.code = .ref c) (hmT : (P, X.env.qual ++ "<lambda>") ∈ T) (hu : ∀ p ∈ T, p.1 = P → p.2 = X.env.qual ++ "<lambda>") (hr : Room (k + 2) X.A) (L : LamX.LamS X.env.scope scope) (hdef : defaultsOf params X.env = ([], []))
    (hbind : ∀ (q : Str) (cl : List (Str × Addr)) (pm cv ctv : Value), bindArgs (PySem.W.kla_fn "<lambda>" q params body scope cl pm cv ctv) ⟨[], []⟩ = pure [])
    (hbody : ∀ (A : Around) (outer : List Env) (s : Shared) (H : Hp) (E : XK) (f c' : Addr), Room k (A.deeper (LamX.lamEnv X scope s.heap.objs.size f c')) → PE (LamX.lamCx X A outer s H E scope f c') body (t E))
    (hdb : (x == ("__debug__" : Str)) = false := by decide) (hd : (a == ("__debug__" : Str)) = false := by decide) (hcd : (a == ("__classdict__" : Str)) = false := by decide) :
    PE X (.Call (.Name x p) [.Lambda params body scope lpos] [] pos) (LamX.tLam T TT t) :=
  ⟨fun pins s σ H Q I ⟨hT, h⟩ => wpAny_Call_Name_kw (ld_glob I hg hm (PySem.W.callWith_K (h₀ := X.base) I.ok.mod.kin hk
      (show wpAny _ _ (spliced ((false, eval (.Lambda params body scope lpos) X.env) :: backTo pos (starEach [] X.env))) _ _ s from Calls.spliced_cons (LamX.lam_make2 I TB hcode hmT hu hT hdef (L.has I.ok) fun f c' pm' ctv H1 s1 J eN T1 hf hfn hfr hco => Calls.spliced_nil ⟨J.kIn, by
        have run : codeAny (model X.prog X.w) X.A (.call (.ref g) ⟨[.ref f], []⟩) (CR CX0 X.stack X.prog X.w H1 s1 Q E0) s1 := by
          refine LamX.run_ofS (N := Ng) (ps := [a]) (us := [.ref f]) (vs := [.ref f]) lk hcg Sg hr J.env0 (hb s1 [.ref f] J.kIn rfl) (.cons rfl .nil) rfl fun hr' => ?_
          obtain ⟨t', g1, g2⟩ := hG f c' s1 H1 Q (fun E H' Q' => t E σ H' Q') (fun W pn xe E p1 p2 tk => pe_actE (i := 0) J L hf hfn hfr (hbind _ _ _ _ _) tk hr' (fun A outer s H hr2 => hbody A outer s H E f c' hr2) hNg hva hd hcd) hco (h H1 eN T1)
          exact ⟨t', g1.nox, g2⟩
        refine wpAny_call (codeAny_mono run fun r s2 z => ?_)
        rcases r with e | fl
        · exact (show False from z).elim
        · rcases fl with _ | _ | _ | u
          · exact False.elim z
          · exact False.elim z
          · exact False.elim z
          · exact J.after z⟩)) (by rfl) (by rfl)) hdb)⟩
end
end MB

set_option maxHeartbeats 4000000
namespace MB
open PySem PySem.Spec PyProof.Rows L2
/-! ### a caught exception without a dict -/
/-- an own exception at a, of any way: one without a dict may be caught and kept -/
def KAt (H : Hp) (a C : Addr) (o : Option (List (Str × V))) : Prop := XAt H a C o ∨ (o = none ∧ H a = some (KeO a (.ref C) none))
theorem KAt.same {H H' : Hp} {a C : Addr} {o : Option (List (Str × V))} (e : Same H H') (h : KAt H a C o) : KAt H' a C o := by
  rcases h with h | ⟨h1, h2⟩
  · exact .inl (h.same e)
  · exact .inr ⟨h1, e _ _ h2⟩
/-- isinstance(x, c) -/
def rIsK (K : PySem.W.Frag) : List V → Hp → VK → Prop := fun xs H Q => ∃ (a C : Addr) (o : Option (List (Str × V))) (c : V) (u : Value) (b : Bool), xs = [.ref a, c] ∧ ClsV c u ∧ KAt H a C o ∧ ExcC K C ∧ PySem.W.kitOne K (.ref C) u = some b ∧ Q (.bl b) H
theorem call_isK {X : Cx} {K : PySem.W.Frag} (hK : X.K = K) : CallR X (.builtin "isinstance") (rIsK K) := by
  subst hK
  intro pins s σ H xs us Q I r h
  obtain ⟨a, C, o, c, u, b, rfl, k, hx, T, e, q⟩ := h
  rcases hx with hx | ⟨rfl, ea⟩
  · exact call_isX pins s σ H _ us Q I r ⟨a, C, o, c, u, b, rfl, k, hx, T, e, q⟩
  · obtain ⟨u1, u2, rfl, r1, r2⟩ := vals2 r
    have e2 := k.eq r2
    subst e2
    cases r1
    have hcl : (PySem.W.clsIn X.K C).isSome = true := by
      obtain ⟨cd, hc, _⟩ := PySem.W.any_some T.hd
      rw [hc]; rfl
    have fin : ∀ tk, EP X pins σ Q (.bool b) { s with toks := tk } := fun tk => ⟨.bl b, H, I.tok tk, rfl, q⟩
    obtain ⟨oe, vs, ho, hc1, hdc, hfd⟩ := keO_at I.hok ea
    have J : PySem.W.InstAt s.heap a oe C none := by
      obtain ⟨oc, odc, oda, osl⟩ := oe
      dsimp only at hc1 hdc hfd
      subst hc1 hdc hfd
      exact ⟨ho, rfl, rfl, trivial⟩
    exact PySem.W.kia_one (PySem.W.kitx_exc hcl T.hg T.hk T.hs T.ha T.hn T.ht T.hm) I.kIn J e (fun z => nomatch z) fin
end MB

set_option maxHeartbeats 4000000
/-! ### x not in a tuple of 1-tuples of texts, for x of at most one item of any kind -/
namespace MB
open PySem PySem.Spec PyProof.Rows L2 PySem.SeqAt
section
open PySem.Builtin
theorem dict_eq_declines_str (l : Addr) (dt : Data) (dd : Option Addr) (sl : Array (Option Value)) (b : Str) (u : Tok) :
    Meets (Builtin.«dict.__eq__» ⟨[.ref l, .str b u], []⟩) (fun _ R s => (s.heap.get? l = some { cls := .type "dict", dict := dd, data := dt, slots := sl } ∧ ∃ es k, dt = .dict es k) ∧ R (.ok (.ret .notImplemented)) s) :=
  .of_wp fun prog w A R s h => by obtain ⟨hp, g, d, tk, os⟩ := s; obtain ⟨⟨hl, es, k, rfl⟩, h⟩ := h; have f1 := F.sub_str_dict; wp_walk using wpAny_loadPart' hl, wpAny_load hl; exact ⟨_, rfl, h⟩
theorem str_eq_declines_dict (b : Str) (u : Tok) (l : Addr) (dt : Data) (dd : Option Addr) (sl : Array (Option Value)) :
    Meets (Builtin.«str.__eq__» ⟨[.str b u, .ref l], []⟩) (fun _ R s => (s.heap.get? l = some { cls := .type "dict", dict := dd, data := dt, slots := sl } ∧ ∃ es k, dt = .dict es k) ∧ R (.ok (.ret .notImplemented)) s) :=
  .of_wp fun prog w A R s h => by obtain ⟨hp, g, d, tk, os⟩ := s; obtain ⟨⟨hl, es, k, rfl⟩, h⟩ := h; wp_walk using wpAny_loadPart' hl, wpAny_load hl; exact ⟨_, rfl, h⟩
theorem eqAt_str_dict {A : Around} {s : Shared} {l : Addr} {dt : Data} {dd : Option Addr} {sl : Array (Option Value)} {es : _} {k : _} (b : Str) (u : Tok) (ho : s.heap.get? l = some { cls := .type "dict", dict := dd, data := dt, slots := sl }) (hd : dt = .dict es k) (hu : A.units < cLine) : EqAt A s (.str b u) (.ref l) false := fun prog w E Q h => by
  have rc : RcAt A s (.str b u) (.ref l) false := fun prog w E Q h =>
    rc_eq_decline_or (k := false) (typeIs_str s b u) ⟨_, ho, rfl⟩ (by decide) F.sub_dict_str F.slot_str_eq F.slot_dict_eq_refl
      (fun _ hq => call_meets F.slot_str_eq (typeIs_str s b u) F.entry_str_eq (F.args_str_eq_2 _ _) (str_eq_declines_dict b u l dt dd sl) ⟨⟨ho, _, _, hd⟩, hq⟩)
      (fun _ hq => call_meets F.slot_dict_eq_refl ⟨_, ho, rfl⟩ F.entry_dict_eq (F.args_dict_eq_2 _ _) (dict_eq_declines_str l dt dd sl b u) ⟨⟨ho, _, _, hd⟩, hq⟩)
      (fun _ hq => wpAny_of_eq (rfl : isSame (.str b u) (.ref l) = pure false) hq) (.inr hu) h
  unfold eqBool
  refine wpAny_holding ?_
  refine wpAny_ite_split (fun hab => absurd (eq_of_beq hab) nofun) (fun _ => ?_)
  exact wpAny_bind (rc prog w E _ (wpAny_truthy_bool h))
end
def strIs (z : Str) : PyData → Bool
  | .str y => z == y
  | _ => false
def oneIs (ds : List PyData) (z : Str) : Bool := match ds with
  | [d] => strIs z d
  | _ => false
/-- a text compared with a value of any kind -/
theorem eqAt_str_any {A : Around} {s : Shared} {v : Value} {d : PyData} {as : List Addr} (z : Str) (u : Tok) (r : Reads s.heap v d as) (hu : A.units < cLine) : EqAt A s (.str z u) v (strIs z d) := by
  cases r with
  | none => exact EqAt.str_none z u
  | bool b => exact EqAt.str_bool z u b
  | int i t => exact EqAt.str_int z u i t
  | str y t => exact EqAt.str_str z u y t
  | @list a o vs n xs as h1 h2 h3 h4 =>
    exact EqAt.str_list z u ⟨o, h1, h2, n, h3⟩ hu
  | @tuple a o vs n xs as h1 h2 h3 h4 =>
    exact EqAt.str_tuple z u ⟨o, h1, h2, n, h3⟩ hu
  | @dict a o es n kvs as bs h1 h2 h3 h4 h5 =>
    obtain ⟨cls, dd, data, sl⟩ := o
    simp only at h2 h3
    subst h2
    exact eqAt_str_dict z u h1 h3 hu
theorem valsMem {xs : List V} {us : List Value} (h : Vals xs us) {y : Value} (hy : y ∈ us) : ∃ v ∈ xs, RelV v y := by
  induction h with
  | nil => cases hy
  | cons r t ih =>
    rcases List.mem_cons.mp hy with rfl | hy
    · exact ⟨_, List.mem_cons_self .., r⟩
    · obtain ⟨v, h1, h2⟩ := ih hy
      exact ⟨v, List.mem_cons_of_mem _ h1, h2⟩
/-- x, a tuple of at most one item, not in a tuple of 1-tuples of texts -/
def rNotIn1 (K : PySem.W.Frag) : R2 := fun x y H Q => ∃ (a b : Addr) (xs : List V) (ds : List PyData) (ps : List Addr) (f : Addr → Str), x = .ref a ∧ y = .ref b ∧ SqT K H a xs ∧ DqAll K H xs ds ∧ xs.length ≤ 1 ∧ SqT K H b (ps.map V.ref) ∧ (∀ p ∈ ps, SqT K H p [.str (f p)]) ∧ Q (.bl (!(ps.any fun p => oneIs ds (f p)))) H
theorem op_notIn1 {X : Cx} {K : PySem.W.Frag} (hK : X.K = K) (hu : X.A.units + 64 < cLine) : OpR X (compareOp .NotIn) (rNotIn1 K) := by
  subst hK
  intro pins s σ H x y v u Q I rx ry h
  obtain ⟨a, b, xs, ds, ps, f, rfl, rfl, ha, hds, hl, hb, hps, q⟩ := h
  cases rx; cases ry
  obtain ⟨its, ra, ta, hz⟩ := I.tuple ha
  clear hz
  obtain ⟨jts, rb, tb, hz⟩ := I.tuple hb
  clear hz
  have hlen := ra.length
  have hj : ∀ y, y ∈ jts → ∃ p ∈ ps, y = .ref p := by
    intro y hy
    obtain ⟨v, hv, r⟩ := valsMem rb hy
    obtain ⟨p, hp, rfl⟩ := List.mem_map.mp hv
    cases r
    exact ⟨p, hp, rfl⟩
  have e : ∀ p, p ∈ ps → EqAt X.A.in1 s (.ref p) (.ref a) (oneIs ds (f p)) := fun p hp => by
    have hp1 := hps p hp
    obtain ⟨kts, rp, tp, _⟩ := I.tuple hp1
    by_cases hne : p = a
    · subst hne
      have ei : kts = its := by
        obtain ⟨o1, a1, a2, n1, a3⟩ := tp
        obtain ⟨o2, b1, b2, n2, b3⟩ := ta
        rw [a1] at b1
        cases b1
        rw [a3] at b3
        have := (Data.seq.inj b3).1
        simpa using this
      subst ei
      cases rp with
      | cons r t =>
        cases t
        obtain ⟨tk, rfl⟩ := r
        cases ra with
        | @cons v _ _ _ rw t =>
          cases t
          cases hds with
          | cons hd hds =>
            cases hds
            have hv : v = .str (f p) := by
              cases v with
              | str y => obtain ⟨t2, e⟩ := rw; cases e; rfl
              | int i => obtain ⟨t2, e⟩ := rw; cases e
              | byt i => cases hd
              | flt i => cases hd
              | _ => cases rw
            subst hv
            cases hd
            have : oneIs [.str (f p)] (f p) = true := by simp [oneIs, strIs]
            rw [this]
            exact EqAt.same _
    have hkl := rp.length
    refine EqAt.of_refs hne ?_
    have hu1 : X.A.in1.units < cLine := by show X.A.units + 1 < cLine; omega
    have hu2 : X.A.in1.in1.units < cLine := by show X.A.units + 1 + 1 < cLine; omega
    cases hds with
    | nil =>
      cases ra
      have := RcAt.tuples (A := X.A.in1) (s := s) (items := kts.toArray) (items2 := #[]) (e := fun _ => true) tp ta hu1 (fun j h1 h2 => absurd h2 (by simp))
      cases rp with
      | cons r t => cases t; exact this
    | @cons v vs d ds hd hds =>
      have : vs = [] := by simp at hl; exact hl
      subst this
      cases hds
      cases ra with
      | @cons _ w _ _ rw t =>
        cases t
        obtain ⟨as, rd, _⟩ := Dq.reads I hd w rw
        cases rp with
        | cons r t =>
          cases t
          obtain ⟨tk, rfl⟩ := r
          have e0 := eqAt_str_any (A := X.A.in1.in1) (s := s) (f p) tk rd hu2
          have := RcAt.tuples (A := X.A.in1) (s := s) (items := #[Value.str (f p) tk]) (items2 := #[w]) (e := fun _ => strIs (f p) d) tp ta hu1 (fun j h1 h2 => by
              have hj : j = 0 := by simp at h1; exact h1
              subst hj
              exact e0)
          have h2 : ((List.range (min (#[Value.str (f p) tk] : Array Value).size (#[w] : Array Value).size)).all (fun _ => strIs (f p) d) && (#[Value.str (f p) tk] : Array Value).size == (#[w] : Array Value).size) = oneIs [d] (f p) := by simp [oneIs, List.range_succ]
          rw [← h2]
          exact this
  have key : ∀ y, y ∈ jts.toArray → EqAt X.A.in1 s y (.ref a) (match y with
      | .ref p => oneIs ds (f p)
      | _ => false) := fun y hy => by
    obtain ⟨p, hp, rfl⟩ := hj y (by simpa using hy)
    exact e p hp
  refine SeqAt.notIn_tupleAt _ tb key ⟨.bl _, H, I, rfl, ?_⟩
  have hany : (jts.toArray.any fun y => match y with
      | .ref p => oneIs ds (f p)
      | _ => false) = ps.any fun p => oneIs ds (f p) := by
    rw [← Array.any_toList]
    clear hb tb hj key hps e q
    generalize hm : ps.map V.ref = ms at rb
    induction rb generalizing ps with
    | nil => cases ps with
      | nil => rfl
      | cons p ps => cases hm
    | cons r t ih => cases ps with
      | nil => cases hm
      | cons p ps =>
        simp only [List.map_cons, List.cons.injEq] at hm
        obtain ⟨rfl, hm⟩ := hm
        cases r
        have := ih ps hm
        simp only [List.any_cons] at this ⊢
        rw [this]
  rw [hany]
  exact q
end MB

set_option maxHeartbeats 4000000
namespace MB
open PySem PySem.Spec PyProof.Rows L2
/-- tuple(range(i, j, k)) -/
def tTupR3 (ta : TA) : TE := fun σ H Q => ta σ H fun vs H1 => ∃ (i j k : Int) (n : Nat), vs = [.int i, .int j, .int k] ∧ RgC i j k n ∧ n ≤ 2 ^ 24 ∧ ∀ q, H1 q = none → Q (.ref q) (upd H1 q (.tup ((List.range n).map fun (m : Nat) => V.int (i + (m : Int) * k))))
theorem pe_tupR3 {X : Cx} {a b c : Expr} {ta : TA} {p p' pos pos' : Pos} (hc : X.calm = true) (hg : Gl X "tuple") (hm : X.mg "tuple" = none) (hg' : Gl X "range") (hm' : X.mg "range" = none) (ha : PA X [a, b, c] ta)
    (hs : starEach [a, b, c] X.env = (false, eval a X.env) :: starEach [b, c] X.env := by rfl) (hpl : (backTo pos' (starEach [b, c] X.env)).any (·.1) = false := by rfl)
    (na : starEach [.Call (.Name "range" p') [a, b, c] [] pos'] X.env = (false, eval (.Call (.Name "range" p') [a, b, c] [] pos') X.env) :: starEach [] X.env := by rfl) :
    PE X (.Call (.Name "tuple" p) [.Call (.Name "range" p') [a, b, c] [] pos'] [] pos) (tTupR3 ta) := by
  refine ⟨fun pins s σ H Q I h => ?_⟩
  refine Call_ (ld_blt I hg hm boot_tuple (PyProof.Rows.callWith_type1 (args_cons (Call_ (ld_blt I hg' hm' boot_range (PyProof.Rows.callWith_type1 (thn (ha.run pos' pins s σ H _ I h) fun us s1 ⟨vs, H1, I1, r1, q1⟩ => ?_) hs hpl))) na) na))
  obtain ⟨i, j, k, n, rfl, ⟨c0, c1, c2, c3⟩, hn, q⟩ := q1
  obtain ⟨u1, u2, u3, rfl, ⟨t1, rfl⟩, ⟨t2, rfl⟩, ⟨t3, rfl⟩⟩ : ∃ u1 u2 u3, us = [u1, u2, u3] ∧ RelV (.int i) u1 ∧ RelV (.int j) u2 ∧ RelV (.int k) u3 := by
    cases r1 with
    | cons x1 y1 => cases y1 with
      | cons x2 y2 => cases y2 with
        | cons x3 y3 => cases y3; exact ⟨_, _, _, rfl, x1, x2, x3⟩
  refine call_range_3 c0 (args_nil ?_) (.inl (PyProof.noPylong_small c1))
  have I2 : Inv X pins σ H1 { s1 with heap := s1.heap.push { cls := .type "range", data := .fields #[.int i t1, .int j t2, .int k t3] } } := I1.kept (t' := s1.toks) fun b o e => Heap.get?_push_of_some _ e
  refine call_tuple_range (n := n) (I2.ok.hd hc) (IsRange.new ..) c2 c3 hn fun h' tk acc hk hi => ?_
  have I3 : Inv X pins σ H1 { s1 with heap := h', toks := tk } := I2.kept hk
  have hv : Vals ((List.range n).map fun (m : Nat) => V.int (i + (m : Int) * k)) acc.toList := by
    have e : acc.toList.length = n := by rw [Array.length_toList]; exact hi.1
    rw [← e]
    refine vals_of_get acc.toList _ fun m u hj => ?_
    obtain ⟨t, rfl⟩ := hi.2 m u (by rw [← hj, Array.getElem?_toList])
    exact ⟨t, rfl⟩
  refine ⟨.ref h'.objs.size, _, I3.laid (o := .tup ((List.range n).map fun (m : Nat) => V.int (i + (m : Int) * k))) (t' := tk) (fun c o e => Heap.get?_push_of_some _ e) (Nat.le_refl _) ⟨?_, acc.toList, hv, ?_⟩, rfl, q _ (I3.hok.fresh (Nat.le_refl _))⟩
  · rw [List.length_map, List.length_range, sizeLine_eq]; omega
  · rw [Array.toArray_toList]; exact IsTup.new _ _
end MB

set_option maxHeartbeats 4000000
namespace MB
open PySem PySem.Spec PyProof.Rows L2
theorem blT {c : Prop} [Decidable c] (h : c) : V.bl (decide c) = V.bl true := by rw [decide_eq_true h]
theorem blF {c : Prop} [Decidable c] (h : ¬ c) : V.bl (decide c) = V.bl false := by rw [decide_eq_false h]
theorem nblF {c : Prop} [Decidable c] (h : c) : V.bl (!decide c) = V.bl false := by rw [decide_eq_true h]; rfl
theorem nblT {c : Prop} [Decidable c] (h : ¬ c) : V.bl (!decide c) = V.bl true := by rw [decide_eq_false h]; rfl
theorem int_ne {i j : Int} (h : i ≠ j) : ¬ V.int i = V.int j := fun e => h (by injection e)
theorem dp_bls_inv {K : PySem.W.Frag} {H : Hp} : ∀ {ns : List Bool} {vs : List V}, DpAll K H vs (ns.map PyData.bool) → vs = ns.map V.bl
  | [], _, .nil => rfl
  | n :: ns, _, .cons a b => by
    cases a
    rw [dp_bls_inv b]
    rfl
/-- a comprehension whose items are truth values -/
theorem lc_bools {K : PySem.W.Frag} {J : It} {n : Nat} {G : Hp → Prop} {Y : Nat → Hp → V → Hp → Prop} (w : Walk J n G Y) {g : TG} {tt : TT} {te : TE} {vs : List Nat} {σ : L2.St} {H1 : Hp} {D : Addr} {Qd : Hp → Prop}
    (bs : List Bool) (hl : bs.length = n) (hn : n ≤ 1000) (hD : H1 D = none) (hG : ∀ H, Same H1 H → G H)
    (hs : ∀ i x H H', i < n → Same H1 H → Y i H x H' → ∀ b, bs[i]? = some b → ∀ R : V → Hp → Prop, (∀ H4, Same H H4 → R (.bl b) H4) →
      g x (wipe σ vs) H' fun σ2 H2 => wipe σ2 vs = wipe σ vs ∧ tt σ2 H2 fun b H3 => b = true ∧ te σ2 H3 R)
    (hd : ∀ H, Same H1 H → H D = some (.lst (bs.map V.bl)) → Qd H)
    (mg : ∀ x σ' H' (Q Q' : L2.St → Hp → Prop), (∀ a b, Q a b → Q' a b) → g x σ' H' Q → g x σ' H' Q') (mt : ∀ σ' H' (Q Q' : Bool → Hp → Prop), (∀ a b, Q a b → Q' a b) → tt σ' H' Q → tt σ' H' Q') :
    ∃ W : Nat → Nat → Hp → Prop, (∃ m, W 0 m (upd H1 D (.lst []))) ∧ ∀ i m H, W i m H →
      (J.stop i H ∧ Qd H) ∨ (J.go i H ∧ ∃ Nx : Hp → Prop, (∀ H', Nx H' → ∃ m', m' < m ∧ W (i + 1) m' H') ∧ ∀ x H', J.yld i H x H' → g x (wipe σ vs) H' fun σ2 H2 => wipe σ2 vs = wipe σ vs ∧ tt σ2 H2 fun b H3 =>
        if b = true then te σ2 H3 fun y H4 => ∃ acc, H4 D = some (.lst acc) ∧ acc.length < sizeLine ∧ Nx (upd H4 D (.lst (acc ++ [y]))) else Nx H3) := by
  refine lc_all (K := K) w (bs.map PyData.bool) (by rw [List.length_map, hl]) (fun d h => ?_) hn hD hG ?_ ?_ mg mt
  · obtain ⟨b, _, rfl⟩ := List.mem_map.mp h
    exact .bl b
  · intro i x H H' hi s y d hd' R hR
    rw [List.getElem?_map] at hd'
    cases e : bs[i]? with
    | none => rw [e] at hd'; cases hd'
    | some b =>
      rw [e] at hd'
      cases hd'
      exact hs i x H H' hi s y b e R fun H4 s4 => hR _ _ s4 (.bl b)
  · intro H acc s ha hA
    rw [dp_bls_inv hA] at ha
    exact hd H s ha
/-- a comprehension whose items are numbers -/
theorem lc_ints {K : PySem.W.Frag} {J : It} {n : Nat} {G : Hp → Prop} {Y : Nat → Hp → V → Hp → Prop} (w : Walk J n G Y) {g : TG} {tt : TT} {te : TE} {vs : List Nat} {σ : L2.St} {H1 : Hp} {D : Addr} {Qd : Hp → Prop}
    (bs : List Int) (hl : bs.length = n) (hn : n ≤ 1000) (hD : H1 D = none) (hG : ∀ H, Same H1 H → G H)
    (hs : ∀ i x H H', i < n → Same H1 H → Y i H x H' → ∀ b, bs[i]? = some b → ∀ R : V → Hp → Prop, (∀ H4, Same H H4 → R (.int b) H4) →
      g x (wipe σ vs) H' fun σ2 H2 => wipe σ2 vs = wipe σ vs ∧ tt σ2 H2 fun b H3 => b = true ∧ te σ2 H3 R)
    (hd : ∀ H, Same H1 H → H D = some (.lst (bs.map V.int)) → Qd H)
    (mg : ∀ x σ' H' (Q Q' : L2.St → Hp → Prop), (∀ a b, Q a b → Q' a b) → g x σ' H' Q → g x σ' H' Q') (mt : ∀ σ' H' (Q Q' : Bool → Hp → Prop), (∀ a b, Q a b → Q' a b) → tt σ' H' Q → tt σ' H' Q') :
    ∃ W : Nat → Nat → Hp → Prop, (∃ m, W 0 m (upd H1 D (.lst []))) ∧ ∀ i m H, W i m H →
      (J.stop i H ∧ Qd H) ∨ (J.go i H ∧ ∃ Nx : Hp → Prop, (∀ H', Nx H' → ∃ m', m' < m ∧ W (i + 1) m' H') ∧ ∀ x H', J.yld i H x H' → g x (wipe σ vs) H' fun σ2 H2 => wipe σ2 vs = wipe σ vs ∧ tt σ2 H2 fun b H3 =>
        if b = true then te σ2 H3 fun y H4 => ∃ acc, H4 D = some (.lst acc) ∧ acc.length < sizeLine ∧ Nx (upd H4 D (.lst (acc ++ [y]))) else Nx H3) := by
  refine lc_all (K := K) w (bs.map PyData.int) (by rw [List.length_map, hl]) (tf_ints _) hn hD hG ?_ ?_ mg mt
  · intro i x H H' hi s y d hd' R hR
    rw [List.getElem?_map] at hd'
    cases e : bs[i]? with
    | none => rw [e] at hd'; cases hd'
    | some b =>
      rw [e] at hd'
      cases hd'
      exact hs i x H H' hi s y b e R fun H4 s4 => hR _ _ s4 (.int b)
  · intro H acc s ha hA
    rw [dp_ints_inv hA] at ha
    exact hd H s ha
theorem k_pgTN {X : Cx} {K : PySem.W.Frag} {x y z : Str} {px py pz p1 : Pos} {k k1 : Nat} {pos : Pos} {t1 t2 : TG} (hK : X.K = K) (hc : X.calm = true) (h1 : PG X (.Tuple [.Name x px, .Name y py] k1 p1) t1) (h2 : PG X (.Name z pz) t2) : PG X (.Tuple [.Tuple [.Name x px, .Name y py] k1 p1, .Name z pz] k pos) (gTup K 2 (gCons t1 (gCons t2 gNil))) := by
  subst hK
  exact pg_tup hc (pgs_cons h1 (pgs_cons h2 pgs_nil))
theorem mono_pair2 {K : PySem.W.Frag} {n n' i j l : Nat} (x : V) (σ' : L2.St) (H' : Hp) (Q Q' : L2.St → Hp → Prop) (h : ∀ a b, Q a b → Q' a b) (e : gTup K n (gCons (gTup K n' (gCons (gName i) (gCons (gName j) gNil))) (gCons (gName l) gNil)) x σ' H' Q) : gTup K n (gCons (gTup K n' (gCons (gName i) (gCons (gName j) gNil))) (gCons (gName l) gNil)) x σ' H' Q' := by
  obtain ⟨a, xs, e1, e2, e3, v, r, e4, b, ys, f1, f2, f3, v1, r1, f4, v2, r2, f5, f6, v', r', e5, e6, q⟩ := e
  exact ⟨a, xs, e1, e2, e3, v, r, e4, b, ys, f1, f2, f3, v1, r1, f4, v2, r2, f5, f6, v', r', e5, e6, h _ _ q⟩
theorem ci_sum : ∀ p : List Nat, (ci p).sum = ((p.sum : Nat) : Int)
  | [] => rfl
  | x :: p => by
    have := ci_sum p
    simp only [ci, List.map_cons, List.sum_cons, Int.natCast_add] at this ⊢
    rw [this]
theorem cutV_to {p : List Nat} {m : Nat} (h : m ≤ p.length) : cutV (vi p) none (some (m : Int)) = vi (p.take m) := by
  rw [cut_to (by rw [vi_len]; exact h)]; simp [vi, List.map_take]
theorem cutV_from {p : List Nat} {m : Nat} (h : m ≤ p.length) : cutV (vi p) (some (m : Int)) none = vi (p.drop m) := by
  rw [cut_from (by rw [vi_len]; exact h)]; simp [vi, List.map_drop]
theorem cut_drop {p : List Nat} {m : Nat} (h : m ≤ p.length) : cutV (vi p) (some (m : Int)) none = (ci (p.drop m)).map V.int := by
  rw [cutV_from h, vi_ci]
theorem isi_int {K : PySem.W.Frag} {H : Hp} {i : Int} {Q : VK} (q : Q (.bl true) H) : rIsi K [.int i, .ty "int"] H Q :=
  ⟨.int i, .ty "int", .type "int", .type "int", true, rfl, .ty _, .base (.int i), kit_ty (by decide +kernel), q⟩
theorem isi_bool {K : PySem.W.Frag} {H : Hp} {i : Int} {Q : VK} (q : Q (.bl false) H) : rIsi K [.int i, .ty "bool"] H Q :=
  ⟨.int i, .ty "bool", .type "int", .type "bool", false, rfl, .ty _, .base (.int i), kit_ty (by decide +kernel), q⟩
theorem nth3 {n : Nat} (x : List V) (h : x.length = n) (i : Nat) (hi : i < (if (if (x.length : Int) < 3 then (x.length : Int) else 3) > 1 then (if (x.length : Int) < 3 then (x.length : Int) else 3) else 1 : Int).toNat) : i ≤ 62 := by
  have : (if (if (x.length : Int) < 3 then (x.length : Int) else 3) > 1 then (if (x.length : Int) < 3 then (x.length : Int) else 3) else 1) ≤ 3 := by split <;> split <;> omega
  omega
end MB

set_option maxHeartbeats 4000000
namespace MB
open PySem PySem.Spec PyProof.Rows L2
theorem alike_ints (ns : List Int) : PySem.W.AlikeAll (ns.map PyData.int) := by
  refine ⟨fun x hx y hy => ?_, fun x hx e => ?_⟩
  · obtain ⟨i, _, rfl⟩ := List.mem_map.mp hx
    obtain ⟨j, _, rfl⟩ := List.mem_map.mp hy
    simp [PySem.W.alike]
  · obtain ⟨i, _, rfl⟩ := List.mem_map.mp hx
    cases e
theorem depth_ints : ∀ ns : List Int, PyData.depthAll (ns.map PyData.int) = 0
  | [] => by simp [PyData.depthAll]
  | n :: ns => by simp [PyData.depthAll, PyData.depth, depth_ints ns]
/-! ### max of a tuple of ints; with default= -/
def rMaxT (K : PySem.W.Frag) : List V → Hp → VK → Prop := fun xs H Q => ∃ (a : Addr) (n : Int) (ns : List Int), xs = [V.ref a] ∧ SqT K H a ((n :: ns).map V.int) ∧ Q (.int (ns.foldl max n)) H
theorem cr_maxT {X : Cx} {K : PySem.W.Frag} (hK : X.K = K) (hc : X.calm = true) (hu : X.A.units + 64 < cLine) : CallR X (.builtin "max") (rMaxT K) := by
  subst hK
  intro pins s σ H vs us Q I r h
  obtain ⟨a, n, ns, rfl, hs, q⟩ := h
  obtain ⟨its, rv, hl, _⟩ := I.tuple hs
  rw [Vals.ref1 r]
  obtain ⟨as, rd⟩ := Dp.readsAll I ((n :: ns).map PyData.int) _ its (dp_ints (n :: ns)) rv
  refine PySem.W.max_tuple_data (x := .int n) (xs := ns.map PyData.int) (I.ok.hd hc) hl (by simpa using rd) (alike_ints (n :: ns)) ?_ fun i v h' tk bs _ hr hk => ?_
  · have := depth_ints (n :: ns)
    rw [List.map_cons] at this
    rw [this]; omega
  · rw [PySem.W.maxD_ints] at hr
    cases hr
    exact ⟨.int _, H, I.kept hk, ⟨_, rfl⟩, q⟩
def rMaxDef (K : PySem.W.Frag) : List V → List V → Hp → VK → Prop := fun xs zs H Q => ∃ (a : Addr) (z : Int) (ns : List Int), xs = [V.ref a] ∧ zs = [V.int z] ∧ SqT K H a (ns.map V.int) ∧ (ns = [] → Q (.int z) H) ∧ ∀ m r, ns = m :: r → Q (.int (r.foldl max m)) H
theorem cr_maxDef {X : Cx} {K : PySem.W.Frag} (hK : X.K = K) (hc : X.calm = true) (hu : X.A.units + 64 < cLine) : CallRK X (.builtin "max") [Str.ofString "default"] (rMaxDef K) := by
  subst hK
  intro pins s σ H vs zs us ws Q I r rz h
  obtain ⟨a, z, ns, rfl, rfl, hs, q0, q1⟩ := h
  obtain ⟨its, rv, hl, _⟩ := I.tuple hs
  rw [Vals.ref1 r]
  obtain ⟨u, rfl, tz, rfl⟩ := vals1 rz
  obtain ⟨as, rd⟩ := Dp.readsAll I (ns.map PyData.int) _ its (dp_ints ns) rv
  refine PySem.W.max_tuple_default (xs := ns.map PyData.int) (I.ok.hd hc) hl (by simpa using rd) (alike_ints ns) ?_ (fun e h' tk hk => ?_) fun y ys i v h' tk bs e _ hr hk => ?_
  · rw [depth_ints ns]; omega
  · exact ⟨.int z, H, I.kept hk, ⟨_, rfl⟩, q0 (List.map_eq_nil_iff.mp e)⟩
  · cases ns with
    | nil => cases e
    | cons m t =>
      rw [List.map_cons] at e
      cases e
      rw [PySem.W.maxD_ints] at hr
      cases hr
      exact ⟨.int _, H, I.kept hk, ⟨_, rfl⟩, q1 m t rfl⟩
/-! ### sorted of a tuple of ints -/
section
variable {prog : Program} {w : World} {A : Around} {E : Value → Shared → Prop} {s : Shared}
theorem gather_tuple {p : Addr} {xs : List Value} {R : List Value → Shared → Prop} (ht : s.heap.IsTuple p xs.toArray) (hz : xs.length ≤ sizeLine)
    (q : R xs { s with heap := (s.heap.push (seqObj "list" #[] 0)).update s.heap.objs.size (Obj.mapSeq (· ++ xs.toArray)) }) : wpAny (model prog w) A (collect (.ref p)) R E s := by
  obtain ⟨ob, hob, hcl, ep, hdt⟩ := id ht
  unfold collect
  refine wpAny_bind (wpAny_runValue (codeAny_builtin entry_proto_collect' (show wpAny _ _ (do again (.builtin "list.__iadd__" ⟨[← newList [], .ref p], []⟩)) _ _ s from ?_)))
  refine wpAny_bind (wpAny_newList (wpAny_pure ⟨Code.quiet_builtin _ (by decide +kernel), codeAny_builtin entry_list_iadd' (show wpAny _ _ (Builtin.List.listExtendWith (.ref s.heap.objs.size) (.ref p) (.ref s.heap.objs.size)) _ _ { s with heap := s.heap.push (seqObj "list" #[] 0) } from ?_)⟩))
  unfold Builtin.List.listExtendWith
  have hob' : (s.heap.push (seqObj "list" #[] 0)).get? p = some ob := Heap.get?_push_of_some _ hob
  refine wpAny_bind (wpAny_typeOf (T := "tuple") ⟨ob, hob', hcl⟩ ?_)
  have tt : (Value.type "tuple" == Value.type "tuple") = true := by rfl
  rw [if_pos (by rw [tt]; simp)]
  refine wpAny_bind (listItems_at hob' hdt (wpAny_bind (listItems_at (xs := #[]) (n := 0) (Heap.get?_push_size _ rfl) rfl ?_)))
  rw [if_neg (by simp)]
  refine wpAny_bind (listUpdate_at (xs := #[]) (n := 0) (Heap.get?_push_size _ rfl) rfl (wpAny_pure ?_) (Nat.zero_le _) (by show (#[] ++ xs.toArray).size ≤ sizeLine + 1; simp only [Array.size_append, List.size_toArray, List.length_nil]; omega))
  show wpAny (model prog w) A (load s.heap.objs.size >>= _) R E { s with heap := (s.heap.push (seqObj "list" #[] 0)).update s.heap.objs.size (Obj.mapSeq (· ++ xs.toArray)) }
  refine wpAny_bind (wpAny_load (get?_update_seq (Heap.get?_push_size _ rfl) _) (show wpAny _ _ (pure ((#[] : Array Value) ++ xs.toArray).toList) R E _ from ?_))
  have ex : ((#[] : Array Value) ++ xs.toArray).toList = xs := by simp
  rw [ex]
  exact wpAny_pure q
theorem sorted_tup {p : Addr} {xs : List Value} {ns : List Int} {Q : Value → Shared → Prop} (ht : s.heap.IsTuple p xs.toArray) (hz : xs.length ≤ sizeLine) (hi : IntsAre xs ns)
    (q : ∀ out : List Value, SrtO.Srtd SrtO.ltIv out → SrtO.Stb SrtO.ltIv out xs → Q (.ref (s.heap.objs.size + 1)) { s with heap := sortedAll s.heap xs out.toArray }) :
    wpAny (model prog w) A (call (.builtin "sorted") [.ref p]) Q E s := by
  refine Calls.call_function_entry kind_sorted plain_sorted entry_sorted (args_sorted1 _) ?_
  unfold Builtin.«sorted»
  refine wpAny_bind (m := checkCount "sorted" 1 1 _) (wpAny_pure (wpAny_bind (gather_tuple ht hz (wpAny_bind (wpAny_newList ?_ hz)))))
  have sz1 : ((s.heap.push (seqObj "list" #[] 0)).update s.heap.objs.size (Obj.mapSeq (· ++ xs.toArray))).objs.size = s.heap.objs.size + 1 := (Heap.size_update ..).trans (Heap.size_push ..)
  have hoL := Heap.get?_push_size ((s.heap.push (seqObj "list" #[] 0)).update s.heap.objs.size (Obj.mapSeq (· ++ xs.toArray))) (o := seqObj "list" xs.toArray 0) rfl
  rw [sz1] at hoL
  show wpAny _ _ _ _ _ { s with heap := ((s.heap.push (seqObj "list" #[] 0)).update s.heap.objs.size (Obj.mapSeq (· ++ xs.toArray))).push (seqObj "list" xs.toArray 0) }
  rw [sz1]
  exact wpAny_bind (wpAny_holding (wpAny_call_entry PyProof.Rows.slot_list_sort ⟨_, hoL, rfl⟩ PyProof.Rows.entry_list_sort (SrtO.list_sort_ord SrtO.swo_int hoL hz (fun h2 => SrtO.ints_sortable hi h2) fun out hs hb => ⟨_, rfl, wpAny_pure ⟨_, rfl, q out hs hb⟩⟩) (PyProof.Rows.args_list_sort _)))
end
def rSortT (K : PySem.W.Frag) : List V → Hp → VK → Prop := fun xs H Q => ∃ (a : Addr) (ns : List Int), xs = [V.ref a] ∧ SqT K H a (ns.map V.int) ∧ ∀ (ms : List Int) (p : Addr), ms.Perm ns → H p = none → Q (.ref p) (upd H p (.lst (ms.map V.int)))
theorem cr_sortTI {X : Cx} : CallR X (.builtin "sorted") (rSortT X.K) := by
  intro pins s σ H vs us Q I r h
  obtain ⟨a, ns, rfl, hs, q⟩ := h
  obtain ⟨its, rv, hl, hz⟩ := I.tuple hs
  rw [Vals.ref1 r]
  have hi := rv.ints
  refine sorted_tup hl (by rw [← rv.length]; exact hz) hi fun out h1 h2 => ?_
  obtain ⟨k1, k2, k3⟩ := SrtO.ints_out hi h1 h2
  obtain ⟨ep, he'⟩ := sortedAll_at s.heap its out.toArray
  have hlen : ((out.map SrtO.iv).map V.int).length ≤ sizeLine := by
    have := k2.length_eq
    simp only [List.length_map] at this hz ⊢
    omega
  exact ⟨.ref _, upd H (s.heap.objs.size + 1) (.lst ((out.map SrtO.iv).map V.int)), I.laid (t' := s.toks) (fun _ _ e => sortedAll_old e) (Nat.le_succ _) ⟨hlen, out, ep, vals_of_ints k1, he'⟩, rfl, q _ _ k2 (I.hok.fresh (Nat.le_succ _))⟩
end MB

set_option maxHeartbeats 4000000
namespace MB
/-- the first of the least among f 0 .. f n -/
def amin (f : Nat → Int) : Nat → Nat
  | 0 => 0
  | n + 1 => if f (n + 1) < f (amin f n) then n + 1 else amin f n
theorem amin_le (f : Nat → Int) : ∀ n, amin f n ≤ n
  | 0 => Nat.le_refl _
  | n + 1 => by
    have := amin_le f n
    unfold amin
    split <;> omega
theorem amin_min (f : Nat → Int) : ∀ n k, k ≤ n → f (amin f n) ≤ f k
  | 0, k, h => by
    have : k = 0 := by omega
    rw [this]
    exact Int.le_refl _
  | n + 1, k, h => by
    have ih := amin_min f n
    unfold amin
    split
    · rename_i hlt
      by_cases e : k = n + 1
      · rw [e]
        exact Int.le_refl _
      · have := ih k (by omega)
        omega
    · rename_i hlt
      by_cases e : k = n + 1
      · rw [e]
        omega
      · exact ih k (by omega)
theorem amin_first (f : Nat → Int) : ∀ n k, k < amin f n → f (amin f n) < f k
  | 0, k, h => by simp [amin] at h
  | n + 1, k, h => by
    have ih := amin_first f n
    have hm := amin_min f n
    unfold amin at h ⊢
    split at h
    · rename_i hlt
      rw [if_pos hlt]
      have := hm k (by omega)
      omega
    · rename_i hlt
      rw [if_neg hlt]
      exact ih k h
theorem amin_uniq {f : Nat → Int} {n a : Nat} (ha : a ≤ n) (h1 : ∀ k, k ≤ n → f a ≤ f k) (h2 : ∀ k, k < a → f a < f k) : amin f n = a := by
  rcases Nat.lt_trichotomy (amin f n) a with h | h | h
  · have := h2 _ h
    have := amin_min f n a ha
    omega
  · exact h
  · have := amin_first f n a h
    have := h1 _ (amin_le f n)
    omega
theorem amin_like {f g : Nat → Int} {n : Nat} (h : ∀ j k, j ≤ n → k ≤ n → (f j < f k ↔ g j < g k)) : amin f n = amin g n := by
  refine amin_uniq (amin_le g n) (fun k hk => ?_) (fun k hk => ?_)
  · have h1 := amin_min g n k hk
    have h2 := h k (amin g n) hk (amin_le g n)
    by_cases e : f k < f (amin g n)
    · have := h2.mp e; omega
    · omega
  · have h0 := amin_le g n
    exact (h _ _ (amin_le g n) (by omega)).mpr (amin_first g n k hk)
theorem amin_congr {f g : Nat → Int} {n : Nat} (h : ∀ k, k ≤ n → f k = g k) : amin f n = amin g n :=
  amin_like fun j k hj hk => by rw [h j hj, h k hk]
/-- the cost of the root i + k of the m flushes from i on -/
def cst (S R : Nat → Int) (i m k : Nat) : Int := S (i + k + 1) - S i + R (i + m) - R (i + k)
def lwF (S R : Nat → Int) : Nat → Nat → Nat → Int
  | 0, _, _ => 0
  | _ + 1, _, 0 => 0
  | f + 1, i, m + 1 => (fun k => lwF S R f i k + lwF S R f (i + k + 1) (m - k) + cst S R i (m + 1) k) (amin (fun k => lwF S R f i k + lwF S R f (i + k + 1) (m - k) + cst S R i (m + 1) k) m)
theorem lwF_eq (S R : Nat → Int) : ∀ f m i, m ≤ f → lwF S R f i m = lwF S R m i m := by
  have key : ∀ f, ∀ m i, m ≤ f → lwF S R (f + 1) i m = lwF S R f i m := by
    intro f
    induction f with
    | zero => intro m i h; have : m = 0 := by omega
              subst this; rfl
    | succ f ih =>
      intro m i h
      cases m with
      | zero => rfl
      | succ m =>
        have e : ∀ k, k ≤ m → lwF S R (f + 1) i k + lwF S R (f + 1) (i + k + 1) (m - k) + cst S R i (m + 1) k = lwF S R f i k + lwF S R f (i + k + 1) (m - k) + cst S R i (m + 1) k := fun k hk => by
          rw [ih k i (by omega), ih (m - k) (i + k + 1) (by omega)]
        show (fun k => lwF S R (f + 1) i k + lwF S R (f + 1) (i + k + 1) (m - k) + cst S R i (m + 1) k) (amin (fun k => lwF S R (f + 1) i k + lwF S R (f + 1) (i + k + 1) (m - k) + cst S R i (m + 1) k) m) = (fun k => lwF S R f i k + lwF S R f (i + k + 1) (m - k) + cst S R i (m + 1) k) (amin (fun k => lwF S R f i k + lwF S R f (i + k + 1) (m - k) + cst S R i (m + 1) k) m)
        rw [amin_congr e]
        exact e _ (amin_le _ _)
  intro f m i h
  induction f with
  | zero => have : m = 0 := by omega
            subst this; rfl
  | succ f ih =>
    by_cases e : m ≤ f
    · rw [key f m i e, ih e]
    · have : m = f + 1 := by omega
      rw [this]
/-- the least work of the m flushes from i on -/
def lw (S R : Nat → Int) (i m : Nat) : Int := lwF S R m i m
/-- the least work of the m + 1 flushes from i on with the root i + k -/
def via (S R : Nat → Int) (i m k : Nat) : Int := lw S R i k + lw S R (i + k + 1) (m - k) + cst S R i (m + 1) k
def rt (S R : Nat → Int) (i m : Nat) : Nat := amin (via S R i m) m
theorem lw_zero (S R : Nat → Int) (i : Nat) : lw S R i 0 = 0 := rfl
theorem lw_succ (S R : Nat → Int) (i m : Nat) : lw S R i (m + 1) = via S R i m (rt S R i m) := by
  have e : ∀ k, k ≤ m → lwF S R m i k + lwF S R m (i + k + 1) (m - k) + cst S R i (m + 1) k = via S R i m k := fun k hk => by
    rw [lwF_eq S R m k i hk, lwF_eq S R m (m - k) (i + k + 1) (by omega)]; rfl
  show (fun k => lwF S R m i k + lwF S R m (i + k + 1) (m - k) + cst S R i (m + 1) k) (amin (fun k => lwF S R m i k + lwF S R m (i + k + 1) (m - k) + cst S R i (m + 1) k) m) = _
  rw [amin_congr e]
  exact e _ (amin_le _ _)
theorem rt_le (S R : Nat → Int) (i m : Nat) : rt S R i m ≤ m := amin_le _ _
theorem lw_le (S R : Nat → Int) (i : Nat) {m k : Nat} (h : k ≤ m) : lw S R i (m + 1) ≤ via S R i m k := by
  rw [lw_succ]
  exact amin_min _ _ _ h
def ltF (S R : Nat → Int) : Nat → Nat → Nat → T
  | 0, _, _ => .nil
  | _ + 1, _, 0 => .nil
  | f + 1, i, m + 1 => .node (ltF S R f i (rt S R i m)) (ltF S R f (i + rt S R i m + 1) (m - rt S R i m))
theorem ltF_eq (S R : Nat → Int) : ∀ f m i, m ≤ f → ltF S R f i m = ltF S R m i m := by
  have key : ∀ f, ∀ m i, m ≤ f → ltF S R (f + 1) i m = ltF S R f i m := by
    intro f
    induction f with
    | zero => intro m i h; have : m = 0 := by omega
              subst this; rfl
    | succ f ih =>
      intro m i h
      cases m with
      | zero => rfl
      | succ m =>
        have hr := rt_le S R i m
        show T.node (ltF S R (f + 1) i (rt S R i m)) (ltF S R (f + 1) (i + rt S R i m + 1) (m - rt S R i m)) = T.node (ltF S R f i (rt S R i m)) (ltF S R f (i + rt S R i m + 1) (m - rt S R i m))
        rw [ih _ _ (by omega), ih _ _ (by omega)]
  intro f m i h
  induction f with
  | zero => have : m = 0 := by omega
            subst this; rfl
  | succ f ih =>
    by_cases e : m ≤ f
    · rw [key f m i e, ih e]
    · have : m = f + 1 := by omega
      rw [this]
/-- the tree of least roots of the m flushes from i on -/
def lt (S R : Nat → Int) (i m : Nat) : T := ltF S R m i m
theorem lt_zero (S R : Nat → Int) (i : Nat) : lt S R i 0 = .nil := rfl
theorem lt_succ (S R : Nat → Int) (i m : Nat) : lt S R i (m + 1) = .node (lt S R i (rt S R i m)) (lt S R (i + rt S R i m + 1) (m - rt S R i m)) := by
  have hr := rt_le S R i m
  show T.node (ltF S R m i (rt S R i m)) (ltF S R m (i + rt S R i m + 1) (m - rt S R i m)) = _
  rw [ltF_eq S R m _ i hr, ltF_eq S R m _ (i + rt S R i m + 1) (by omega)]; rfl
theorem lt_size (S R : Nat → Int) : ∀ m i, (lt S R i m).size = m := by
  intro m
  induction m using Nat.strongRecOn with
  | ind m ih =>
    intro i
    cases m with
    | zero => rfl
    | succ m =>
      have hr := rt_le S R i m
      rw [lt_succ]
      show (lt S R i (rt S R i m)).size + 1 + (lt S R (i + rt S R i m + 1) (m - rt S R i m)).size = m + 1
      rw [ih _ (by omega), ih _ (by omega)]
      omega
/-- only the differences count -/
theorem lw_shift {S R S' R' : Nat → Int} {d : Nat} {c c' : Int} : ∀ m i, (∀ j, i ≤ j → j ≤ i + m → S j = S' (j + d) + c ∧ R j = R' (j + d) + c') → lw S R i m = lw S' R' (i + d) m ∧ lt S R i m = lt S' R' (i + d) m := by
  intro m
  induction m using Nat.strongRecOn with
  | ind m ih =>
    intro i h
    cases m with
    | zero => exact ⟨rfl, rfl⟩
    | succ m =>
      have ev : ∀ k, k ≤ m → via S R i m k = via S' R' (i + d) m k := fun k hk => by
        have e1 := (ih k (by omega) i fun j h1 h2 => h j h1 (by omega)).1
        have e2 := (ih (m - k) (by omega) (i + k + 1) fun j h1 h2 => h j (by omega) (by omega)).1
        have a1 := (h (i + k + 1) (by omega) (by omega)).1
        have a2 := (h i (by omega) (by omega)).1
        have a3 := (h (i + (m + 1)) (by omega) (by omega)).2
        have a4 := (h (i + k) (by omega) (by omega)).2
        rw [show i + k + 1 + d = i + d + k + 1 by omega] at a1
        rw [show i + (m + 1) + d = i + d + (m + 1) by omega] at a3
        rw [show i + k + d = i + d + k by omega] at a4
        rw [show i + k + 1 + d = i + d + k + 1 by omega] at e2
        unfold via cst
        rw [e1, e2, a1, a2, a3, a4]
        omega
      have er : rt S R i m = rt S' R' (i + d) m := amin_congr ev
      have hr := rt_le S' R' (i + d) m
      refine ⟨?_, ?_⟩
      · rw [lw_succ, lw_succ, er]
        exact ev _ hr
      · rw [lt_succ, lt_succ, er]
        rw [(ih (rt S' R' (i + d) m) (by omega) i fun j h1 h2 => h j h1 (by omega)).2]
        rw [(ih (m - rt S' R' (i + d) m) (by omega) (i + rt S' R' (i + d) m + 1) fun j h1 h2 => h j (by omega) (by omega)).2]
        rw [show i + rt S' R' (i + d) m + 1 + d = i + d + rt S' R' (i + d) m + 1 by omega]
theorem rt_shift {S R S' R' : Nat → Int} {d : Nat} {c c' : Int} {m i : Nat} (h : ∀ j, i ≤ j → j ≤ i + (m + 1) → S j = S' (j + d) + c ∧ R j = R' (j + d) + c') : rt S R i m = rt S' R' (i + d) m := by
  refine amin_congr fun k hk => ?_
  have e1 := (lw_shift (S := S) (R := R) (S' := S') (R' := R') k i fun j h1 h2 => h j h1 (by omega)).1
  have e2 := (lw_shift (S := S) (R := R) (S' := S') (R' := R') (m - k) (i + k + 1) fun j h1 h2 => h j (by omega) (by omega)).1
  have a1 := (h (i + k + 1) (by omega) (by omega)).1
  have a2 := (h i (by omega) (by omega)).1
  have a3 := (h (i + (m + 1)) (by omega) (by omega)).2
  have a4 := (h (i + k) (by omega) (by omega)).2
  rw [show i + k + 1 + d = i + d + k + 1 by omega] at a1
  rw [show i + (m + 1) + d = i + d + (m + 1) by omega] at a3
  rw [show i + k + d = i + d + k by omega] at a4
  rw [show i + k + 1 + d = i + d + k + 1 by omega] at e2
  unfold via cst
  rw [e1, e2, a1, a2, a3, a4]
  omega
theorem lw_scale {S R : Nat → Int} {c : Int} (hc : 0 < c) : ∀ m i, lw (fun j => c * S j) (fun j => c * R j) i m = c * lw S R i m := by
  intro m
  induction m using Nat.strongRecOn with
  | ind m ih =>
    intro i
    cases m with
    | zero => rw [lw_zero, lw_zero, Int.mul_zero]
    | succ m =>
      have ev : ∀ k, k ≤ m → via (fun j => c * S j) (fun j => c * R j) i m k = c * via S R i m k := fun k hk => by
        unfold via cst
        rw [ih k (by omega), ih (m - k) (by omega)]
        simp only [Int.mul_add, Int.mul_sub]
      have er : rt (fun j => c * S j) (fun j => c * R j) i m = rt S R i m := amin_like fun j k hj hk => by
        rw [ev j hj, ev k hk]
        exact Int.mul_lt_mul_left hc
      rw [lw_succ, lw_succ, er]
      exact ev _ (rt_le _ _ _ _)
theorem rt_scale {S R : Nat → Int} {c : Int} (hc : 0 < c) (i m : Nat) : rt (fun j => c * S j) (fun j => c * R j) i m = rt S R i m :=
  amin_like fun j k hj hk => by
    have ev : ∀ k, k ≤ m → via (fun j => c * S j) (fun j => c * R j) i m k = c * via S R i m k := fun k hk => by
      unfold via cst
      rw [lw_scale hc, lw_scale hc]
      simp only [Int.mul_add, Int.mul_sub]
    rw [ev j hj, ev k hk]
    exact Int.mul_lt_mul_left hc
theorem lw_add {S R S' R' : Nat → Int} : ∀ m i, lw S R i m + lw S' R' i m ≤ lw (fun j => S j + S' j) (fun j => R j + R' j) i m := by
  intro m
  induction m using Nat.strongRecOn with
  | ind m ih =>
    intro i
    cases m with
    | zero => rw [lw_zero, lw_zero, lw_zero]; decide
    | succ m =>
      rw [lw_succ (fun j => S j + S' j)]
      generalize hk : rt (fun j => S j + S' j) (fun j => R j + R' j) i m = k
      have hk2 : k ≤ m := by rw [← hk]; exact rt_le _ _ _ _
      have h1 := lw_le S R i hk2
      have h2 := lw_le S' R' i hk2
      have h3 := ih k (by omega) i
      have h4 := ih (m - k) (by omega) (i + k + 1)
      unfold via cst at *
      dsimp only at *
      omega
def Mono (S : Nat → Int) : Prop := ∀ a b, a ≤ b → S a ≤ S b
theorem lw_nonneg {S R : Nat → Int} (hS : Mono S) (hR : Mono R) : ∀ m i, 0 ≤ lw S R i m := by
  intro m
  induction m using Nat.strongRecOn with
  | ind m ih =>
    intro i
    cases m with
    | zero => exact Int.le_refl _
    | succ m =>
      rw [lw_succ]
      have hk2 := rt_le S R i m
      generalize rt S R i m = k at hk2 ⊢
      have h3 := ih k (by omega) i
      have h4 := ih (m - k) (by omega) (i + k + 1)
      have h5 := hS i (i + k + 1) (by omega)
      have h6 := hR (i + k) (i + (m + 1)) (by omega)
      unfold via cst
      omega
theorem lw_last {S R : Nat → Int} (hS : Mono S) (hR : Mono R) : ∀ m i, lw S R i m + (S (i + m + 1) - S (i + m)) + (R (i + m + 1) - R (i + m)) ≤ lw S R i (m + 1) := by
  intro m
  induction m using Nat.strongRecOn with
  | ind m ih =>
    intro i
    rw [lw_succ]
    have hk2 := rt_le S R i m
    generalize rt S R i m = k at hk2 ⊢
    by_cases e : k = m
    · subst e
      unfold via cst
      rw [Nat.sub_self, lw_zero]
      have := hS i (i + k) (by omega)
      rw [show i + (k + 1) = i + k + 1 by omega]
      omega
    · obtain ⟨m', rfl⟩ : ∃ m', m = m' + 1 := ⟨m - 1, by omega⟩
      have h3 := ih (m' - k) (by omega) (i + k + 1)
      rw [show i + k + 1 + (m' - k) + 1 = i + (m' + 1) + 1 by omega, show i + k + 1 + (m' - k) = i + (m' + 1) by omega, show m' - k + 1 = m' + 1 - k by omega] at h3
      have h4 := lw_le S R i (show k ≤ m' by omega)
      have h5 := hR (i + (m' + 1)) (i + (m' + 1) + 1) (by omega)
      unfold via cst at *
      rw [show i + (m' + 1 + 1) = i + (m' + 1) + 1 by omega]
      omega
theorem lw_front {S R : Nat → Int} (hS : Mono S) (hR : Mono R) : ∀ m i, lw S R (i + 1) m ≤ lw S R i (m + 1) := by
  intro m
  induction m using Nat.strongRecOn with
  | ind m ih =>
    intro i
    rw [lw_succ S R i]
    have hk2 := rt_le S R i m
    generalize rt S R i m = k at hk2 ⊢
    cases k with
    | zero =>
      unfold via cst
      rw [lw_zero]
      have h5 := hS i (i + 0 + 1) (by omega)
      have h6 := hR (i + 0) (i + (m + 1)) (by omega)
      rw [Nat.sub_zero]
      rw [show i + 0 + 1 = i + 1 by omega] at *
      omega
    | succ k =>
      obtain ⟨m', rfl⟩ : ∃ m', m = m' + 1 := ⟨m - 1, by omega⟩
      have h3 := ih k (by omega) i
      have h4 := lw_le S R (i + 1) (show k ≤ m' by omega)
      have h5 := hS i (i + 1) (by omega)
      unfold via cst at *
      rw [show i + 1 + k + 1 = i + (k + 1) + 1 by omega, show i + 1 + (m' + 1) = i + (m' + 1 + 1) by omega, show i + 1 + k = i + (k + 1) by omega] at h4
      rw [show m' + 1 - (k + 1) = m' - k by omega]
      omega
theorem lw_join {S R : Nat → Int} (hS : Mono S) (hR : Mono R) {i m k : Nat} (h : k ≤ m) : lw S R i m ≤ lw S R i k + lw S R (i + k) (m - k) + (S (i + k) - S i + R (i + m) - R (i + k)) := by
  cases k with
  | zero =>
    rw [lw_zero, Nat.sub_zero, Nat.add_zero]
    have := hR i (i + m) (by omega)
    omega
  | succ k =>
    obtain ⟨m', rfl⟩ : ∃ m', m = m' + 1 := ⟨m - 1, by omega⟩
    have h1 := lw_last hS hR k i
    have h2 := lw_le S R i (show k ≤ m' by omega)
    have h3 := hS (i + k) (i + k + 1) (by omega)
    unfold via cst at h2
    rw [show m' + 1 - (k + 1) = m' - k by omega, show i + (k + 1) = i + k + 1 by omega]
    omega
def insS (S : Nat → Int) (p : Nat) : Nat → Int := fun j => if j ≤ p then S j else S (j - 1)
theorem lw_before {S R : Nat → Int} {p i m : Nat} (h : i + m ≤ p) : lw (insS S p) (insS R p) i m = lw S R i m := by
  refine (lw_shift (S := insS S p) (R := insS R p) (S' := S) (R' := R) (d := 0) (c := 0) (c' := 0) m i fun j h1 h2 => ?_).1
  unfold insS
  rw [if_pos (by omega), if_pos (by omega)]
  simp
theorem lw_behind {S R : Nat → Int} {p i m : Nat} (h : p < i) : lw S R (i - 1) m = lw (insS S p) (insS R p) i m := by
  have := (lw_shift (S := S) (R := R) (S' := insS S p) (R' := insS R p) (d := 1) (c := 0) (c' := 0) m (i - 1) fun j h1 h2 => ?_).1
  · rw [this, show i - 1 + 1 = i by omega]
  · unfold insS
    rw [if_neg (by omega), if_neg (by omega)]
    simp
theorem lw_ins {S R : Nat → Int} (hS : Mono S) (hR : Mono R) {p : Nat} : ∀ m i, i ≤ p → p ≤ i + m → lw S R i m ≤ lw (insS S p) (insS R p) i (m + 1) := by
  intro m
  induction m using Nat.strongRecOn with
  | ind m ih =>
    intro i hi hp
    rw [lw_succ (insS S p)]
    have hk2 := rt_le (insS S p) (insS R p) i m
    generalize rt (insS S p) (insS R p) i m = k at hk2 ⊢
    have sL : ∀ {F : Nat → Int} {j : Nat}, j ≤ p → insS F p j = F j := fun h => if_pos h
    have sR : ∀ {F : Nat → Int} {j : Nat}, p < j → insS F p j = F (j - 1) := fun h => if_neg (by omega)
    rcases Nat.lt_trichotomy (i + k) p with h | h | h
    · obtain ⟨m', rfl⟩ : ∃ m', m = m' + 1 := ⟨m - 1, by omega⟩
      have h1 := ih (m' - k) (by omega) (i + k + 1) (by omega) (by omega)
      rw [show m' - k + 1 = m' + 1 - k by omega] at h1
      have h2 := lw_le S R i (show k ≤ m' by omega)
      unfold via cst at *
      rw [lw_before (by omega), sL (F := S) (j := i + k + 1) (by omega), sL (F := S) (j := i) (by omega), sR (F := R) (j := i + (m' + 1 + 1)) (by omega), sL (F := R) (j := i + k) (by omega), show i + (m' + 1 + 1) - 1 = i + (m' + 1) by omega]
      omega
    · have h1 := lw_join hS hR (i := i) (m := m) (k := k) hk2
      unfold via cst
      rw [lw_before (by omega), ← lw_behind (by omega), sR (F := S) (j := i + k + 1) (by omega), sL (F := S) (j := i) (by omega), sR (F := R) (j := i + (m + 1)) (by omega), sL (F := R) (j := i + k) (by omega), show i + (m + 1) - 1 = i + m by omega, show i + k + 1 - 1 = i + k by omega]
      omega
    · obtain ⟨k', rfl⟩ : ∃ k', k = k' + 1 := ⟨k - 1, by omega⟩
      obtain ⟨m', rfl⟩ : ∃ m', m = m' + 1 := ⟨m - 1, by omega⟩
      have h1 := ih k' (by omega) i (by omega) (by omega)
      have h2 := lw_le S R i (show k' ≤ m' by omega)
      unfold via cst at *
      rw [← lw_behind (p := p) (i := i + (k' + 1) + 1) (by omega), sR (F := S) (j := i + (k' + 1) + 1) (by omega), sL (F := S) (j := i) (by omega), sR (F := R) (j := i + (m' + 1 + 1)) (by omega), sR (F := R) (j := i + (k' + 1)) (by omega), show i + (m' + 1 + 1) - 1 = i + (m' + 1) by omega, show i + (k' + 1) + 1 - 1 = i + k' + 1 by omega, show i + (k' + 1) - 1 = i + k' by omega, show m' + 1 - (k' + 1) = m' - k' by omega]
      omega
/-- sums of the first ones -/
def sm (l : List Int) (k : Nat) : Int := (l.take k).sum
theorem sm_zero (l : List Int) : sm l 0 = 0 := by simp [sm]
theorem sm_succ {l : List Int} {k : Nat} {x : Int} (h : l[k]? = some x) : sm l (k + 1) = sm l k + x := by
  unfold sm
  rw [List.take_add_one, h, Option.toList_some, List.sum_append]
  simp
theorem sm_mono {l : List Int} (h : ∀ x, x ∈ l → 0 ≤ x) : Mono (sm l) := by
  intro a b hab
  induction b with
  | zero => have : a = 0 := by omega
            subst this; exact Int.le_refl _
  | succ b ih =>
    by_cases e : a = b + 1
    · rw [e]; exact Int.le_refl _
    · have h1 := ih (by omega)
      cases hx : l[b]? with
      | none =>
        have : sm l (b + 1) = sm l b := by
          unfold sm
          rw [List.take_add_one, hx]
          simp
        omega
      | some x =>
        have := h x (List.mem_of_getElem? hx)
        rw [sm_succ hx]
        omega
end MB

set_option maxHeartbeats 4000000
namespace MB
open PySem PySem.Spec PyProof.Rows L2
/-! ### min of a list of pairs of ints -/
def dP (p : Int × Int) : PyData := .tuple [.int p.1, .int p.2]
theorem dP_toD (p : Int × Int) : PySem.W.Datum.toD p = dP p := rfl
theorem dP_map (ps : List (Int × Int)) : ps.map PySem.W.Datum.toD = ps.map dP := rfl
theorem depth_dP : ∀ ps : List (Int × Int), PyData.depthAll (ps.map dP) ≤ 1
  | [] => by simp [PyData.depthAll]
  | p :: ps => by
    have := depth_dP ps
    simp only [List.map_cons, PyData.depthAll, dP, PyData.depth] at *
    omega
theorem vals_at : ∀ {xs : List V} {its : List Value}, Vals xs its → ∀ {i : Nat} {v : Value}, its[i]? = some v → ∃ x, xs[i]? = some x ∧ RelV x v
  | _, _, .nil, i, v, h => by simp at h
  | _, _, .cons r rr, 0, v, h => by
    simp at h
    subst h
    exact ⟨_, rfl, r⟩
  | _, _, .cons r rr, i + 1, v, h => by
    obtain ⟨x, h1, h2⟩ := vals_at rr (i := i) (v := v) (by simpa using h)
    exact ⟨x, by simpa using h1, h2⟩
def rMinP (K : PySem.W.Frag) : List V → Hp → VK → Prop := fun xs H Q => ∃ (a : Addr) (us : List V) (p : Int × Int) (ps : List (Int × Int)), xs = [V.ref a] ∧ SqL K H a us ∧ DpAll K H us ((p :: ps).map dP) ∧ ∀ b, SqT K H b [V.int (PySem.W.minOf p ps).1, V.int (PySem.W.minOf p ps).2] → Q (.ref b) H
theorem minOf_mem (p : Int × Int) : ∀ ps : List (Int × Int), PySem.W.minOf p ps ∈ p :: ps := by
  intro ps
  unfold PySem.W.minOf
  induction ps generalizing p with
  | nil => simp
  | cons q ps ih =>
    rw [List.foldl_cons]
    have := ih (if PySem.W.DatumOrd.lt q p = true then q else p)
    rcases List.mem_cons.mp this with h | h
    · rw [h]
      split <;> simp
    · exact List.mem_cons_of_mem _ (List.mem_cons_of_mem _ h)
theorem cr_minP {X : Cx} {K : PySem.W.Frag} (hK : X.K = K) (hc : X.calm = true) (hu : X.A.units + 64 < cLine) : CallR X (.builtin "min") (rMinP K) := by
  subst hK
  intro pins s σ H vs us Q I r h
  obtain ⟨a, xs, p, ps, rfl, hs, hA, q⟩ := h
  obtain ⟨its, rv, hl, _⟩ := I.list hs
  rw [Vals.ref1 r]
  obtain ⟨as, rd⟩ := Dp.readsAll I _ _ its hA rv
  refine PySem.W.min_list_data (x := dP p) (xs := ps.map dP) (I.ok.hd hc) hl.isList (by simpa using rd) (PySem.W.alikeAll_datum (p :: ps)) ?_ fun i v h' tk bs hv hr hk => ?_
  · have := depth_dP (p :: ps)
    rw [List.map_cons] at this
    omega
  · have e := PySem.W.minD_map p ps
    rw [dP_map, dP_toD] at e
    rw [e, dP_toD] at hr
    generalize hm : PySem.W.minOf p ps = m at hr q
    obtain ⟨x, hx, rx⟩ := vals_at rv (i := i) (v := v) (by simpa using hv)
    have hi : i < ((p :: ps).map dP).length := by
      rw [← DpAll.len hA]
      exact (List.getElem?_eq_some_iff.mp hx).1
    obtain ⟨y, hy, hD⟩ := DpAll.get hA (List.getElem?_eq_getElem hi)
    rw [hx] at hy
    cases hy
    rw [List.getElem_map] at hD
    generalize (p :: ps)[i]'_ = pr at hD
    obtain ⟨m1, m2⟩ := m
    obtain ⟨n1, n2⟩ := pr
    obtain ⟨b, ys, rfl, hS, hB⟩ := Dp.tupInv hD
    have ey := dp_ints_inv (ns := [n1, n2]) hB
    subst ey
    cases rx
    obtain ⟨jts, rj, ho, _⟩ := I.tuple hS
    obtain ⟨o, ho1, ho2, n, ho3⟩ := ho
    have ho4 := hk _ _ ho1
    cases hr with
    | tuple g1 g2 g3 g4 =>
      rw [ho4] at g1
      cases g1
      rw [ho3] at g3
      cases g3
      cases rj with
      | cons r1 r2 =>
        cases r2 with
        | cons r3 r4 =>
          cases r4
          obtain ⟨t1, rfl⟩ := r1
          obtain ⟨t2, rfl⟩ := r3
          have e2 : (m1, m2) = (n1, n2) := by
            cases g4 with
            | cons k1 k2 =>
              cases k2 with
              | cons k3 k4 =>
                cases k1
                cases k3
                rfl
          refine ⟨.ref b, H, I.kept hk, rfl, q b ?_⟩
          rw [e2]
          exact hS
/-- the least pair, if the second ones ascend by one -/
theorem minOf_amin (f : Nat → Int) (b : Nat) : ∀ n, PySem.W.minOf (f 0, (b : Int)) ((List.range n).map fun j => (f (j + 1), ((b + (j + 1) : Nat) : Int))) = (f (amin f n), ((b + amin f n : Nat) : Int))
  | 0 => rfl
  | n + 1 => by
    have ih := minOf_amin f b n
    unfold PySem.W.minOf at ih ⊢
    rw [List.range_succ, List.map_append, List.foldl_append, ih]
    show (if (if f (n + 1) = f (amin f n) then decide (((b + (n + 1) : Nat) : Int) < ((b + amin f n : Nat) : Int)) else decide (f (n + 1) < f (amin f n))) = true then (f (n + 1), ((b + (n + 1) : Nat) : Int)) else (f (amin f n), ((b + amin f n : Nat) : Int))) = _
    have hl := amin_le f n
    have ea : amin f (n + 1) = if f (n + 1) < f (amin f n) then n + 1 else amin f n := rfl
    rw [ea]
    generalize amin f n = c at hl ⊢
    by_cases h1 : f (n + 1) = f c
    · rw [if_pos h1, if_neg (by simp; omega), if_neg (by omega)]
    · rw [if_neg h1]
      by_cases h2 : f (n + 1) < f c
      · rw [if_pos (by simpa using h2), if_pos h2]
      · rw [if_neg (by simpa using h2), if_neg h2]
/-! ### an index of a list or a tuple -/
def SqQ (K : PySem.W.Frag) (H : Hp) (a : Addr) (xs : List V) : Prop := SqL K H a xs ∨ SqT K H a xs
def rIxQ (K : PySem.W.Frag) : R2 := fun x y H Q => ∃ p xs i v, x = .ref p ∧ y = .int i ∧ SqQ K H p xs ∧ atI xs i = some v ∧ Q v H
theorem k_ixQ {X : Cx} {K : PySem.W.Frag} (hK : X.K = K) : IxR X (rIxQ K) := by
  subst hK
  intro value slice pins s σ H x y v u Q I rx ry h hs
  obtain ⟨p, xs, i, w, rfl, rfl, hq, ha, q⟩ := h
  rcases hq with hq | hq
  · exact ix_list value slice pins s σ H _ _ v u Q I rx ry ⟨p, xs, i, w, rfl, rfl, hq, ha, q⟩ hs
  · exact ix_tup value slice pins s σ H _ _ v u Q I rx ry ⟨p, xs, i, w, rfl, rfl, hq, ha, q⟩ hs
/-! ### zip of two tuples -/
theorem walk_zipT {K : PySem.W.Frag} {a b : Addr} {xs ys : List V} {n : Nat} (hn : n = min xs.length ys.length) : Walk (RZ.ItzT K a b) n (fun H => SqT K H a xs ∧ SqT K H b ys) (YPair (fun i => xs[i]?) (fun i => ys[i]?)) := by
  refine ⟨fun i H hi ⟨qx, qy⟩ => ⟨xs, ys, xs[i]'(by omega), ys[i]'(by omega), qx, qy, List.getElem?_eq_getElem (by omega), List.getElem?_eq_getElem (by omega)⟩, fun H ⟨qx, qy⟩ => ⟨xs, ys, qx, qy, by omega⟩, fun i H v H' hi ⟨qx, qy⟩ y => ?_⟩
  obtain ⟨T, u, z, e1, e2, e3, e4, e5⟩ := y
  exact ⟨T, u, z, e1, e2, e3, e4 xs qx, e5 ys qy⟩
end MB

set_option maxHeartbeats 4000000
namespace MB
open PySem PySem.Spec PyProof.Rows L2
/-- the least of some pairs -/
def minP : List (Int × Int) → Option (Int × Int)
  | [] => none
  | p :: ps => some (PySem.W.minOf p ps)
theorem minP_mem {l : List (Int × Int)} {p : Int × Int} (h : minP l = some p) : p ∈ l := by
  cases l with
  | nil => cases h
  | cons q l =>
    simp only [minP, Option.some.injEq] at h
    rw [← h]
    exact minOf_mem q l
theorem minP_none {l : List (Int × Int)} : minP l = none ↔ l = [] := by
  cases l <;> simp [minP]
/-! ### min(list of pairs, default=d) -/
def rMinPD (K : PySem.W.Frag) : List V → List V → Hp → VK → Prop := fun xs zs H Q => ∃ (a : Addr) (us : List V) (ps : List (Int × Int)) (z : V), xs = [V.ref a] ∧ zs = [z] ∧ SqL K H a us ∧ DpAll K H us (ps.map dP) ∧ (ps = [] → Q z H) ∧ ∀ p, minP ps = some p → ∀ b, SqT K H b [V.int p.1, V.int p.2] → Q (.ref b) H
theorem cr_minPD {X : Cx} {K : PySem.W.Frag} (hK : X.K = K) (hc : X.calm = true) (hu : X.A.units + 64 < cLine) : CallRK X (.builtin "min") [Str.ofString "default"] (rMinPD K) := by
  subst hK
  intro pins s σ H vs zs us ws Q I r rz h
  obtain ⟨a, xs, ps, z, rfl, rfl, hs, hA, q0, q1⟩ := h
  obtain ⟨its, rv, hl, _⟩ := I.list hs
  rw [Vals.ref1 r]
  obtain ⟨u, rfl, ru⟩ := vals1 rz
  obtain ⟨as, rd⟩ := Dp.readsAll I _ _ its hA rv
  refine PySem.W.min_list_default (xs := ps.map dP) (I.ok.hd hc) hl.isList (by simpa using rd) (PySem.W.alikeAll_datum ps) ?_ (fun e h' tk hk => ?_) fun y ys i v h' tk bs e hv hr hk => ?_
  · have := depth_dP ps
    omega
  · exact ⟨z, H, I.kept hk, ru, q0 (List.map_eq_nil_iff.mp e)⟩
  · cases ps with
    | nil => cases e
    | cons p ps =>
      rw [List.map_cons] at e
      cases e
      have e := PySem.W.minD_map p ps
      rw [dP_map, dP_toD] at e
      rw [e, dP_toD] at hr
      generalize hm : PySem.W.minOf p ps = m at hr
      have q2 := q1 m (by simp only [minP, hm])
      obtain ⟨x, hx, rx⟩ := vals_at rv (i := i) (v := v) (by simpa using hv)
      have hi : i < ((p :: ps).map dP).length := by
        rw [← DpAll.len hA]
        exact (List.getElem?_eq_some_iff.mp hx).1
      obtain ⟨y, hy, hD⟩ := DpAll.get hA (List.getElem?_eq_getElem hi)
      rw [hx] at hy
      cases hy
      rw [List.getElem_map] at hD
      generalize (p :: ps)[i]'_ = pr at hD
      obtain ⟨m1, m2⟩ := m
      obtain ⟨n1, n2⟩ := pr
      obtain ⟨b, ys, rfl, hS, hB⟩ := Dp.tupInv hD
      have ey := dp_ints_inv (ns := [n1, n2]) hB
      subst ey
      cases rx
      obtain ⟨jts, rj, ho, _⟩ := I.tuple hS
      obtain ⟨o, ho1, ho2, n, ho3⟩ := ho
      have ho4 := hk _ _ ho1
      cases hr with
      | tuple g1 g2 g3 g4 =>
        rw [ho4] at g1
        cases g1
        rw [ho3] at g3
        cases g3
        cases rj with
        | cons r1 r2 =>
          cases r2 with
          | cons r3 r4 =>
            cases r4
            obtain ⟨t1, rfl⟩ := r1
            obtain ⟨t2, rfl⟩ := r3
            have e2 : (m1, m2) = (n1, n2) := by
              cases g4 with
              | cons k1 k2 =>
                cases k2 with
                | cons k3 k4 =>
                  cases k1
                  cases k3
                  rfl
            refine ⟨.ref b, H, I.kept hk, rfl, q2 b ?_⟩
            rw [e2]
            exact hS
end MB

set_option maxHeartbeats 4000000
namespace MB
open PySem PySem.Spec PyProof.Rows L2
/-! ### zip of a tuple and a list -/
def ItzM (K : PySem.W.Frag) (a b : Addr) : It where
  go := fun i H => ∃ xs ys x y, SqT K H a xs ∧ SqL K H b ys ∧ xs[i]? = some x ∧ ys[i]? = some y
  yld := fun i H v H' => ∃ N x y, v = .ref N ∧ H N = none ∧ H' = upd H N (.tup [x, y]) ∧ (∀ xs, SqT K H a xs → xs[i]? = some x) ∧ (∀ ys, SqL K H b ys → ys[i]? = some y)
  stop := fun i H => ∃ xs ys, SqT K H a xs ∧ SqL K H b ys ∧ i = min xs.length ys.length
theorem apart_sep {z TI TO i1 i2 a b : Addr} (D : ZipApart z TI TO i1 i2 a b) (ha : a ≠ TO) (hb : b ≠ TO) (hb1 : b ≠ i1) (ha2 : a ≠ i2) (haz : a ≠ z) (hbz : b ≠ z) : ZipSep2 z TI TO i1 i2 [i1, a] [i2, b] where
  TIz := D.TIz
  TOz := D.TOz
  TITO := D.TITO
  TIi1 := D.TIi1
  TIi2 := D.TIi2
  mem1 := by simp
  mem2 := by simp
  zf1 := by simp only [List.mem_cons, List.not_mem_nil, or_false, not_or]; exact ⟨D.i1z.symm, haz.symm⟩
  zf2 := by simp only [List.mem_cons, List.not_mem_nil, or_false, not_or]; exact ⟨D.i2z.symm, hbz.symm⟩
  Tf1 := by simp only [List.mem_cons, List.not_mem_nil, or_false, not_or]; exact ⟨D.TOi1, ha.symm⟩
  Tf2 := by simp only [List.mem_cons, List.not_mem_nil, or_false, not_or]; exact ⟨D.TOi2, hb.symm⟩
  sep1_2 := by simp only [List.mem_cons, List.not_mem_nil, or_false, not_or]; exact ⟨D.i12, hb1.symm⟩
  sep2_1 := by simp only [List.mem_cons, List.not_mem_nil, or_false, not_or]; exact ⟨D.i12.symm, ha2.symm⟩
def StM (z TI TO i1 i2 a b : Addr) (i : Nat) (h : Heap) : Prop := IsZip h z TI TO .none ∧ IsPair h TI (.ref i1) (.ref i2) ∧ (∃ x y, IsPair h TO x y) ∧ h.IsTupleIter i1 a i ∧ h.IsListIter i2 b i
theorem in5 {c z TI TO i1 i2 : Addr} (h : c ∈ [z, TI, TO, i1, i2]) : c = z ∨ c = TI ∨ c = TO ∨ c = i1 ∨ c = i2 := by simpa using h
theorem turn_zipM {P : Program} {w : World} {K : PySem.W.Frag} {elts : List Expr} {kk : Nat} {tpos : Pos} {a b z TI TO i1 i2 : Addr} (D : ZipApart z TI TO i1 i2 a b) (S : ZipSep2 z TI TO i1 i2 [i1, a] [i2, b]) (hai : a ≠ i1) (hbi : b ≠ i2) :
    Turn P w K (.Tuple elts kk tpos) (ItzM K a b) [z, TI, TO, i1, i2] z (StM z TI TO i1 i2 a b) where
  mem := List.mem_cons_self ..
  obj := fun i h st c hc => by
    obtain ⟨q1, q2, ⟨x, y, q3⟩, ⟨o1, q4, _, q5⟩, ⟨o2, q6, _, q7⟩⟩ := st
    rcases in5 hc with e | e | e | e | e <;> subst e
    · exact ⟨_, q1, fun v e => nomatch e⟩
    · exact ⟨_, q2, fun v e => nomatch e⟩
    · exact ⟨_, q3, fun v e => nomatch e⟩
    · exact ⟨o1, q4, fun v e => by rw [q5] at e; cases e⟩
    · exact ⟨o2, q6, fun v e => by rw [q7] at e; cases e⟩
  keep := fun i h h' ⟨q1, q2, ⟨x, y, q3⟩, q4, q5⟩ k =>
    ⟨k z (by simp) _ q1, k TI (by simp) _ q2, ⟨x, y, k TO (by simp) _ q3⟩, q4.at fun o e => k i1 (by simp) o e, q5.at fun o e => k i2 (by simp) o e⟩
  item := by
    intro X hP hw hK hc i pins s σ H E I hf st hg
    subst hP hw hK
    obtain ⟨q1, q2, ⟨x0, y0, q3⟩, q4, q5⟩ := st
    obtain ⟨xs, ys, x, y, sx, sy, gx, gy⟩ := hg
    obtain ⟨its, rv, tp, _⟩ := I.tuple sx
    obtain ⟨jts, rw', lp, _⟩ := I.list sy
    obtain ⟨u, hu, ru⟩ := rv.get gx
    obtain ⟨v, hv, rv'⟩ := rw'.get gy
    have zl : z < s.heap.objs.size := Heap.lt_size q1
    have hi1 : i < its.toArray.size := by
      have := (List.getElem?_eq_some_iff.mp hu).1
      simpa using this
    have hi2 : i < jts.toArray.size := by
      have := (List.getElem?_eq_some_iff.mp hv).1
      simpa using this
    refine wpAny_pyNext_zipD2_item S (Draws.tuple (prog := X.prog) (w := X.w) (A := X.A.in1) (I.ok.hd hc) i1 a hai its.toArray) (Draws.list (prog := X.prog) (w := X.w) (A := X.A.in1) (I.ok.hd hc) i2 b hbi jts.toArray) q1 q2 q3 ⟨q4, tp⟩ ⟨q5, lp.isList⟩ hi1 hi2 fun u' v' h' tk e1 e2 z' TO' s1' s2' hT hsz hk => ?_
    have eu : u' = u := by
      rw [List.getElem?_toArray, hu] at e1
      exact (Option.some.inj e1).symm
    have ev : v' = v := by
      rw [List.getElem?_toArray, hv] at e2
      exact (Option.some.inj e2).symm
    subst eu ev
    refine ⟨_, rfl, wpAny_letOwnedTupleGo_zip (s := { s with heap := h', toks := tk }) z' fun h'' z'' sb => ?_⟩
    have hT2 := (sb.2 _ (Nat.ne_of_gt zl)).trans hT
    have new : ObjOk X.prog X.w (upd H s.heap.objs.size (.tup [x, y])) h'' s.heap.objs.size (.tup [x, y]) := ⟨by show 2 ≤ sizeLine; decide, [u', v'], .cons ru (.cons rv' .nil), ⟨_, hT2, rfl, _, rfl⟩⟩
    have hk2 : ∀ c o, c ∉ [z, TI, TO, i1, i2] → s.heap.get? c = some o → h''.get? c = some o := fun c o hb e => by
      simp only [List.mem_cons, List.not_mem_nil, or_false, not_or] at hb
      exact (sb.2 c hb.1).trans (hk c o hb.1 hb.2.2.1 hb.2.2.2.1 hb.2.2.2.2 e)
    have I1 : Inv X pins σ (upd H s.heap.objs.size (.tup [x, y])) { s with heap := h'', toks := tk } := I.turnedNew (t' := tk) (ch := [z, TI, TO, i1, i2]) hk2 hf (Nat.le_refl _) new
    refine ⟨.ref s.heap.objs.size, _, I1, rfl, ⟨s.heap.objs.size, x, y, rfl, I.hok.fresh (Nat.le_refl _), rfl, fun l hl => ?_, fun l hl => ?_⟩, ⟨z'', (sb.2 TI D.TIz).trans (hk TI _ D.TIz D.TITO D.TIi1 D.TIi2 q2), ⟨u', v', (sb.2 TO D.TOz).trans TO'⟩, s1'.1.at fun o e => (sb.2 i1 D.i1z).trans e, s2'.1.at fun o e => (sb.2 i2 D.i2z).trans e⟩, fun c hcm => ?_⟩
    · rw [I.tuple_inj hl sx]; exact gx
    · rw [I.list_inj hl sy]; exact gy
    · have cl : c < s.heap.objs.size := by
        obtain ⟨o1, d1, _⟩ := q4
        obtain ⟨o2, d2, _⟩ := q5
        rcases in5 hcm with e | e | e | e | e <;> rw [e]
        · exact zl
        · exact Heap.lt_size q2
        · exact Heap.lt_size q3
        · exact Heap.lt_size d1
        · exact Heap.lt_size d2
      rw [upd_ne (Nat.ne_of_lt cl)]
      exact (hf c hcm).1
  done := by
    intro X hP hw hK hc i pins s σ H E I hf st hg
    subst hP hw hK
    obtain ⟨q1, q2, ⟨x0, y0, q3⟩, q4, q5⟩ := st
    obtain ⟨xs, ys, sx, sy, gend⟩ := hg
    obtain ⟨its, rv, tp, _⟩ := I.tuple sx
    obtain ⟨jts, rw', lp, _⟩ := I.list sy
    have e1 := rv.length
    have e2 := rw'.length
    have hl1 : its.toArray.size = xs.length := by simp [e1]
    have hl2 : jts.toArray.size = ys.length := by simp [e2]
    refine wpAny_pyNext_zipD2_end S (Draws.tuple (prog := X.prog) (w := X.w) (A := X.A.in1) (I.ok.hd hc) i1 a hai its.toArray) (Draws.list (prog := X.prog) (w := X.w) (A := X.A.in1) (I.ok.hd hc) i2 b hbi jts.toArray) q1 q2 q3 ⟨q4, tp⟩ ⟨q5, lp.isList⟩ (by omega) (by omega) (by omega) fun h' tk hk => ⟨rfl, I.turnedL (t' := tk) (ch := [z, TI, TO, i1, i2]) (fun c o hb e => ?_) hf⟩
    simp only [List.mem_cons, List.not_mem_nil, or_false, not_or] at hb
    exact hk c o hb.1 hb.2.2.1 hb.2.2.2.1 hb.2.2.2.2 e
  self := fun A i s Q E st h => wpAny_pyIter_zip st.1 h
theorem walk_zipM {K : PySem.W.Frag} {a b : Addr} {xs ys : List V} {n : Nat} (hn : n = min xs.length ys.length) : Walk (ItzM K a b) n (fun H => SqT K H a xs ∧ SqL K H b ys) (YPair (fun i => xs[i]?) (fun i => ys[i]?)) := by
  refine ⟨fun i H hi ⟨qx, qy⟩ => ⟨xs, ys, xs[i]'(by omega), ys[i]'(by omega), qx, qy, List.getElem?_eq_getElem (by omega), List.getElem?_eq_getElem (by omega)⟩, fun H ⟨qx, qy⟩ => ⟨xs, ys, qx, qy, by omega⟩, fun i H v H' hi ⟨qx, qy⟩ y => ?_⟩
  obtain ⟨T, u, z, e1, e2, e3, e4, e5⟩ := y
  exact ⟨T, u, z, e1, e2, e3, e4 xs qx, e5 ys qy⟩
/-! its making -/
abbrev zmH1 (h : Heap) (a : Addr) : Heap := h.push { cls := .type "tuple_iterator", data := .fields #[.ref a, .int 0 0] }
abbrev zmH2 (h : Heap) (a b : Addr) : Heap := (zmH1 h a).push { cls := .type "list_iterator", data := .fields #[.ref b, .int 0 0] }
abbrev zmH3 (h : Heap) (a b : Addr) : Heap := (zmH2 h a b).push { cls := .type "tuple", data := .seq #[.ref h.objs.size, .ref (zmH1 h a).objs.size] }
abbrev zmH4 (h : Heap) (a b : Addr) : Heap := (zmH3 h a b).push { cls := .type "tuple", data := .seq #[.none, .none] }
abbrev zmH5 (h : Heap) (a b : Addr) : Heap := (zmH4 h a b).push { cls := .type "zip", data := .fields #[.none, .bool false, .bool false, .ref (zmH2 h a b).objs.size, .ref (zmH3 h a b).objs.size] }
theorem meets_zipM (a b : Addr) (xs ys : Array Value) :
    Meets (Builtin.«zip.__new__» ⟨[.type "zip", .ref a, .ref b], []⟩) (fun _ R s => s.heap.IsTuple a xs ∧ s.heap.IsList b ys ∧ R (.ok (.ret (.ref (zmH4 s.heap a b).objs.size))) { s with heap := zmH5 s.heap a b }) :=
  .of_wp fun prog w A R s h => by
    obtain ⟨hp, g, d, tk, os⟩ := s
    obtain ⟨ha, hb, h⟩ := h
    have hsub := sub_zip
    have hA : Heap.IsTuple (Shared.heap ⟨hp, g, d, tk, os⟩) a xs := ha
    have hB : Heap.IsList (Shared.heap ⟨hp.push { cls := .type "tuple_iterator", data := .fields #[.ref a, .int 0 0] }, g, d, tk, os⟩) b ys := Heap.IsList.push hb _
    wp_walk using wpAny_pyIter_tuple hA, wpAny_pyIter_list hB
    exact ⟨_, rfl, h⟩
section
variable {prog : Program} {w : World} {A : Around} {E : Value → Shared → Prop} {s : Shared}
theorem call_zipM {a b : Addr} {xs ys : Array Value} {Q : Value → Shared → Prop} (ha : s.heap.IsTuple a xs) (hb : s.heap.IsList b ys)
    (h : ∀ h', StM (s.heap.objs.size + 4) (s.heap.objs.size + 2) (s.heap.objs.size + 3) s.heap.objs.size (s.heap.objs.size + 1) a b 0 h' → (∀ c o, s.heap.get? c = some o → h'.get? c = some o) → Q (.ref (s.heap.objs.size + 4)) { s with heap := h' }) :
    wpAny (model prog w) A (call (.type "zip") [.ref a, .ref b]) Q E s := by
  refine callType_new F.called_zip (by decide) (F.typeCall_zip_2 _ _) (F.newCall_zip_2 _ _) (fun obj => F.args_object_init_3 obj _ _) F.entry_zip_new (meets_zipM a b xs ys) ⟨ha, hb, ?_⟩
  have n1 : (zmH1 s.heap a).objs.size = s.heap.objs.size + 1 := Heap.size_push _ _
  have n2 : (zmH2 s.heap a b).objs.size = s.heap.objs.size + 2 := (Heap.size_push _ _).trans (by rw [n1])
  have n3 : (zmH3 s.heap a b).objs.size = s.heap.objs.size + 3 := (Heap.size_push _ _).trans (by rw [n2])
  have n4 : (zmH4 s.heap a b).objs.size = s.heap.objs.size + 4 := (Heap.size_push _ _).trans (by rw [n3])
  have k5 : (zmH5 s.heap a b).get? (zmH4 s.heap a b).objs.size = some _ := Heap.get?_push_size _ rfl
  have k4 : (zmH5 s.heap a b).get? (zmH3 s.heap a b).objs.size = some _ := Heap.get?_push_of_some _ (Heap.get?_push_size _ rfl)
  have k3 : (zmH5 s.heap a b).get? (zmH2 s.heap a b).objs.size = some _ := Heap.get?_push_of_some _ (Heap.get?_push_of_some _ (Heap.get?_push_size _ rfl))
  have k2 : (zmH5 s.heap a b).get? (zmH1 s.heap a).objs.size = some _ := Heap.get?_push_of_some _ (Heap.get?_push_of_some _ (Heap.get?_push_of_some _ (Heap.get?_push_size _ rfl)))
  have k1 : (zmH5 s.heap a b).get? s.heap.objs.size = some _ := Heap.get?_push_of_some _ (Heap.get?_push_of_some _ (Heap.get?_push_of_some _ (Heap.get?_push_of_some _ (Heap.get?_push_size _ rfl))))
  show _ ∧ _
  rw [n2, n3, n4] at k5
  rw [n3] at k4
  rw [n1, n2] at k3
  rw [n1] at k2
  rw [n4]
  have kept : ∀ c o, s.heap.get? c = some o → (zmH5 s.heap a b).get? c = some o := fun c o e => by
    iterate 5 refine Heap.get?_push_of_some _ ?_
    exact e
  exact ⟨⟨_, k5, rfl⟩, h _ ⟨k5, k3, ⟨_, _, k4⟩, ⟨_, k1, rfl, rfl⟩, ⟨_, k2, rfl, rfl⟩⟩ kept⟩
end
def iZipM (K : PySem.W.Frag) (ta : TA) : TI := fun σ H R => ta σ H fun vs H1 => ∃ a b xs ys, vs = [.ref a, .ref b] ∧ SqT K H1 a xs ∧ SqL K H1 b ys ∧ R (ItzM K a b) H1
theorem ne5 {n c : Nat} (h : c < n) : c ≠ n ∧ c ≠ n + 1 ∧ c ≠ n + 3 ∧ c ≠ n + 4 := by omega
theorem pi_zipM {X : Cx} {K : PySem.W.Frag} (hK : X.K = K) {e e2 : Expr} {ta : TA} {p pos tpos : Pos} {elts : List Expr} {kk : Nat} (hg : Gl X "zip") (hm : X.mg "zip" = none) (ha : PA X [e, e2] ta) (hs : starEach [e, e2] X.env = (false, eval e X.env) :: starEach [e2] X.env := by rfl)
    (hpl : (backTo pos (starEach [e2] X.env)).any (·.1) = false := by rfl) : PI X (.Tuple elts kk tpos) (.Call (.Name "zip" p) [e, e2] [] pos) (iZipM K ta) := by
  subst hK
  refine ⟨fun pins s σ H R I h => ?_⟩
  refine Call_ (ld_blt I hg hm PyProof.Rows.boot_zip (PyProof.Rows.callWith_type1 (thn (ha.run pos pins s σ H _ I h) fun us s1 ⟨vs, H1, I1, r1, q1⟩ => ?_) hs hpl))
  obtain ⟨a, b, xs, ys, rfl, sx, sy, q⟩ := q1
  cases r1 with
  | cons r2 r3 =>
    cases r3 with
    | cons r4 r5 =>
      cases r5
      cases r2
      cases r4
      obtain ⟨its, rv, tp, _⟩ := I1.tuple sx
      obtain ⟨jts, rw', lp, _⟩ := I1.list sy
      obtain ⟨o1, d1, _⟩ := id tp
      have al := ne5 (Heap.lt_size d1)
      have bl := ne5 lp.lt
      have D := PySem.W.ktu_apart s1.heap.objs.size a b (Heap.lt_size d1) lp.lt
      refine call_zipM (show s1.heap.IsTuple a its.toArray from tp) lp.isList fun h' st hk => wpAny_pyIter_zip st.1 ?_
      have I2 : Inv X pins σ H1 { s1 with heap := h' } := I1.kept (t' := s1.toks) hk
      refine ⟨s1.heap.objs.size + 4, [s1.heap.objs.size + 4, s1.heap.objs.size + 2, s1.heap.objs.size + 3, s1.heap.objs.size, s1.heap.objs.size + 1], _, _, H1, rfl, I2, turn_zipM D (apart_sep D al.2.2.1 bl.2.2.1 bl.1 al.2.1 al.2.2.2 bl.2.2.2) al.1 bl.2.1, st, fun c hc => ?_, q⟩
      have cl : s1.heap.objs.size ≤ c := by
        rcases in5 hc with z | z | z | z | z <;> rw [z] <;> first | exact Nat.le_refl _ | exact Nat.le_add_right _ _
      exact I1.fpOk cl (I1.hok.fresh cl)
end MB

set_option maxHeartbeats 4000000
namespace MB
open PySem PySem.Spec PyProof.Rows L2
/-! ### zip of three tuples -/
def It3 (K : PySem.W.Frag) (a b d : Addr) : It where
  go := fun i H => ∃ xs ys zs x y z, SqT K H a xs ∧ SqT K H b ys ∧ SqT K H d zs ∧ xs[i]? = some x ∧ ys[i]? = some y ∧ zs[i]? = some z
  yld := fun i H v H' => ∃ N x y z, v = .ref N ∧ H N = none ∧ H' = upd H N (.tup [x, y, z]) ∧ (∀ xs, SqT K H a xs → xs[i]? = some x) ∧ (∀ ys, SqT K H b ys → ys[i]? = some y) ∧ (∀ zs, SqT K H d zs → zs[i]? = some z)
  stop := fun i H => ∃ xs ys zs, SqT K H a xs ∧ SqT K H b ys ∧ SqT K H d zs ∧ i = min (min xs.length ys.length) zs.length
def St3z (z TI TO i1 i2 i3 a b d : Addr) (i : Nat) (h : Heap) : Prop := IsZip h z TI TO .none ∧ IsTupOf3 h TI (.ref i1) (.ref i2) (.ref i3) ∧ (∃ x y u, IsTupOf3 h TO x y u) ∧ h.IsTupleIter i1 a i ∧ h.IsTupleIter i2 b i ∧ h.IsTupleIter i3 d i
theorem in6 {c z TI TO i1 i2 i3 : Addr} (h : c ∈ [z, TI, TO, i1, i2, i3]) : c = z ∨ c = TI ∨ c = TO ∨ c = i1 ∨ c = i2 ∨ c = i3 := by simpa using h
theorem turn_zip3 {P : Program} {w : World} {K : PySem.W.Frag} {elts : List Expr} {kk : Nat} {tpos : Pos} {a b d z TI TO i1 i2 i3 : Addr} (S : ZipSep3 z TI TO i1 i2 i3 [i1, a] [i2, b] [i3, d]) (hai : a ≠ i1) (hbi : b ≠ i2) (hdi : d ≠ i3) :
    Turn P w K (.Tuple elts kk tpos) (It3 K a b d) [z, TI, TO, i1, i2, i3] z (St3z z TI TO i1 i2 i3 a b d) where
  mem := List.mem_cons_self ..
  obj := fun i h st c hc => by
    obtain ⟨q1, q2, ⟨x, y, u, q3⟩, ⟨o1, q4, _, q5⟩, ⟨o2, q6, _, q7⟩, ⟨o3, q8, _, q9⟩⟩ := st
    rcases in6 hc with e | e | e | e | e | e <;> subst e
    · exact ⟨_, q1, fun v e => nomatch e⟩
    · exact ⟨_, q2, fun v e => nomatch e⟩
    · exact ⟨_, q3, fun v e => nomatch e⟩
    · exact ⟨o1, q4, fun v e => by rw [q5] at e; cases e⟩
    · exact ⟨o2, q6, fun v e => by rw [q7] at e; cases e⟩
    · exact ⟨o3, q8, fun v e => by rw [q9] at e; cases e⟩
  keep := fun i h h' ⟨q1, q2, ⟨x, y, u, q3⟩, q4, q5, q6⟩ k =>
    ⟨k z (by simp) _ q1, k TI (by simp) _ q2, ⟨x, y, u, k TO (by simp) _ q3⟩, q4.at fun o e => k i1 (by simp) o e, q5.at fun o e => k i2 (by simp) o e, q6.at fun o e => k i3 (by simp) o e⟩
  item := by
    intro X hP hw hK hc i pins s σ H E I hf st hg
    subst hP hw hK
    obtain ⟨q1, q2, ⟨x0, y0, u0, q3⟩, q4, q5, q6⟩ := st
    obtain ⟨xs, ys, zs, x, y, t, sx, sy, sz, gx, gy, gz⟩ := hg
    obtain ⟨its, rv, tp, _⟩ := I.tuple sx
    obtain ⟨jts, rw', lp, _⟩ := I.tuple sy
    obtain ⟨kts, rz, kp, _⟩ := I.tuple sz
    obtain ⟨u, hu, ru⟩ := rv.get gx
    obtain ⟨v, hv, rv'⟩ := rw'.get gy
    obtain ⟨t', ht, rt⟩ := rz.get gz
    have zl : z < s.heap.objs.size := Heap.lt_size q1
    have hi1 : i < its.toArray.size := by
      have := (List.getElem?_eq_some_iff.mp hu).1
      simpa using this
    have hi2 : i < jts.toArray.size := by
      have := (List.getElem?_eq_some_iff.mp hv).1
      simpa using this
    have hi3 : i < kts.toArray.size := by
      have := (List.getElem?_eq_some_iff.mp ht).1
      simpa using this
    refine wpAny_pyNext_zipD3_item S (Draws.tuple (prog := X.prog) (w := X.w) (A := X.A.in1) (I.ok.hd hc) i1 a hai its.toArray) (Draws.tuple (prog := X.prog) (w := X.w) (A := X.A.in1) (I.ok.hd hc) i2 b hbi jts.toArray) (Draws.tuple (prog := X.prog) (w := X.w) (A := X.A.in1) (I.ok.hd hc) i3 d hdi kts.toArray) q1 q2 q3 ⟨q4, tp⟩ ⟨q5, lp⟩ ⟨q6, kp⟩ hi1 hi2 hi3 fun u' v' w' h' tk e1 e2 e3 z' TO' s1' s2' s3' hT hsz hk => ?_
    have eu : u' = u := by
      rw [List.getElem?_toArray, hu] at e1
      exact (Option.some.inj e1).symm
    have ev : v' = v := by
      rw [List.getElem?_toArray, hv] at e2
      exact (Option.some.inj e2).symm
    have ew : w' = t' := by
      rw [List.getElem?_toArray, ht] at e3
      exact (Option.some.inj e3).symm
    subst eu ev ew
    refine ⟨_, rfl, wpAny_letOwnedTupleGo_zip (s := { s with heap := h', toks := tk }) z' fun h'' z'' sb => ?_⟩
    have hT2 := (sb.2 _ (Nat.ne_of_gt zl)).trans hT
    have new : ObjOk X.prog X.w (upd H s.heap.objs.size (.tup [x, y, t])) h'' s.heap.objs.size (.tup [x, y, t]) := ⟨by show 3 ≤ sizeLine; decide, [u', v', w'], .cons ru (.cons rv' (.cons rt .nil)), ⟨_, hT2, rfl, _, rfl⟩⟩
    have hk2 : ∀ c o, c ∉ [z, TI, TO, i1, i2, i3] → s.heap.get? c = some o → h''.get? c = some o := fun c o hb e => by
      simp only [List.mem_cons, List.not_mem_nil, or_false, not_or] at hb
      exact (sb.2 c hb.1).trans (hk c o hb.1 hb.2.2.1 hb.2.2.2.1 hb.2.2.2.2.1 hb.2.2.2.2.2 e)
    have I1 : Inv X pins σ (upd H s.heap.objs.size (.tup [x, y, t])) { s with heap := h'', toks := tk } := I.turnedNew (t' := tk) (ch := [z, TI, TO, i1, i2, i3]) hk2 hf (Nat.le_refl _) new
    refine ⟨.ref s.heap.objs.size, _, I1, rfl, ⟨s.heap.objs.size, x, y, t, rfl, I.hok.fresh (Nat.le_refl _), rfl, fun l hl => ?_, fun l hl => ?_, fun l hl => ?_⟩, ⟨z'', (sb.2 TI S.TIz).trans (hk TI _ S.TIz S.TITO S.TIi1 S.TIi2 S.TIi3 q2), ⟨u', v', w', (sb.2 TO S.TOz).trans TO'⟩, s1'.1.at fun o e => (sb.2 i1 S.zi1.symm).trans e, s2'.1.at fun o e => (sb.2 i2 S.zi2.symm).trans e, s3'.1.at fun o e => (sb.2 i3 S.zi3.symm).trans e⟩, fun c hcm => ?_⟩
    · rw [I.tuple_inj hl sx]; exact gx
    · rw [I.tuple_inj hl sy]; exact gy
    · rw [I.tuple_inj hl sz]; exact gz
    · have cl : c < s.heap.objs.size := by
        obtain ⟨o1, d1, _⟩ := q4
        obtain ⟨o2, d2, _⟩ := q5
        obtain ⟨o3, d3, _⟩ := q6
        rcases in6 hcm with e | e | e | e | e | e <;> rw [e]
        · exact zl
        · exact Heap.lt_size q2
        · exact Heap.lt_size q3
        · exact Heap.lt_size d1
        · exact Heap.lt_size d2
        · exact Heap.lt_size d3
      rw [upd_ne (Nat.ne_of_lt cl)]
      exact (hf c hcm).1
  done := by
    intro X hP hw hK hc i pins s σ H E I hf st hg
    subst hP hw hK
    obtain ⟨q1, q2, ⟨x0, y0, u0, q3⟩, q4, q5, q6⟩ := st
    obtain ⟨xs, ys, zs, sx, sy, sz, gend⟩ := hg
    obtain ⟨its, rv, tp, _⟩ := I.tuple sx
    obtain ⟨jts, rw', lp, _⟩ := I.tuple sy
    obtain ⟨kts, rz, kp, _⟩ := I.tuple sz
    have e1 := rv.length
    have e2 := rw'.length
    have e3 := rz.length
    have hl1 : its.toArray.size = xs.length := by simp [e1]
    have hl2 : jts.toArray.size = ys.length := by simp [e2]
    have hl3 : kts.toArray.size = zs.length := by simp [e3]
    refine wpAny_pyNext_zipD3_end S (Draws.tuple (prog := X.prog) (w := X.w) (A := X.A.in1) (I.ok.hd hc) i1 a hai its.toArray) (Draws.tuple (prog := X.prog) (w := X.w) (A := X.A.in1) (I.ok.hd hc) i2 b hbi jts.toArray) (Draws.tuple (prog := X.prog) (w := X.w) (A := X.A.in1) (I.ok.hd hc) i3 d hdi kts.toArray) q1 q2 q3 ⟨q4, tp⟩ ⟨q5, lp⟩ ⟨q6, kp⟩ (by omega) (by omega) (by omega) (by omega) fun h' tk hk => ⟨rfl, I.turnedL (t' := tk) (ch := [z, TI, TO, i1, i2, i3]) (fun c o hb e => ?_) hf⟩
    simp only [List.mem_cons, List.not_mem_nil, or_false, not_or] at hb
    exact hk c o hb.1 hb.2.2.1 hb.2.2.2.1 hb.2.2.2.2.1 hb.2.2.2.2.2 e
  self := fun A i s Q E st h => wpAny_pyIter_zip st.1 h
/-- what three of them give -/
def YTrip (xs ys zs : Nat → Option V) : Nat → Hp → V → Hp → Prop := fun i H v H' => ∃ T x y z, v = .ref T ∧ H T = none ∧ H' = upd H T (.tup [x, y, z]) ∧ xs i = some x ∧ ys i = some y ∧ zs i = some z
theorem walk_zip3 {K : PySem.W.Frag} {a b d : Addr} {xs ys zs : List V} {n : Nat} (hn : n = min (min xs.length ys.length) zs.length) : Walk (It3 K a b d) n (fun H => SqT K H a xs ∧ SqT K H b ys ∧ SqT K H d zs) (YTrip (fun i => xs[i]?) (fun i => ys[i]?) (fun i => zs[i]?)) := by
  refine ⟨fun i H hi ⟨qx, qy, qz⟩ => ⟨xs, ys, zs, xs[i]'(by omega), ys[i]'(by omega), zs[i]'(by omega), qx, qy, qz, List.getElem?_eq_getElem (by omega), List.getElem?_eq_getElem (by omega), List.getElem?_eq_getElem (by omega)⟩, fun H ⟨qx, qy, qz⟩ => ⟨xs, ys, zs, qx, qy, qz, by omega⟩, fun i H v H' hi ⟨qx, qy, qz⟩ y => ?_⟩
  obtain ⟨T, u, z, t, e1, e2, e3, e4, e5, e6⟩ := y
  exact ⟨T, u, z, t, e1, e2, e3, e4 xs qx, e5 ys qy, e6 zs qz⟩
def iZip3 (K : PySem.W.Frag) (ta : TA) : TI := fun σ H R => ta σ H fun vs H1 => ∃ a b d xs ys zs, vs = [.ref a, .ref b, .ref d] ∧ SqT K H1 a xs ∧ SqT K H1 b ys ∧ SqT K H1 d zs ∧ R (It3 K a b d) H1
theorem pi_zip3 {X : Cx} {K : PySem.W.Frag} (hK : X.K = K) {e e2 e3 : Expr} {ta : TA} {p pos tpos : Pos} {elts : List Expr} {kk : Nat} (hg : Gl X "zip") (hm : X.mg "zip" = none) (ha : PA X [e, e2, e3] ta) (hs : starEach [e, e2, e3] X.env = (false, eval e X.env) :: starEach [e2, e3] X.env := by rfl)
    (hpl : (backTo pos (starEach [e2, e3] X.env)).any (·.1) = false := by rfl) : PI X (.Tuple elts kk tpos) (.Call (.Name "zip" p) [e, e2, e3] [] pos) (iZip3 K ta) := by
  subst hK
  refine ⟨fun pins s σ H R I h => ?_⟩
  refine Call_ (ld_blt I hg hm PyProof.Rows.boot_zip (PyProof.Rows.callWith_type1 (thn (ha.run pos pins s σ H _ I h) fun us s1 ⟨vs, H1, I1, r1, q1⟩ => ?_) hs hpl))
  obtain ⟨a, b, d, xs, ys, zs, rfl, sx, sy, sz, q⟩ := q1
  cases r1 with
  | cons r2 r3 =>
    cases r3 with
    | cons r4 r5 =>
      cases r5 with
      | cons r6 r7 =>
        cases r7
        cases r2
        cases r4
        cases r6
        obtain ⟨its, rv, tp, _⟩ := I1.tuple sx
        obtain ⟨jts, rw', lp, _⟩ := I1.tuple sy
        obtain ⟨kts, rz, kp, _⟩ := I1.tuple sz
        have al : a < s1.heap.objs.size := by obtain ⟨o1, d1, _⟩ := id tp; exact Heap.lt_size d1
        have bl : b < s1.heap.objs.size := by obtain ⟨o1, d1, _⟩ := id lp; exact Heap.lt_size d1
        have dl : d < s1.heap.objs.size := by obtain ⟨o1, d1, _⟩ := id kp; exact Heap.lt_size d1
        have S := zip_sep3 (N := s1.heap.objs.size) (fp1 := [a]) (fp2 := [b]) (fp3 := [d]) (by simpa using al) (by simpa using bl) (by simpa using dl)
        refine zip_begins3 (begins_tuple a its.toArray) (begins_tuple b jts.toArray) (begins_tuple d kts.toArray) tp lp kp fun h' z1 z2 z3 g1 g2 g3 hsz hk => wpAny_pyIter_zip z1 ?_
        have I2 : Inv X pins σ H1 { s1 with heap := h' } := I1.kept (t' := s1.toks) hk
        refine ⟨s1.heap.objs.size + 5, [s1.heap.objs.size + 5, s1.heap.objs.size + 3, s1.heap.objs.size + 4, s1.heap.objs.size, s1.heap.objs.size + 1, s1.heap.objs.size + 2], _, _, H1, rfl, I2, turn_zip3 S (Nat.ne_of_lt al) (Nat.ne_of_lt (Nat.lt_succ_of_lt bl)) (Nat.ne_of_lt (Nat.lt_succ_of_lt (Nat.lt_succ_of_lt dl))), ⟨z1, z2, ⟨_, _, _, z3⟩, ⟨_, g1, rfl, rfl⟩, ⟨_, g2, rfl, rfl⟩, ⟨_, g3, rfl, rfl⟩⟩, fun c hc => ?_, q⟩
        have cl : s1.heap.objs.size ≤ c := by
          rcases in6 hc with z | z | z | z | z | z <;> rw [z] <;> first | exact Nat.le_refl _ | exact Nat.le_add_right _ _
        exact I1.fpOk cl (I1.hok.fresh cl)
end MB

set_option maxHeartbeats 4000000
namespace MB
open PySem PySem.Spec PyProof.Rows L2
/-! ### a tuple from its end: t[::-1] -/
theorem adj_rev (n : Nat) : Builtin.Slice.sliceAdjust none none (-1) (n : Int) = ((n : Int) - 1, -1) := rfl
theorem places_rev (n : Nat) : Builtin.Slice.slicePlaces ((n : Int) - 1) (-1) (-1) = n := by
  unfold Builtin.Slice.slicePlaces
  have h1 : ¬ ((-1 : Int) > 0) := by omega
  simp only [h1, if_false]
  have h2 : -(-1 : Int) = 1 := by decide
  rw [h2, Int.ediv_one]
  split <;> omega
theorem pick_rev (xs : Array Value) : ((List.range xs.size).filterMap fun (k : Nat) => xs[(((xs.size : Int) - 1) + (k : Int) * (-1)).toNat]?).toArray = xs.toList.reverse.toArray := by
  congr 1
  have key : ∀ k, k < xs.size → xs[(((xs.size : Int) - 1) + (k : Int) * (-1)).toNat]? = some (xs.toList.reverse.getD k .none) := fun k hk => by
    have e : (((xs.size : Int) - 1) + (k : Int) * (-1)).toNat = xs.size - 1 - k := by omega
    have hl : k < xs.toList.reverse.length := by simpa using hk
    rw [e, List.getD_eq_getElem?_getD, List.getElem?_eq_getElem hl, Option.getD_some, List.getElem_reverse]
    rw [Array.getElem?_eq_getElem (by omega)]
    simp
  have h2 : (List.range xs.size).filterMap (fun (k : Nat) => xs[(((xs.size : Int) - 1) + (k : Int) * (-1)).toNat]?) = (List.range xs.size).map fun k => xs.toList.reverse.getD k .none := by
    have aux : ∀ (l : List Nat), (∀ k, k ∈ l → k < xs.size) → l.filterMap (fun (k : Nat) => xs[(((xs.size : Int) - 1) + (k : Int) * (-1)).toNat]?) = l.map fun k => xs.toList.reverse.getD k .none := by
      intro l
      induction l with
      | nil => intro _; rfl
      | cons a l ih =>
        intro h
        rw [List.filterMap_cons, key a (h a (List.mem_cons_self ..)), ih fun k hk => h k (List.mem_cons_of_mem _ hk)]
        rfl
    exact aux _ fun k hk => List.mem_range.mp hk
  rw [h2]
  refine List.ext_getElem (by simp) fun k h3 h4 => ?_
  rw [List.getElem_map, List.getElem_range, List.getD_eq_getElem?_getD, List.getElem?_eq_getElem h4, Option.getD_some]
section
variable {prog : Program} {w : World} {A : Around} {E : Value → Shared → Prop} {s : Shared}
theorem applied_rev {sl : Addr} {vl vu vs : Value} {n : Nat} {Q : Int × Int × Nat → Shared → Prop} (hs : s.heap.IsSliceOf sl vl vu vs) (pl : IsPart vl none) (pu : IsPart vu none) (ps : IsPart vs (some (-1)))
    (h : Q ((n : Int) - 1, -1, n) s) : wpAny (model prog w) A (Builtin.Slice.sliceApplied (.ref sl) (pure (n : Int))) Q E s := by
  obtain ⟨os, hos, hcs, hds⟩ := id hs
  unfold Builtin.Slice.sliceApplied Builtin.Slice.sliceFields
  refine wpAny_bind (wpAny_bind (wpAny_field hos hds (x := vl) rfl (wpAny_bind (wpAny_field hos hds (x := vu) rfl (wpAny_bind (wpAny_field hos hds (x := vs) rfl (wpAny_pure ?_)))))))
  refine wpAny_bind (HT.slicePart_ ps ?_)
  show wpAny _ _ (if ((-1 : Int) == 0) = true then _ else _) _ _ s
  rw [if_neg (by decide)]
  refine wpAny_bind (HT.slicePart_ pl (wpAny_bind (HT.slicePart_ pu (wpAny_bind (wpAny_pure ?_)))))
  show wpAny _ _ (match Builtin.Slice.sliceAdjust none none (-1) (n : Int) with | (lo, hi) => pure (lo, (-1 : Int), Builtin.Slice.slicePlaces lo hi (-1))) _ _ s
  rw [adj_rev]
  show wpAny _ _ (pure ((n : Int) - 1, (-1 : Int), Builtin.Slice.slicePlaces ((n : Int) - 1) (-1) (-1))) _ _ s
  rw [places_rev]
  exact wpAny_pure h
theorem getItem_rev {t sl : Addr} {items : Array Value} {vl vu vs : Value} {Q : Value → Shared → Prop} (ht : IsTup s.heap t items) (hs : s.heap.IsSliceOf sl vl vu vs) (pl : IsPart vl none) (pu : IsPart vu none) (ps : IsPart vs (some (-1)))
    (h : Q (.ref s.heap.objs.size) { s with heap := s.heap.push { cls := .type "tuple", data := .seq items.toList.reverse.toArray } }) (hsz : items.size ≤ sizeLine) : wpAny (model prog w) A (getItem (.ref t) (.ref sl)) Q E s := by
  have hok : sizeOk (.seq items.toList.reverse.toArray) := by
    show items.toList.reverse.toArray.size ≤ sizeLine
    simpa using hsz
  obtain ⟨os, hos, hcs, hds⟩ := id hs
  have hTs : s.TypeIs (.ref sl) "slice" := ⟨os, hos, hcs⟩
  unfold getItem
  (try with_reducible refine wpAny_holding ?_)
  (first | refine wpAny_bind (wpAny_pure ?_) | skip)
  refine wpAny_bind (wpAny_sequenceKey ht.typeIs (by decide) (wpAny_bind (wpAny_callSpecial?_slot (name := Str.ofString "__getitem__") ht.typeIs PyProof.Rows.slot_tuple_getitem (wpAny_call_entry PyProof.Rows.slot_tuple_getitem ht.typeIs entry_tuple_getitem ?_ (args_tuple_getitem _ _)))))
  show wpAny _ _ (Builtin.Tuple.tupleItemsOf (.ref t) >>= _) _ _ s
  refine wpAny_bind (tupleItemsOf_ ht (wpAny_bind (wpAny_typeOf hTs ?_)))
  rw [if_pos (by decide)]
  refine wpAny_bind (applied_rev hs pl pu ps ?_)
  show wpAny _ _ (if (((items.size : Int) - 1) == 0 && (-1 : Int) == 1 && items.size == items.size) = true then _ else _) _ _ s
  rw [if_neg (by simp), pick_rev]
  exact wpAny_bind (m := Builtin.Tuple.tupleExact _) (wpAny_newObj_type (wpAny_pure ⟨_, rfl, wpAny_pure h⟩) hok)
end
def tRevT (K : PySem.W.Frag) (te : TE) : TE := fun σ H Q => te σ H fun x H1 => ∃ a xs, x = .ref a ∧ SqT K H1 a xs ∧ ∀ p, H1 p = none → Q (.ref p) (upd H1 p (.tup xs.reverse))
theorem pe_revT {X : Cx} {K : PySem.W.Frag} (hK : X.K = K) {e : Expr} {te : TE} {k : Nat} {p1 p2 p3 pos : PySem.Pos} (he : PE X e te) : PE X (.Subscript e (.Slice none none (some (.UnaryOp .USub (.Constant (.int 1) k p1) p2)) p3) pos) (tRevT K te) := by
  subst hK
  refine ⟨fun pins s σ H Q I h => ?_⟩
  refine Subscript_ (thn (he.run pins s σ H _ I h) fun v s1 ⟨x, H1, I1, r1, q1⟩ => ?_)
  obtain ⟨a, xs, rfl, hx, q⟩ := q1
  cases r1
  have hst : PO X (some (.UnaryOp .USub (.Constant (.int 1) k p1) p2)) (tPart (tUn (rU fun i => .int (-i)) (tC (.int 1)))) := po_some (pe_un un_neg pe_int)
  refine wpAny_Slice (thn (po_none.run pins s1 σ H1 (fun o H2 => o = none ∧ H2 = H1) I1 ⟨rfl, rfl⟩) fun vl s2 ⟨lo, H2, I2, pl, elo, eH⟩ => ?_)
  cases elo; cases eH
  refine thn (po_none.run pins s2 σ H1 (fun o H3 => o = none ∧ H3 = H1) I2 ⟨rfl, rfl⟩) fun vu s3 ⟨hi, H3, I3, pu, ehi, eH⟩ => ?_
  cases ehi; cases eH
  refine thn (hst.run pins s3 σ H1 (fun o H4 => o = some (-1) ∧ H4 = H1) I3 ⟨1, rfl, -1, rfl, rfl, rfl⟩) fun vs s4 ⟨st, H4, I4, ps, est, eH⟩ => ?_
  cases est; cases eH
  have I5 : Inv X pins σ H1 { s4 with heap := s4.heap.push { cls := .type "slice", data := .fields #[vl, vu, vs] } } := I4.kept (t' := s4.toks) fun b ob e => Heap.get?_push_of_some _ e
  obtain ⟨its, r, ht, hz⟩ := I5.tuple hx
  have hlen := r.length
  show wpAny (model X.prog X.w) X.A (subscriptTail e (.Slice none none (some (.UnaryOp .USub (.Constant (.int 1) k p1) p2)) p3) (.ref a) (.ref s4.heap.objs.size)) (EP X pins σ Q) X.xe { s4 with heap := s4.heap.push { cls := .type "slice", data := .fields #[vl, vu, vs] } }
  refine tail_any (ops := [.ref a, .ref s4.heap.objs.size]) ht.typeIs (PyProof.Rows.slot_tuple_getitem.lookup) ?_ (by with_unfolding_all rfl)
  refine getItem_rev ht (Heap.IsSliceOf.new _ vl vu vs) pl pu ps ?_ (by rw [List.size_toArray]; omega)
  refine ⟨.ref _, _, I5.laid (t' := s4.toks) (o := .tup xs.reverse) (fun b ob e => Heap.get?_push_of_some _ e) (Nat.le_refl _) ?_, rfl, q _ (I5.hok.fresh (Nat.le_refl _))⟩
  exact ⟨by rw [List.length_reverse]; exact hz, its.reverse, r.reverse, IsTup.new _ _⟩
end MB

set_option maxHeartbeats 4000000
namespace MB
open PySem PySem.Spec PyProof.Rows L2
/-! ### a tuple times a number from 1 on -/
theorem tuple_mul1 (l : Addr) (items : Array Value) (n : Nat) (dd : Option Addr) (sl : Array (Option Value)) (u : Tok) :
    Meets (Builtin.«tuple.__mul__» ⟨[.ref l, .int 1 u], []⟩) (fun _ R s => s.heap.get? l = some { cls := .type "tuple", dict := dd, data := .seq items n, slots := sl } ∧ R (.ok (.ret (Value.ref l))) s) :=
  .of_wp fun prog w A R s h => by
    obtain ⟨hp, g, d, tk, os⟩ := s
    obtain ⟨hl, h⟩ := h
    have f1 := AutoSeq1.idx_int
    have c1 : (items.isEmpty || ((1 : Int) == 1)) = true := by simp
    wp_walk using wpAny_loadPart' hl
    exact ⟨_, rfl, h⟩
def rRepQ (K : PySem.W.Frag) : R2 := fun x y H Q => ∃ l k xs, x = .ref l ∧ y = .int k ∧ SqT K H l xs ∧ xs ≠ [] ∧ 1 ≤ k ∧ k ≤ 1000 ∧ xs.length ≤ 1000 ∧ (k = 1 → Q (.ref l) H) ∧ ∀ p, H p = none → Q (.ref p) (upd H p (.tup (List.replicate k.toNat xs).flatten))
theorem op_repQ {X : Cx} : OpR X (binaryOp .Mult) (rRepQ X.K) := by
  intro pins s σ H x y v u Q I rx ry h
  obtain ⟨l, k, xs, rfl, rfl, hT, hne, g1, g2, hz, q1, q⟩ := h
  by_cases hk : k = 1
  · subst hk
    cases rx
    obtain ⟨t, rfl⟩ := ry
    obtain ⟨its, r, ⟨⟨cls, dd, data, sl⟩, ho, hc, n, hd⟩, hs⟩ := I.tuple hT
    simp only at hc hd
    subst hc hd
    refine wpAny_binaryOp_repeat_ref (T := "tuple") (U := "int") (by decide) ⟨_, ho, rfl⟩ (fun s' => typeIs_int s' 1 t) noFill_tuple_mul F.fills_int_mul F.slot_int_rmul repeat_tuple F.slot_int_index.lookup (call_meets F.slot_int_rmul (typeIs_int s 1 t) F.entry_int_rmul (F.args_int_rmul_2 _ _) (int_rmul_tuple 1 t l its.toArray n dd sl) ⟨ho, rfl, ⟨_, ho, rfl⟩, ?_⟩)
    exact call_meets F.slot_tuple_mul ⟨_, ho, rfl⟩ F.entry_tuple_mul (F.args_tuple_mul_2 _ _) (tuple_mul1 l its.toArray n dd sl t) ⟨ho, .ref l, H, I, rfl, q1 rfl⟩
  · exact op_repT pins s σ H _ _ v u Q I rx ry ⟨l, k, xs, rfl, rfl, hT, hne, by omega, g2, hz, q⟩
theorem rep_read {K : PySem.W.Frag} {H : Hp} {l : Addr} {k : Int} {xs : List V} {Q : VK} (h : SqT K H l xs) (hn : xs ≠ []) (h1 : 1 ≤ k) (h2 : k ≤ 1000) (hz : xs.length ≤ 1000) (q : ∀ p H', Same H H' → SqT K H' p (List.replicate k.toNat xs).flatten → Q (.ref p) H') : rRepQ K (.ref l) (.int k) H Q := by
  refine ⟨l, k, xs, rfl, rfl, h, hn, h1, h2, hz, fun e => q l H (Same.refl H) ?_, fun p np => q p _ (same_upd np) (.inl (.inl upd_same))⟩
  rw [e]
  simpa using h
end MB

set_option maxHeartbeats 4000000
namespace MB
open PySem PySem.Spec PyProof.Rows L2
/-! ### a tuple times a number from 0 on -/
theorem tuple_mul0 (l : Addr) (items : Array Value) (n : Nat) (dd : Option Addr) (sl : Array (Option Value)) (u : Tok) (hi : items.isEmpty = false) :
    Meets (Builtin.«tuple.__mul__» ⟨[.ref l, .int 0 u], []⟩) (fun _ R s => s.heap.get? l = some { cls := .type "tuple", dict := dd, data := .seq items n, slots := sl } ∧
      R (.ok (.ret (Value.ref s.heap.objs.size))) { s with heap := s.heap.push { cls := Value.type "tuple", data := Data.seq #[] } }) :=
  .of_wp fun prog w A R s h => by
    obtain ⟨hp, g, d, tk, os⟩ := s
    obtain ⟨hl, h⟩ := h
    have f1 := AutoSeq1.idx_int
    have c1 : (items.isEmpty || ((0 : Int) == 1)) = false := by rw [hi]; rfl
    have c2 : (decide ((0 : Int) ≤ 0) || items.isEmpty) = true := by simp
    wp_walk using wpAny_loadPart' hl
    repeat (first
      | (refine wpAny_ite_false (decide_eq_false (by rw [c1]; exact Bool.false_ne_true)) ?_; wp_walk using wpAny_loadPart' hl)
      | (refine wpAny_ite_true (decide_eq_true c2) ?_; wp_walk using wpAny_loadPart' hl))
    exact ⟨_, rfl, h⟩
def rRepZ (K : PySem.W.Frag) : R2 := fun x y H Q => ∃ l k xs, x = .ref l ∧ y = .int k ∧ SqT K H l xs ∧ xs ≠ [] ∧ 0 ≤ k ∧ k ≤ 1000 ∧ xs.length ≤ 1000 ∧ (k = 1 → Q (.ref l) H) ∧ ∀ p, H p = none → Q (.ref p) (upd H p (.tup (List.replicate k.toNat xs).flatten))
theorem op_repZ {X : Cx} : OpR X (binaryOp .Mult) (rRepZ X.K) := by
  intro pins s σ H x y v u Q I rx ry h
  obtain ⟨l, k, xs, rfl, rfl, hT, hne, g1, g2, hz, q1, q⟩ := h
  by_cases hk : k = 0
  · subst hk
    cases rx
    obtain ⟨t, rfl⟩ := ry
    obtain ⟨its, r, ⟨⟨cls, dd, data, sl⟩, ho, hc, n, hd⟩, hs⟩ := I.tuple hT
    simp only at hc hd
    subst hc hd
    have hle : its.length = xs.length := r.length.symm
    have hi : its.toArray.isEmpty = false := by
      cases its with
      | nil => exact absurd (List.eq_nil_of_length_eq_zero hle.symm) hne
      | cons a b => rfl
    refine wpAny_binaryOp_repeat_ref (T := "tuple") (U := "int") (by decide) ⟨_, ho, rfl⟩ (fun s' => typeIs_int s' 0 t) noFill_tuple_mul F.fills_int_mul F.slot_int_rmul repeat_tuple F.slot_int_index.lookup (call_meets F.slot_int_rmul (typeIs_int s 0 t) F.entry_int_rmul (F.args_int_rmul_2 _ _) (int_rmul_tuple 0 t l its.toArray n dd sl) ⟨ho, rfl, ⟨_, ho, rfl⟩, ?_⟩)
    refine call_meets F.slot_tuple_mul ⟨_, ho, rfl⟩ F.entry_tuple_mul (F.args_tuple_mul_2 _ _) (tuple_mul0 l its.toArray n dd sl t hi) ⟨ho, ?_⟩
    refine ⟨.ref s.heap.objs.size, _, I.laid (t' := s.toks) (o := .tup []) (fun b ob q => Heap.get?_push_of_some _ q) (Nat.le_refl _) ?_, rfl, q _ (I.hok.fresh (Nat.le_refl _))⟩
    exact ⟨Nat.zero_le _, [], .nil, IsTup.new _ _⟩
  · exact op_repQ pins s σ H _ _ v u Q I rx ry ⟨l, k, xs, rfl, rfl, hT, hne, by omega, g2, hz, q1, q⟩
theorem k_repZ {X : Cx} {K : PySem.W.Frag} (hK : X.K = K) : OpR X (binaryOp .Mult) (rRepZ K) := by subst hK; exact op_repZ
theorem repZ_read {K : PySem.W.Frag} {H : Hp} {l : Addr} {k : Nat} {xs : List V} {Q : VK} (h : SqT K H l xs) (hn : xs ≠ []) (h2 : k ≤ 1000) (hz : xs.length ≤ 1000) (q : ∀ p H', Same H H' → SqT K H' p (List.replicate k xs).flatten → Q (.ref p) H') : rRepZ K (.ref l) (.int (k : Int)) H Q := by
  refine ⟨l, (k : Int), xs, rfl, rfl, h, hn, by omega, by omega, hz, fun e => q l H (Same.refl H) ?_, fun p np => q p _ (same_upd np) (by rw [Int.toNat_natCast]; exact .inl (.inl upd_same))⟩
  have : k = 1 := by omega
  rw [this]
  simpa using h
end MB

set_option maxHeartbeats 4000000
namespace MB
open PySem PySem.Spec PyProof.Rows L2
/-! ### dicts whose keys are tuples of ints, by the data of the keys -/
abbrev KX := List (List Int × Addr × V)
def RX : KX → List (List Int × Addr × Value) → Prop := Paired fun p q => p.1 = q.1 ∧ p.2.1 = q.2.1 ∧ RelV p.2.2 q.2.2
def kvX (L : KX) : List (List Int × V) := L.map fun x => (x.1, x.2.2)
def putX (L : KX) (k : List Int) (b : Addr) (v : V) : KX :=
  if ((kvX L).any fun kv => decide (kv.1 = k)) = true then L.map (fun x => if x.1 = k then (x.1, x.2.1, v) else x) else L ++ [(k, b, v)]
theorem kvX_put (L : KX) (k : List Int) (b : Addr) (v : V) : kvX (putX L k b v) = putK (kvX L) k v := by
  unfold putX putK
  split
  · unfold kvX
    rw [List.map_map, List.map_map]
    refine List.map_congr_left fun x _ => ?_
    by_cases h : x.1 = k <;> simp [h]
  · simp [kvX]
theorem putX_key {L : KX} {k : List Int} {b : Addr} {v : V} {x : List Int × Addr × V} (h : x ∈ putX L k b v) : (∃ y ∈ L, x.1 = y.1 ∧ x.2.1 = y.2.1) ∨ (x.1 = k ∧ x.2.1 = b) := by
  unfold putX at h
  split at h
  · obtain ⟨y, hy, rfl⟩ := List.mem_map.mp h
    refine .inl ⟨y, hy, ?_⟩
    split <;> exact ⟨rfl, rfl⟩
  · rcases List.mem_append.mp h with h | h
    · exact .inl ⟨x, h, rfl, rfl⟩
    · simp only [List.mem_singleton] at h
      subst h
      exact .inr ⟨rfl, rfl⟩
theorem RX.val {L : KX} {xs : List (List Int × Addr × Value)} (r : RX L xs) (k : List Int) : RelO (valV (kvX L) k) ((atKey xs k).map (·.2)) := by
  unfold RX at r
  induction r with
  | nil => exact True.intro
  | @cons p q ps qs h t ih =>
    obtain ⟨h1, _, h2⟩ := h
    show RelO (valV ((p.1, p.2.2) :: kvX ps) k) _
    by_cases e : p.1 = k
    · have e' : q.1 = k := h1.symm.trans e
      have b : atKey (q :: qs) k = some q.2 := by simp [atKey, List.find?_cons, e']
      rw [valV_pos (p := (p.1, p.2.2)) e, b]; exact h2
    · have e' : ¬ q.1 = k := fun z => e (h1.trans z)
      have b : atKey (q :: qs) k = atKey qs k := by simp [atKey, List.find?_cons, e']
      rw [valV_neg (p := (p.1, p.2.2)) e, b]; exact ih
theorem RX.repl {L : KX} {xs : List (List Int × Addr × Value)} (r : RX L xs) (k : List Int) {y : V} {u : Value} (ry : RelV y u) :
    RX (L.map fun x => if x.1 = k then (x.1, x.2.1, y) else x) (xs.map (putAt k u)) := by
  unfold RX at r ⊢
  induction r with
  | nil => exact .nil
  | @cons p q ps qs h t ih =>
    rw [List.map_cons, List.map_cons]
    refine .cons ?_ ih
    obtain ⟨h1, h2, h3⟩ := h
    unfold putAt
    by_cases e : p.1 = k
    · rw [if_pos e, if_pos (h1.symm.trans e)]; exact ⟨h1, h2, ry⟩
    · rw [if_neg e, if_neg (fun z => e (h1.trans z))]; exact ⟨h1, h2, h3⟩
theorem RX.put {L : KX} {xs : List (List Int × Addr × Value)} (r : RX L xs) (k : List Int) {b : Addr} {y : V} {u : Value} (ry : RelV y u) : RX (putX L k b y) (storedH xs k b u) := by
  have e : ((kvX L).any fun kv => decide (kv.1 = k)) = (atKey xs k).isSome := by
    rw [valV_any, (r.val k).isSome_eq, Option.isSome_map]
  unfold putX storedH
  rw [e]
  by_cases q : (atKey xs k).isSome = true
  · rw [if_pos q, if_pos q]; exact r.repl k ry
  · rw [if_neg q, if_neg q]; exact Paired.snoc r ⟨rfl, rfl, ry⟩
theorem RX.len {L : KX} {xs : List (List Int × Addr × Value)} (r : RX L xs) : L.length = xs.length := Paired.length r
theorem kvX_len (L : KX) : (kvX L).length = L.length := by simp [kvX]
def DX0 (P : Program) (w : World) (h : Heap) (d : Addr) (L : KX) : Prop := L.length ≤ sizeLine ∧ (d == sysModules) = false ∧ ∃ xs, RX L xs ∧
  ∃ o es ep, h.get? d = some o ∧ o.ExactDict ∧ o.data = .dict es ep ∧ es.toList = xs.map (entryOfKey (tupleKind (intKind P w))) ∧ (xs.map (·.1)).Nodup
def DXO (P : Program) (w : World) (d : Addr) (L : KX) : HO := .ext fun h => DX0 P w h d L
theorem dx_new {P : Program} {w : World} {H : Hp} {h : Heap} {d : Addr} {L : KX} (R : DX0 P w h d L) : ObjOk P w H h d (DXO P w d L) := by
  have ⟨z, y, xs, r, o, es, ep, ho, q⟩ := R
  refine ⟨R, ⟨o, ho⟩, fun h1 h2 p k => ?_⟩
  have ⟨z', y', xs', r', o', es', ep', ho', q'⟩ := p
  exact ⟨z', y', xs', r', o', es', ep', k o' ho', q'⟩
/-- at d stands a dict with the keys and values kvs -/
def DN (K : PySem.W.Frag) (P : Program) (w : World) (H : Hp) (d : Addr) (kvs : List (List Int × V)) : Prop :=
  ∃ L : KX, H d = some (DXO P w d L) ∧ (∀ x ∈ L, SqT K H x.2.1 (x.1.map V.int)) ∧ kvX L = kvs
theorem DN.same {K : PySem.W.Frag} {P : Program} {w : World} {H H' : Hp} {d : Addr} {kvs : List (List Int × V)} (g : DN K P w H d kvs) (s : Same H H') : DN K P w H' d kvs := by
  obtain ⟨L, h1, h2, h3⟩ := g
  exact ⟨L, s _ _ h1, fun x hx => Same.tup s (h2 x hx), h3⟩
theorem DN.keep {K : PySem.W.Frag} {P : Program} {w : World} {H H' : Hp} {d : Addr} {kvs : List (List Int × V)} (g : DN K P w H d kvs) (s : Keep K H H') (e : ∀ o, H d = some o → H' d = some o) : DN K P w H' d kvs := by
  obtain ⟨L, h1, h2, h3⟩ := g
  exact ⟨L, e _ h1, fun x hx => s _ _ (h2 x hx), h3⟩
/-- what is not at d stays, tuples stay -/
theorem keep_updX {K : PySem.W.Frag} {P : Program} {w : World} {H : Hp} {d : Addr} {L L' : KX} (h : H d = some (DXO P w d L)) : Keep K H (upd H d (DXO P w d L')) := fun a xs hs => by
  rcases hs with (hs | ⟨o, hs⟩) | hs
  · exact .inl (.inl (by rw [upd_ne (fun e => by rw [e, h] at hs; cases hs)]; exact hs))
  · exact .inl (.inr ⟨o, by rw [upd_ne (fun e => by rw [e, h] at hs; cases hs)]; exact hs⟩)
  · exact .inr hs
section
variable {X : Cx} {pins : List (Addr × Obj)} {σ : L2.St} {H : Hp} {s : Shared} {d a b : Addr} {kvs : List (List Int × V)} {k : List Int} {A : Around} {E : Value → Shared → Prop}
theorem DN.at (I : Inv X pins σ H s) (g : DN X.K X.prog X.w H d kvs) : (d == sysModules) = false ∧ ∃ (L : KX) (xs : List (List Int × Addr × Value)), H d = some (DXO X.prog X.w d L) ∧ (∀ x ∈ L, SqT X.K H x.2.1 (x.1.map V.int)) ∧ kvX L = kvs ∧ RX L xs ∧ L.length ≤ sizeLine ∧ s.heap.DictOfH (tupleKind (intKind X.prog X.w)) d xs := by
  obtain ⟨L, h1, h2, h3⟩ := g
  obtain ⟨⟨z, y, xs, r, o, es, ep, ho, hc, hd, he, hn⟩, _⟩ := (show ObjOk X.prog X.w H s.heap d (DXO X.prog X.w d L) from I.hok d _ h1)
  refine ⟨y, L, xs, h1, h2, h3, r, z, o, es, ep, ho, hc, hd, he, ?_, hn⟩
  have all : ∀ {l : KX} {m : List (List Int × Addr × Value)}, RX l m → (∀ x ∈ l, SqT X.K H x.2.1 (x.1.map V.int)) → ∀ x ∈ m, (tupleKind (intKind X.prog X.w)).is s.heap x.1 x.2.1 := by
    intro l m q
    unfold RX at q
    induction q with
    | nil => intro _ x hx; exact nomatch hx
    | @cons p q ps qs hq t ih =>
      intro hl x hx
      rcases List.mem_cons.mp hx with e | hx
      · subst e
        have := I.isT (hl p (List.mem_cons_self ..))
        rw [hq.1, hq.2.1] at this
        exact this
      · exact ih (fun x hx => hl x (List.mem_cons_of_mem _ hx)) x hx
  exact all r h2
theorem DN.typeIs (I : Inv X pins σ H s) (g : DN X.K X.prog X.w H d kvs) : s.TypeIs (.ref d) "dict" := by
  obtain ⟨_, _, _, _, _, _, _, _, dd⟩ := g.at I
  exact dd.typeIs
theorem DN.noDict (I : Inv X pins σ H s) (g : DN X.K X.prog X.w H d kvs) : ∀ b, Value.ref d = .ref b → ∃ ob, s.heap.get? b = some ob ∧ ob.dict = none := fun b q => by
  cases q
  obtain ⟨_, _, _, _, _, _, _, _, ob, _, _, h1, h2, _⟩ := g.at I
  exact ⟨ob, h1, h2.2.1⟩
theorem n_getItem {v : V} {Q : Value → Shared → Prop} (hu : A.units + 1 < cLine) (I : Inv X pins σ H s) (g : DN X.K X.prog X.w H d kvs) (hk : SqT X.K H b (k.map V.int)) (hv : valV kvs k = some v) (h : ∀ w' s', Inv X pins σ H s' → RelV v w' → Q w' s') :
    wpAny (model X.prog X.w) A (getItem (.ref d) (.ref b)) Q E s := by
  obtain ⟨hd, L, xs, _, _, e, r, _, dd⟩ := g.at I
  obtain ⟨w', hw, rw'⟩ := RelO.some_of (v := v) (o := (atKey xs k).map (·.2)) (by rw [← hv, ← e]; exact r.val k)
  obtain ⟨p, hp, hp2⟩ := Option.map_eq_some_iff.mp hw
  refine wpAny_getItem_heap (tupleKind_room_in1 hu) (I.isT hk) dd hp ?_
  rw [hp2]
  exact h w' _ (I.tok _) rw'
theorem n_in {Q : Value → Shared → Prop} (hu : A.units + 1 < cLine) (I : Inv X pins σ H s) (g : DN X.K X.prog X.w H d kvs) (hk : SqT X.K H b (k.map V.int)) (h : ∀ s', Inv X pins σ H s' → Q (.bool (valV kvs k).isSome) s') :
    wpAny (model X.prog X.w) A (compareOp .In (.ref b) (.ref d)) Q E s := by
  obtain ⟨hd, L, xs, _, _, e, r, _, dd⟩ := g.at I
  refine wpAny_in_heap (tupleKind_room_in1 hu) (I.isT hk) hd dd ?_
  have q := (r.val k).isSome_eq
  rw [Option.isSome_map, e] at q
  rw [← q]
  exact h _ (I.tok _)
theorem n_notIn {Q : Value → Shared → Prop} (hu : A.units + 1 < cLine) (I : Inv X pins σ H s) (g : DN X.K X.prog X.w H d kvs) (hk : SqT X.K H b (k.map V.int)) (h : ∀ s', Inv X pins σ H s' → Q (.bool (!(valV kvs k).isSome)) s') :
    wpAny (model X.prog X.w) A (compareOp .NotIn (.ref b) (.ref d)) Q E s := by
  obtain ⟨hd, L, xs, _, _, e, r, _, dd⟩ := g.at I
  refine wpAny_notIn_heap (tupleKind_room_in1 hu) (I.isT hk) hd dd ?_
  have q := (r.val k).isSome_eq
  rw [Option.isSome_map, e] at q
  rw [← q]
  exact h _ (I.tok _)
theorem n_get1 {Q : Value → Shared → Prop} (hu : A.units + 1 < cLine) (I : Inv X pins σ H s) (g : DN X.K X.prog X.w H d kvs) (hk : SqT X.K H b (k.map V.int)) (h : ∀ w' s', Inv X pins σ H s' → RelV ((valV kvs k).getD .non) w' → Q w' s') :
    wpAny (model X.prog X.w) A (call (.builtin "dict.get") [.ref d, .ref b]) Q E s := by
  obtain ⟨hd, L, xs, _, _, e, r, _, dd⟩ := g.at I
  refine call_meetsIn PySem.F.slot_dict_get dd.typeIs PySem.F.entry_dict_get (PySem.F.args_dict_get_2 _ _) (meetsH_dict_get (tupleKind (intKind X.prog X.w)) d b hd) ⟨tupleKind_room_in1 hu, k, xs, I.isT hk, dd, h _ _ (I.tok _) ?_⟩
  rw [← e]
  exact (r.val k).getD rfl
theorem n_get2 {z : V} {u : Value} {Q : Value → Shared → Prop} (hu : A.units + 1 < cLine) (I : Inv X pins σ H s) (g : DN X.K X.prog X.w H d kvs) (hk : SqT X.K H b (k.map V.int)) (rz : RelV z u) (h : ∀ w' s', Inv X pins σ H s' → RelV ((valV kvs k).getD z) w' → Q w' s') :
    wpAny (model X.prog X.w) A (call (.builtin "dict.get") [.ref d, .ref b, u]) Q E s := by
  obtain ⟨hd, L, xs, _, _, e, r, _, dd⟩ := g.at I
  refine call_meetsIn PySem.F.slot_dict_get dd.typeIs PySem.F.entry_dict_get (PySem.F.args_dict_get_3 _ _ _) (meetsH_dict_get_default (tupleKind (intKind X.prog X.w)) d b hd u) ⟨tupleKind_room_in1 hu, k, xs, I.isT hk, dd, h _ _ (I.tok _) ?_⟩
  rw [← e]
  exact (r.val k).getD rz
/-- the heaps behind d[k] = v -/
def DNput (K : PySem.W.Frag) (P : Program) (w : World) (H : Hp) (d : Addr) (kvs : List (List Int × V)) (k : List Int) (v : V) (R : Hp → Prop) : Prop :=
  ∀ H', (∀ c, c ≠ d → H' c = H c) → Keep K H H' → DN K P w H' d (putK kvs k v) → R H'
theorem n_setItem {v : V} {u : Value} {Q : Unit → Shared → Prop} (hu : A.units + 1 < cLine) (I : Inv X pins σ H s) (g : DN X.K X.prog X.w H d kvs) (hk : SqT X.K H b (k.map V.int)) (hl : kvs.length < sizeLine) (rv : RelV v u) (h : DNput X.K X.prog X.w H d kvs k v fun H' => ∀ s', Inv X pins σ H' s' → Q () s') :
    wpAny (model X.prog X.w) A (setItem (.ref d) (.ref b) u) Q E s := by
  obtain ⟨hd, L, xs, hL, hS, e, r, z, dd⟩ := g.at I
  have hz : xs.length ≤ sizeLine := by rw [← r.len]; exact z
  have hl2 : (putX L k b v).length ≤ sizeLine := by
    have := length_putK kvs k v
    rw [← kvX_len, kvX_put, e]
    omega
  have kp := keep_updX (K := X.K) (L' := putX L k b v) hL
  refine wpAny_setItem_heap (hsz := hz) (tupleKind_room_in1 hu) (I.isT hk) dd fun h' dd' hs => ?_
  obtain ⟨q, es, ep, hq, h2, h3, h4, _, h5⟩ := dd'
  refine h _ (fun c hc => upd_ne hc) kp ⟨putX L k b v, upd_same, fun x hx => ?_, by rw [kvX_put, e]⟩ _ (d_write I (by rw [hL]; exact True.intro) hs ⟨q, hq⟩ (dx_new ⟨hl2, hd, _, r.put k rv, q, es, ep, hq, h2, h3, h4, h5⟩))
  rcases putX_key hx with ⟨y, hy, e1, e2⟩ | ⟨e1, e2⟩
  · rw [e1, e2]; exact kp _ _ (hS y hy)
  · rw [e1, e2]; exact kp _ _ hk
end
/-! ### readings -/
def tNGet (K : PySem.W.Frag) (P : Program) (w : World) (td ty : TE) : TE := fun σ H Q => td σ H fun x H1 => ty σ H1 fun y H2 => ∃ a b kvs k v, x = .ref a ∧ y = .ref b ∧ DN K P w H2 a kvs ∧ SqT K H2 b (k.map V.int) ∧ valV kvs k = some v ∧ Q v H2
def tNIn (K : PySem.W.Frag) (P : Program) (w : World) (ty td : TE) : TE := fun σ H Q => ty σ H fun y H1 => td σ H1 fun x H2 => ∃ a b kvs k, x = .ref a ∧ y = .ref b ∧ DN K P w H2 a kvs ∧ SqT K H2 b (k.map V.int) ∧ Q (.bl (valV kvs k).isSome) H2
def tNNotIn (K : PySem.W.Frag) (P : Program) (w : World) (ty td : TE) : TE := fun σ H Q => ty σ H fun y H1 => td σ H1 fun x H2 => ∃ a b kvs k, x = .ref a ∧ y = .ref b ∧ DN K P w H2 a kvs ∧ SqT K H2 b (k.map V.int) ∧ Q (.bl (!(valV kvs k).isSome)) H2
def sNPut (K : PySem.W.Frag) (P : Program) (w : World) (td ty tv : TE) : TS := fun D σ H => tv σ H fun v H1 => td σ H1 fun x H2 => ty σ H2 fun y H3 => ∃ a b kvs k, x = .ref a ∧ y = .ref b ∧ DN K P w H3 a kvs ∧ SqT K H3 b (k.map V.int) ∧ kvs.length < sizeLine ∧ DNput K P w H3 a kvs k v fun H' => D.nx σ H'
def tNGet1 (K : PySem.W.Frag) (P : Program) (w : World) (td ty : TE) : TE := fun σ H Q => td σ H fun x H1 => ∃ a kvs, x = .ref a ∧ DN K P w H1 a kvs ∧ ty σ H1 fun y H2 => ∃ b k, y = .ref b ∧ DN K P w H2 a kvs ∧ SqT K H2 b (k.map V.int) ∧ Q ((valV kvs k).getD .non) H2
def tNGet2 (K : PySem.W.Frag) (P : Program) (w : World) (td ty tx : TE) : TE := fun σ H Q => td σ H fun x H1 => ∃ a kvs, x = .ref a ∧ DN K P w H1 a kvs ∧ ty σ H1 fun y H2 => tx σ H2 fun z H3 => ∃ b k, y = .ref b ∧ DN K P w H3 a kvs ∧ SqT K H3 b (k.map V.int) ∧ Q ((valV kvs k).getD z) H3
section
variable {X : Cx} {K : PySem.W.Frag} {P : Program} {w : World} {o i e f value : Expr} {pos pos' tpos apos cpos : Pos} {td ty tv tx : TE}
theorem pe_nget (hK : X.K = K) (hP : X.prog = P) (hw : X.w = w) (hu : X.A.units + 1 < cLine) (ho : PE X o td) (hi : PE X i ty) (hs : NoSl i) : PE X (.Subscript o i pos) (tNGet K P w td ty) := by
  subst hK hP hw
  refine ⟨fun pins s σ H Q I h => ?_⟩
  refine subD_of PySem.F.slot_dict_getitem.lookup hs (thn (ho.run pins s σ H _ I h) fun u s1 ⟨x, H1, I1, rx, q1⟩ => thn (hi.run pins s1 σ H1 _ I1 q1) fun iv s2 ⟨y, H2, I2, ry, a, b, kvs, k, v, ex, ey, g, hk, hv, q2⟩ => ?_)
  subst ex ey
  obtain rfl : u = Value.ref a := rx
  obtain rfl : iv = Value.ref b := ry
  exact ⟨g.typeIs I2, n_getItem hu I2 g hk hv fun w' s3 I3 rw' => ⟨v, H2, I3, rw', q2⟩⟩
theorem pc_nin (hK : X.K = K) (hP : X.prog = P) (hw : X.w = w) (hu : X.A.units + 1 < cLine) (hi : PE X i ty) (ho : PE X o td) : PC X .In i o (tNIn K P w ty td) := by
  subst hK hP hw
  refine ⟨fun pins s σ H Q I h => ?_⟩
  refine thn (hi.run pins s σ H _ I h) fun iv s1 ⟨y, H1, I1, ry, q1⟩ => thn (ho.run pins s1 σ H1 _ I1 q1) fun u s2 ⟨x, H2, I2, rx, a, b, kvs, k, ex, ey, g, hk, q2⟩ => ?_
  subst ex ey
  obtain rfl : u = Value.ref a := rx
  obtain rfl : iv = Value.ref b := ry
  exact n_in hu I2 g hk fun s3 I3 => ⟨.bl _, H2, I3, rfl, q2⟩
theorem pc_nnotin (hK : X.K = K) (hP : X.prog = P) (hw : X.w = w) (hu : X.A.units + 1 < cLine) (hi : PE X i ty) (ho : PE X o td) : PC X .NotIn i o (tNNotIn K P w ty td) := by
  subst hK hP hw
  refine ⟨fun pins s σ H Q I h => ?_⟩
  refine thn (hi.run pins s σ H _ I h) fun iv s1 ⟨y, H1, I1, ry, q1⟩ => thn (ho.run pins s1 σ H1 _ I1 q1) fun u s2 ⟨x, H2, I2, rx, a, b, kvs, k, ex, ey, g, hk, q2⟩ => ?_
  subst ex ey
  obtain rfl : u = Value.ref a := rx
  obtain rfl : iv = Value.ref b := ry
  exact n_notIn hu I2 g hk fun s3 I3 => ⟨.bl _, H2, I3, rfl, q2⟩
theorem ps_nput (hK : X.K = K) (hP : X.prog = P) (hw : X.w = w) (hu : X.A.units + 1 < cLine) (ho : PE X o td) (hi : PE X i ty) (hv : PE X value tv) (hs : swapsWith value (some (.Subscript o i pos')) pos.line X.env = pure false) :
    PS X (.Assign [.Subscript o i pos'] value pos) (sNPut K P w td ty tv) := by
  subst hK hP hw
  refine ⟨fun pins s σ H D I h => ?_⟩
  refine wpAny_Assign_Subscript (thn (hv.run pins s σ H _ I h) fun r s1 ⟨v, H1, I1, rv, q1⟩ => thn (ho.run pins s1 σ H1 _ I1 q1) fun u s2 ⟨x, H2, I2, rx, q2⟩ => thn (hi.run pins s2 σ H2 _ I2 q2) fun iv s3 ⟨y, H3, I3, ry, a, b, kvs, k, ex, ey, g, hk, hl, q3⟩ => ?_) hs
  subst ex ey
  obtain rfl : u = Value.ref a := rx
  obtain rfl : iv = Value.ref b := ry
  exact n_setItem hu I3 g hk hl rv fun H' h1 h2 h3 s4 I4 => ⟨σ, H', I4, q3 H' h1 h2 h3⟩
theorem pe_nget1 (hK : X.K = K) (hP : X.prog = P) (hw : X.w = w) (hu : X.A.units + 1 < cLine) (ho : PE X o td) (he : PE X e ty) (m : M1 X o "get" apos e cpos) : PE X (.Call (.Attribute o "get" apos) [e] [] cpos) (tNGet1 K P w td ty) := by
  subst hK hP hw
  refine ⟨fun pins s σ H Q I h => ?_⟩
  refine wpAny_Call_method m.base m.few m.line PySem.F.plainAttrs_dict PySem.F.slot_dict_get PySem.F.type_dict_get (thn (ho.run pins s σ H _ I h) fun u s1 ⟨x, H1, I1, rx, a, kvs, ex, d, q1⟩ => ?_)
  subst ex
  obtain rfl : u = Value.ref a := rx
  refine ⟨d.typeIs I1, d.noDict I1, ?_⟩
  rw [m.trees]
  refine Calls.callWith_builtin rfl (Calls.evalArgs_plain (Calls.spliced_cons (thn (he.run pins s1 σ H1 _ I1 q1) fun iv s2 ⟨y, H2, I2, ry, b, k, ey, g, hk, q2⟩ => Calls.spliced_nil ?_)))
  subst ey
  obtain rfl : iv = Value.ref b := ry
  exact n_get1 hu I2 g hk fun w' s3 I3 rw' => ⟨_, H2, I3, rw', q2⟩
theorem pe_nget2 (hK : X.K = K) (hP : X.prog = P) (hw : X.w = w) (hu : X.A.units + 1 < cLine) (ho : PE X o td) (he : PE X e ty) (hf : PE X f tx) (m : M2 X o "get" apos e f cpos) : PE X (.Call (.Attribute o "get" apos) [e, f] [] cpos) (tNGet2 K P w td ty tx) := by
  subst hK hP hw
  refine ⟨fun pins s σ H Q I h => ?_⟩
  refine wpAny_Call_method m.base m.few m.line PySem.F.plainAttrs_dict PySem.F.slot_dict_get PySem.F.type_dict_get (thn (ho.run pins s σ H _ I h) fun u s1 ⟨x, H1, I1, rx, a, kvs, ex, d, q1⟩ => ?_)
  subst ex
  obtain rfl : u = Value.ref a := rx
  refine ⟨d.typeIs I1, d.noDict I1, ?_⟩
  rw [m.trees]
  refine Calls.callWith_builtin rfl (Calls.evalArgs_plain (Calls.spliced_cons (thn (he.run pins s1 σ H1 _ I1 q1) fun iv s2 ⟨y, H2, I2, ry, q2⟩ =>
    Calls.spliced_cons (thn (hf.run pins s2 σ H2 _ I2 q2) fun fv s3 ⟨z, H3, I3, rz, b, k, ey, g, hk, q3⟩ => Calls.spliced_nil ?_))))
  subst ey
  obtain rfl : iv = Value.ref b := ry
  exact n_get2 hu I3 g hk rz fun w' s4 I4 rw' => ⟨_, H3, I4, rw', q3⟩
end
theorem u2_of {A : Around} {k : Nat} (hr : Room k A) : A.units + 2 < cLine := Nat.lt_of_le_of_lt (Nat.add_le_add_left (by decide : 2 ≤ 64) _) hr.units
/-! ### {} and dict(list of pairs) -/
theorem dx_empty {P : Program} {w : World} (h : Heap) (hb : sysModules < h.objs.size) : DX0 P w (h.push { cls := .type "dict", data := .dict #[] }) h.objs.size [] :=
  ⟨Nat.zero_le _, beq_eq_false_iff_ne.mpr (Ne.symm (Nat.ne_of_lt hb)), [], .nil, _, #[], 0, Heap.get?_push_size _ rfl, ⟨rfl, rfl, rfl⟩, rfl, rfl, List.nodup_nil⟩
def tNNew (K : PySem.W.Frag) (P : Program) (w : World) : TE := fun _ H Q => ∀ p H', H p = none → Same H H' → DN K P w H' p [] → Q (.ref p) H'
theorem pe_nnew {X : Cx} {K : PySem.W.Frag} {P : Program} {w : World} {pos : Pos} (hK : X.K = K) (hP : X.prog = P) (hw : X.w = w) : PE X (.Dict [] [] pos) (tNNew K P w) := by
  subst hK hP hw
  refine ⟨fun pins s σ H Q I h => ?_⟩
  have hn : H s.heap.objs.size = none := I.hok.fresh (Nat.le_refl _)
  exact wpAny_Dict_empty ⟨.ref s.heap.objs.size, _, I.laid (a := s.heap.objs.size) (o := DXO X.prog X.w s.heap.objs.size []) (t' := s.toks) (fun _ _ q => Heap.get?_push_of_some _ q) (Nat.le_refl _) (dx_new (dx_empty s.heap I.big)), rfl, h _ _ hn (same_upd hn) ⟨[], upd_same, (fun x hx => nomatch hx), rfl⟩⟩
def mergeT (kvs more : List (List Int × V)) : List (List Int × V) := more.foldl (fun acc kv => putK acc kv.1 kv.2) kvs
def allX (L M : KX) : KX := M.foldl (fun acc p => putX acc p.1 p.2.1 p.2.2) L
theorem RX.all {M : KX} {ms : List (List Int × Addr × Value)} (r : RX M ms) : ∀ {L : KX} {xs : List (List Int × Addr × Value)}, RX L xs → RX (allX L M) (storedAllH xs ms) := by
  unfold RX at r
  induction r with
  | nil => intro L xs q; exact q
  | @cons p q ps qs h t ih =>
    intro L xs hq
    show RX (allX (putX L p.1 p.2.1 p.2.2) ps) (storedAllH (storedH xs q.1 q.2.1 q.2.2) qs)
    rw [← h.1, ← h.2.1]
    exact ih (hq.put _ h.2.2)
theorem kvX_all : ∀ (M L : KX), kvX (allX L M) = mergeT (kvX L) (kvX M)
  | [], _ => rfl
  | p :: M, L => by
    show kvX (allX (putX L p.1 p.2.1 p.2.2) M) = mergeT (putK (kvX L) p.1 p.2.2) (kvX M)
    rw [kvX_all M, kvX_put]
theorem allX_key {Pr : List Int → Addr → Prop} : ∀ {M L : KX}, (∀ x ∈ L, Pr x.1 x.2.1) → (∀ x ∈ M, Pr x.1 x.2.1) → ∀ x ∈ allX L M, Pr x.1 x.2.1
  | [], _, h, _ => h
  | p :: M, L, h, hp => allX_key (M := M) (L := putX L p.1 p.2.1 p.2.2) (fun x hx => by
      rcases putX_key hx with ⟨y, hy, e1, e2⟩ | ⟨e1, e2⟩
      · rw [e1, e2]; exact h y hy
      · rw [e1, e2]; exact hp p List.mem_cons_self) fun x hx => hp x (List.mem_cons_of_mem _ hx)
theorem putX_len (L : KX) (k : List Int) (b : Addr) (v : V) : (putX L k b v).length ≤ L.length + 1 := by
  unfold putX
  split <;> simp
theorem allX_len : ∀ (M L : KX), (allX L M).length ≤ L.length + M.length
  | [], _ => Nat.le_refl _
  | p :: M, L => by
    have h1 := allX_len M (putX L p.1 p.2.1 p.2.2)
    have h2 := putX_len L p.1 p.2.1 p.2.2
    show (allX (putX L p.1 p.2.1 p.2.2) M).length ≤ _
    simp only [List.length_cons]
    omega
/-- a list of pairs (tuple of ints, value) -/
def rDictT (K : PySem.W.Frag) (P : Program) (w : World) : List V → Hp → VK → Prop := fun xs H Q => ∃ (a : Addr) (ts : List Addr) (M : KX), xs = [V.ref a] ∧ SqL K H a (ts.map V.ref) ∧ Paired (fun t m => SqT K H t [V.ref m.2.1, m.2.2] ∧ SqT K H m.2.1 (m.1.map V.int)) ts M ∧
  ∀ p H', H p = none → Same H H' → DN K P w H' p (mergeT [] (kvX M)) → Q (.ref p) H'
theorem pairsT_of {X : Cx} {pins : List (Addr × Obj)} {σ : L2.St} {H : Hp} {s : Shared} (I : Inv X pins σ H s) : ∀ {ts : List Addr} {M : KX}, Paired (fun t m => SqT X.K H t [V.ref m.2.1, m.2.2] ∧ SqT X.K H m.2.1 (m.1.map V.int)) ts M →
    ∃ ms : List (List Int × Addr × Value), RX M ms ∧ ms.length = ts.length ∧ ∀ (j : Nat) (q : List Int × Addr × Value), ms[j]? = some q → ∃ t, ts[j]? = some t ∧ IsTup s.heap t #[Value.ref q.2.1, q.2.2] ∧ IsT X.prog X.w s.heap q.1 q.2.1
  | _, _, .nil => ⟨[], .nil, rfl, fun j q e => by simp at e⟩
  | _, _, .cons (a := p) (b := m) h t => by
    obtain ⟨ms, r, hl, hp⟩ := pairsT_of I t
    obtain ⟨its, rv, ht, _⟩ := I.tuple h.1
    obtain ⟨u, y, ei, ru, ry⟩ := vals2 rv
    subst ei
    cases ru
    refine ⟨(m.1, m.2.1, y) :: ms, .cons ⟨rfl, rfl, ry⟩ r, by rw [List.length_cons, List.length_cons, hl], fun j q e => ?_⟩
    cases j with
    | zero =>
      have e' : (m.1, m.2.1, y) = q := Option.some.inj e
      subst e'
      exact ⟨p, rfl, ht, I.isT h.2⟩
    | succ j =>
      obtain ⟨b, e1, e2, e3⟩ := hp j q (by simpa using e)
      exact ⟨b, by simpa using e1, e2, e3⟩
theorem call_dictT {X : Cx} {K : PySem.W.Frag} {P : Program} {w : World} (hK : X.K = K) (hP : X.prog = P) (hw : X.w = w) (hcalm : X.calm = true) (hu : X.A.units + 2 < cLine) : CallR X (.type "dict") (rDictT K P w) := by
  subst hK hP hw
  intro pins s σ H xs us Q I r q
  obtain ⟨a, ts, M, ex, hq, hp, q⟩ := q
  subst ex
  obtain ⟨u, eu, rx⟩ := vals1 r
  subst eu
  cases rx
  obtain ⟨its, rv, pl, hz⟩ := I.list hq
  have ei := refs_at rv
  subst ei
  rw [List.length_map] at hz
  obtain ⟨ms, rel, hl, hpr⟩ := pairsT_of I hp
  obtain ⟨o, n, ho, hc, hd, hdat⟩ := pl
  have hmsM := rel.len
  have isAll : ∀ x ∈ ms, (tupleKind (intKind X.prog X.w)).is s.heap x.1 x.2.1 := fun x hx => by
    obtain ⟨j, hj⟩ := List.mem_iff_getElem?.mp hx
    obtain ⟨t, _, _, h3⟩ := hpr j x hj
    exact h3
  have hn : H s.heap.objs.size = none := I.hok.fresh (Nat.le_refl _)
  refine call_dict_pairsH (knd := tupleKind (intKind X.prog X.w)) (ps := ms) (PairArg.list a (ts.map Value.ref).toArray (fun j => ts.getD j 0) (ms.map fun m => (Value.ref m.2.1, m.2.2))) (I.ok.hd hcalm) ?_ ⟨⟨o, n, ho, hc, hd, hdat⟩, ?_, ?_⟩ ⟨?_, ?_⟩ (fun h' hk x hx => ?_) ?_ fun h' tk hd' hk => ?_
  · show X.A.in1.units + 1 < cLine
    exact hu
  · simp [hl]
  · intro j k v hj
    rw [List.getElem?_map, Option.map_eq_some_iff] at hj
    obtain ⟨m, hm, em⟩ := hj
    cases em
    obtain ⟨t, e1, e2, e3⟩ := hpr j m hm
    have et : ts.getD j 0 = t := by rw [List.getD_eq_getElem?_getD, e1]; rfl
    dsimp only
    rw [et]
    refine ⟨by simp [e1], ?_⟩
    exact .inl e2
  · simp
  · intro i key v hr
    rw [PairRel, List.getElem?_map, Option.map_eq_some_iff] at hr
    obtain ⟨m, hm, em⟩ := hr
    cases em
    exact ⟨m.1, m.2.1, hm, rfl⟩
  · have := isAll x hx
    obtain ⟨o', items, n', ho', hc', hd', hi'⟩ := (show IsTupleKey (intKind X.prog X.w) s.heap x.1 x.2.1 from this)
    exact ⟨o', items, n', hk _ _ (Nat.ne_of_lt (Heap.lt_size ho')) (fun z => nomatch z) ho', hc', hd', hi'⟩
  · rw [List.length_map, hl]; exact hz
  · have hm : (s.heap.objs.size == sysModules) = false := beq_eq_false_iff_ne.mpr (Nat.ne_of_gt I.big)
    have hlen : (allX [] M).length ≤ sizeLine := by
      refine Nat.le_trans (allX_len M []) ?_
      rw [List.length_nil, Nat.zero_add, hmsM, hl]
      exact hz
    obtain ⟨o', es, ep, h1, h2, h3, h4, _, h5⟩ := hd'
    have I2 := I.laid (t' := tk) (fun b u e => hk b u (fun z => nomatch z) e) (Nat.le_refl _) (dx_new (H := upd H s.heap.objs.size (DXO X.prog X.w s.heap.objs.size (allX [] M))) (P := X.prog) (w := X.w) (h := h') (d := s.heap.objs.size) (L := allX [] M) ⟨hlen, hm, _, RX.all rel .nil, o', es, ep, h1, h2, h3, h4, h5⟩)
    refine ⟨.ref s.heap.objs.size, _, I2, rfl, q _ _ hn (same_upd hn) ⟨allX [] M, upd_same, ?_, kvX_all M []⟩⟩
    refine allX_key (Pr := fun k b => SqT X.K (upd H s.heap.objs.size (DXO X.prog X.w s.heap.objs.size (allX [] M))) b (k.map V.int)) (fun x hx => nomatch hx) fun x hx => ?_
    have fnd : ∀ {ts : List Addr} {M : KX}, Paired (fun t m => SqT X.K H t [V.ref m.2.1, m.2.2] ∧ SqT X.K H m.2.1 (m.1.map V.int)) ts M → ∀ x ∈ M, SqT X.K H x.2.1 (x.1.map V.int) := by
      intro ts M hp
      induction hp with
      | nil => intro x hx; exact nomatch hx
      | @cons p q ps qs h t ih =>
        intro x hx
        rcases List.mem_cons.mp hx with e | hx
        · subst e; exact h.2
        · exact ih x hx
    exact Same.tup (same_upd hn) (fnd hp x hx)
end MB

set_option maxHeartbeats 4000000
namespace MB
open PySem PySem.Spec PyProof.Rows L2
/-! ### a dict as a function from keys to data -/
def OD (K : PySem.W.Frag) (H : Hp) : Option V → Option PyData → Prop
  | none, none => True
  | some v, some d => Dp K H v d
  | _, _ => False
theorem OD.same {K : PySem.W.Frag} {H H' : Hp} (s : Same H H') : ∀ {o : Option V} {d : Option PyData}, OD K H o d → OD K H' o d
  | none, none, _ => True.intro
  | some _, some _, h => Dp.same s h
  | none, some _, h => False.elim h
  | some _, none, h => False.elim h
theorem OD.keep {K : PySem.W.Frag} {H H' : Hp} (s : Keep K H H') : ∀ {o : Option V} {d : Option PyData}, (∀ x, d = some x → Tf x) → OD K H o d → OD K H' o d
  | none, none, _, _ => True.intro
  | some _, some _, t, h => Dp.keep s (t _ rfl) h
  | none, some _, _, h => False.elim h
  | some _, none, _, h => False.elim h
theorem OD.get {K : PySem.W.Frag} {H : Hp} : ∀ {o : Option V} {d : PyData}, OD K H o (some d) → ∃ v, o = some v ∧ Dp K H v d
  | some v, _, h => ⟨v, rfl, h⟩
  | none, _, h => False.elim h
theorem OD.non {K : PySem.W.Frag} {H : Hp} : ∀ {o : Option V}, OD K H o none → o = none
  | some v, h => False.elim h
  | none, h => rfl
def updT (T : List Int → Option PyData) (k : List Int) (d : PyData) : List Int → Option PyData := fun j => if j = k then some d else T j
def Tab (K : PySem.W.Frag) (P : Program) (w : World) (H : Hp) (a : Addr) (n : Nat) (T : List Int → Option PyData) : Prop :=
  ∃ kvs, DN K P w H a kvs ∧ kvs.length ≤ n ∧ (∀ k, OD K H (valV kvs k) (T k)) ∧ ∀ k d, T k = some d → Tf d
section
variable {K : PySem.W.Frag} {P : Program} {w : World} {H H' : Hp} {a b : Addr} {n : Nat} {T : List Int → Option PyData} {k : List Int} {d : PyData}
theorem Tab.same (t : Tab K P w H a n T) (s : Same H H') : Tab K P w H' a n T := by
  obtain ⟨kvs, h1, h2, h3, h4⟩ := t
  exact ⟨kvs, h1.same s, h2, fun k => (h3 k).same s, h4⟩
theorem Tab.keep (t : Tab K P w H a n T) (s : Keep K H H') (e : ∀ o, H a = some o → H' a = some o) : Tab K P w H' a n T := by
  obtain ⟨kvs, h1, h2, h3, h4⟩ := t
  exact ⟨kvs, h1.keep s e, h2, fun k => (h3 k).keep s (h4 k), h4⟩
theorem Tab.mono {m : Nat} (t : Tab K P w H a n T) (h : n ≤ m) : Tab K P w H a m T := by
  obtain ⟨kvs, h1, h2, h3, h4⟩ := t
  exact ⟨kvs, h1, Nat.le_trans h2 h, h3, h4⟩
theorem Tab.some (t : Tab K P w H a n T) : ∃ o, H a = some o ∧ (∀ xs, o ≠ .lst xs) := by
  obtain ⟨kvs, ⟨L, h1, _⟩, _⟩ := t
  exact ⟨_, h1, fun xs e => nomatch e⟩
theorem Tab.ext {T' : List Int → Option PyData} (t : Tab K P w H a n T) (e : ∀ k, T k = T' k) : Tab K P w H a n T' := by
  have : T = T' := funext e
  rw [← this]; exact t
theorem Tab.at (t : Tab K P w H a n T) (e : T k = Option.some d) : ∃ kvs v, DN K P w H a kvs ∧ valV kvs k = Option.some v ∧ Dp K H v d := by
  obtain ⟨kvs, h1, h2, h3, h4⟩ := t
  have := h3 k
  rw [e] at this
  obtain ⟨v, hv, hd⟩ := this.get
  exact ⟨kvs, v, h1, hv, hd⟩
theorem Tab.at0 (t : Tab K P w H a n T) (e : T k = none) : ∃ kvs, DN K P w H a kvs ∧ valV kvs k = none := by
  obtain ⟨kvs, h1, h2, h3, h4⟩ := t
  have := h3 k
  rw [e] at this
  exact ⟨kvs, h1, this.non⟩
theorem Tab.is (t : Tab K P w H a n T) (k : List Int) : ∃ kvs, DN K P w H a kvs ∧ (valV kvs k).isSome = (T k).isSome := by
  cases e : T k with
  | none => obtain ⟨kvs, h1, h2⟩ := t.at0 e; exact ⟨kvs, h1, by rw [h2]; rfl⟩
  | some d => obtain ⟨kvs, v, h1, h2, _⟩ := t.at e; exact ⟨kvs, h1, by rw [h2]; rfl⟩
theorem Tab.put {v : V} (t : Tab K P w H a n T) (hv : Dp K H v d) (hd : Tf d) (hn : n ≤ 100000) (k : List Int) : ∃ kvs, DN K P w H a kvs ∧ kvs.length < sizeLine ∧
    ∀ H', Keep K H H' → DN K P w H' a (putK kvs k v) → Tab K P w H' a (n + 1) (updT T k d) := by
  obtain ⟨kvs, h1, h2, h3, h4⟩ := t
  refine ⟨kvs, h1, sz61 (by omega), fun H' kp g => ⟨_, g, ?_, fun j => ?_, fun j x hx => ?_⟩⟩
  · have := length_putK kvs k v
    omega
  · rw [valV_put]
    unfold updT
    by_cases e : j = k
    · rw [if_pos e, if_pos e]; exact Dp.keep kp hd hv
    · rw [if_neg e, if_neg e]; exact (h3 j).keep kp (h4 j)
  · unfold updT at hx
    by_cases e : j = k
    · rw [if_pos e] at hx; cases hx; exact hd
    · rw [if_neg e] at hx; exact h4 j x hx
theorem Tab.new (g : DN K P w H a []) : Tab K P w H a 0 (fun _ => none) := ⟨[], g, Nat.le_refl _, fun _ => True.intro, fun _ _ h => nomatch h⟩
end
theorem nodup_inj {α β : Type} {f : α → β} {l : List α} (hf : ∀ a b, f a = f b → a = b) (h : l.Nodup) : (l.map f).Nodup := by
  unfold List.Nodup
  rw [List.pairwise_map]
  exact List.Pairwise.imp (fun hne e => hne (hf _ _ e)) h
/-! ### dict([(key, value) ..]) -/
def dKV (p : List Int × PyData) : PyData := .tuple [.tuple (p.1.map PyData.int), p.2]
def lookT (ps : List (List Int × PyData)) (k : List Int) : Option PyData := (ps.find? fun p => decide (p.1 = k)).map (·.2)
theorem pairs_dp {K : PySem.W.Frag} {H : Hp} : ∀ {ps : List (List Int × PyData)} {us : List V}, DpAll K H us (ps.map dKV) →
    ∃ (ts : List Addr) (M : KX), us = ts.map V.ref ∧ Paired (fun t m => SqT K H t [V.ref m.2.1, m.2.2] ∧ SqT K H m.2.1 (m.1.map V.int)) ts M ∧ Paired (fun m p => m.1 = p.1 ∧ Dp K H m.2.2 p.2) M ps
  | [], _, .nil => ⟨[], [], rfl, .nil, .nil⟩
  | p :: ps, _, .cons h t => by
    obtain ⟨ts, M, e, h1, h2⟩ := pairs_dp t
    obtain ⟨a, xs, rfl, hS, hA⟩ := Dp.tupInv h
    cases hA with
    | cons g1 g2 =>
      cases g2 with
      | cons g3 g4 =>
        cases g4
        obtain ⟨b, rfl, hB⟩ := Dp.intsInv g1
        exact ⟨a :: ts, (p.1, b, _) :: M, by rw [e]; rfl, .cons ⟨hS, hB⟩ h1, .cons ⟨rfl, g3⟩ h2⟩
theorem mergeT_snoc : ∀ (more kvs : List (List Int × V)), ((kvs ++ more).map (·.1)).Nodup → mergeT kvs more = kvs ++ more
  | [], kvs, _ => by simp [mergeT]
  | p :: more, kvs, h => by
    have hn : valV kvs p.1 = none := by
      have := valV_any p.1 kvs
      cases e : valV kvs p.1 with
      | none => rfl
      | some v =>
        rw [e] at this
        obtain ⟨q, hq, hq2⟩ := List.any_eq_true.mp (show (kvs.any fun kv => decide (kv.1 = p.1)) = true from this)
        rw [List.map_append, List.map_cons] at h
        have := (List.nodup_append.mp h).2.2 q.1 (List.mem_map.mpr ⟨q, hq, rfl⟩) p.1 (List.mem_cons_self ..)
        exact absurd (of_decide_eq_true hq2) this
    show mergeT (putK kvs p.1 p.2) more = _
    rw [putK_new _ hn, mergeT_snoc more _ (by rw [List.append_assoc]; exact h), List.append_assoc]; rfl
theorem paired_keys {K : PySem.W.Frag} {H : Hp} {M : KX} {ps : List (List Int × PyData)} (h : Paired (fun m p => m.1 = p.1 ∧ Dp K H m.2.2 p.2) M ps) : (kvX M).map (·.1) = ps.map (·.1) := by
  induction h with
  | nil => rfl
  | @cons m p ms ps h t ih =>
    show m.1 :: (kvX ms).map (·.1) = _
    rw [ih, h.1]; rfl
theorem paired_look {K : PySem.W.Frag} {H : Hp} {M : KX} {ps : List (List Int × PyData)} (h : Paired (fun m p => m.1 = p.1 ∧ Dp K H m.2.2 p.2) M ps) (k : List Int) : OD K H (valV (kvX M) k) (lookT ps k) := by
  induction h with
  | nil => exact True.intro
  | @cons m p ms ps h t ih =>
    show OD K H (valV ((m.1, m.2.2) :: kvX ms) k) _
    by_cases e : m.1 = k
    · have e' : p.1 = k := h.1.symm.trans e
      have b : lookT (p :: ps) k = some p.2 := by simp [lookT, List.find?_cons, e']
      rw [valV_pos (p := (m.1, m.2.2)) e, b]; exact h.2
    · have e' : ¬ p.1 = k := fun z => e (h.1.trans z)
      have b : lookT (p :: ps) k = lookT ps k := by simp [lookT, List.find?_cons, e']
      rw [valV_neg (p := (m.1, m.2.2)) e, b]; exact ih
theorem lookT_mem {ps : List (List Int × PyData)} {k : List Int} {d : PyData} (h : lookT ps k = some d) : ∃ p ∈ ps, p.2 = d := by
  unfold lookT at h
  obtain ⟨p, hp, rfl⟩ := Option.map_eq_some_iff.mp h
  exact ⟨p, List.mem_of_find?_eq_some hp, rfl⟩
theorem lookT_at : ∀ {ps : List (List Int × PyData)} {k : List Int} {d : PyData} {j : Nat}, (ps.map (·.1)).Nodup → ps[j]? = some (k, d) → lookT ps k = some d
  | [], _, _, _, _, h => by simp at h
  | p :: ps, k, d, 0, _, h => by
    simp at h
    subst h
    simp [lookT]
  | p :: ps, k, d, j + 1, nd, h => by
    rw [List.map_cons, List.nodup_cons] at nd
    have h' : ps[j]? = some (k, d) := by simpa using h
    have hne : ¬ p.1 = k := fun e => nd.1 (by rw [e]; exact List.mem_map.mpr ⟨(k, d), List.mem_of_getElem? h', rfl⟩)
    have := lookT_at nd.2 h'
    unfold lookT at this ⊢
    rw [List.find?_cons, decide_eq_false hne]
    exact this
theorem Tab.make {K : PySem.W.Frag} {P : Program} {w : World} {H : Hp} {a : Addr} {us : List V} {ps : List (List Int × PyData)} {Q : VK} (hS : SqL K H a us) (hA : DpAll K H us (ps.map dKV)) (nd : (ps.map (·.1)).Nodup) (ht : ∀ p ∈ ps, Tf p.2)
    (q : ∀ p H', H p = none → Same H H' → Tab K P w H' p ps.length (lookT ps) → Q (.ref p) H') : rDictT K P w [.ref a] H Q := by
  obtain ⟨ts, M, rfl, h1, h2⟩ := pairs_dp hA
  refine ⟨a, ts, M, rfl, hS, h1, fun p H' np s g => q p H' np s ?_⟩
  have hk := paired_keys h2
  rw [mergeT_snoc (kvX M) [] (by rw [List.nil_append, hk]; exact nd), List.nil_append] at g
  refine ⟨_, g, ?_, fun k => (paired_look h2 k).same s, fun k d e => ?_⟩
  · rw [kvX_len, Paired.length h2]; exact Nat.le_refl _
  · obtain ⟨p, hp, rfl⟩ := lookT_mem e
    exact ht p hp
end MB

set_option maxHeartbeats 4000000
namespace MB
open PySem PySem.Spec PyProof.Rows L2
/-! ### comprehensions with two clauses: the items by their data -/
/-- the list under way -/
def Acc (K : PySem.W.Frag) (H1 H : Hp) (D : Addr) (ds : List PyData) : Prop := Same H1 H ∧ ∃ acc, H D = some (.lst acc) ∧ DpAll K H acc ds
theorem lc2_in {K : PySem.W.Frag} {J : It} {n : Nat} {G : Hp → Prop} {Y : Nat → Hp → V → Hp → Prop} (w : Walk J n G Y) {g : TG} {tt : TT} {te : TE} {vs : List Nat} {σ : L2.St} {H1 H4 : Hp} {D : Addr} {Nx : Hp → Prop}
    (pre ds : List PyData) (hl : ds.length = n) (hp : ∀ d, d ∈ pre → Tf d) (ht : ∀ d, d ∈ ds → Tf d) (hn : pre.length + n ≤ 100000) (hD : H1 D = none) (h4 : Acc K H1 H4 D pre) (hG : ∀ H, Same H1 H → G H)
    (hs : ∀ i x H H', i < n → Same H1 H → Y i H x H' → ∀ d, ds[i]? = some d → ∀ R : V → Hp → Prop, (∀ y H5, Same H H5 → Dp K H5 y d → R y H5) →
      g x (wipe σ vs) H' fun σ2 H2 => wipe σ2 vs = wipe σ vs ∧ tt σ2 H2 fun b H3 => b = true ∧ te σ2 H3 R)
    (hN : ∀ H, Acc K H1 H D (pre ++ ds) → Nx H)
    (mg : ∀ x σ' H' (Q Q' : L2.St → Hp → Prop), (∀ a b, Q a b → Q' a b) → g x σ' H' Q → g x σ' H' Q') (mt : ∀ σ' H' (Q Q' : Bool → Hp → Prop), (∀ a b, Q a b → Q' a b) → tt σ' H' Q → tt σ' H' Q') :
    ∃ W : Nat → Nat → Hp → Prop, (∃ m, W 0 m H4) ∧ ∀ j k H, W j k H →
      (J.stop j H ∧ Nx H) ∨ (J.go j H ∧ ∃ Nx1 : Hp → Prop, (∀ H', Nx1 H' → ∃ k', k' < k ∧ W (j + 1) k' H') ∧ ∀ x H', J.yld j H x H' → g x (wipe σ vs) H' fun σ3 H5 => wipe σ3 vs = wipe σ vs ∧ tt σ3 H5 fun b H6 =>
        if b = true then te σ3 H6 fun y H7 => ∃ acc, H7 D = some (.lst acc) ∧ acc.length < sizeLine ∧ Nx1 (upd H7 D (.lst (acc ++ [y]))) else Nx1 H6) := by
  refine ⟨fun i m H => m = n - i ∧ i ≤ n ∧ Acc K H1 H D (pre ++ ds.take i), ⟨n, by simp, Nat.zero_le _, by simpa using h4⟩, ?_⟩
  rintro i m H ⟨rfl, hi, s1, acc, ha, hA⟩
  have q := hG H s1
  by_cases hlt : i < n
  · refine .inr ⟨w.goes i H hlt q, fun H' => Acc K H1 H' D (pre ++ ds.take (i + 1)), fun H' p' => ⟨n - (i + 1), by omega, rfl, hlt, p'⟩, fun x H' y => ?_⟩
    have hd' : ds[i]? = some ds[i] := List.getElem?_eq_getElem (by omega)
    have hlen := DpAll.len hA
    rw [List.length_append, List.length_take] at hlen
    refine mg _ _ _ _ _ ?_ (hs i x H H' hlt s1 (w.yields i H x H' hlt q y) ds[i] hd' (fun y H7 => ∃ acc, H7 D = some (.lst acc) ∧ acc.length < sizeLine ∧ Acc K H1 (upd H7 D (.lst (acc ++ [y]))) D (pre ++ ds.take (i + 1))) ?_)
    · rintro σ2 H2 ⟨e1, e2⟩
      refine ⟨e1, mt _ _ _ _ ?_ e2⟩
      rintro b H3 ⟨rfl, e3⟩
      exact iteT e3
    · intro y H5 s5 hy5
      refine ⟨acc, s5 _ _ ha, sz61 (by omega), Same.mut (s1.trans s5) hD, acc ++ [y], upd_same, ?_⟩
      have kp : Keep K H5 (upd H5 D (.lst (acc ++ [y]))) := But.keep But.upd (s5 _ _ ha)
      rw [List.take_add_one, hd', ← List.append_assoc]
      refine DpAll.keep kp (fun d h => ?_) (DpAll.append (DpAll.same s5 hA) (.cons hy5 .nil))
      rcases List.mem_append.mp h with h | h
      · rcases List.mem_append.mp h with h | h
        · exact hp d h
        · exact ht d (List.mem_of_mem_take h)
      · have e : d = ds[i] := by simpa using h
        rw [e]; exact ht _ (List.getElem_mem ..)
  · have e : i = n := by omega
    subst e
    rw [List.take_of_length_le (by omega)] at hA
    exact .inl ⟨w.stops H q, hN H ⟨s1, acc, ha, hA⟩⟩
theorem yesT {σ : L2.St} {H : Hp} {T N : Hp → Prop} (h : T H) : tYes σ H (fun b H3 => if b = true then T H3 else N H3) := by
  unfold tYes
  exact iteT h
/-- what the blocks before i give -/
def blks (f : Nat → List PyData) (i : Nat) : List PyData := (List.range i).flatMap f
theorem blks_succ (f : Nat → List PyData) (i : Nat) : blks f (i + 1) = blks f i ++ f i := by
  unfold blks
  rw [List.range_succ, List.flatMap_append]
  simp
theorem mem_blks {f : Nat → List PyData} {i : Nat} {d : PyData} (h : d ∈ blks f i) : ∃ j, j < i ∧ d ∈ f j := by
  unfold blks at h
  obtain ⟨j, hj, hd⟩ := List.mem_flatMap.mp h
  exact ⟨j, List.mem_range.mp hj, hd⟩
theorem lc2_out {K : PySem.W.Frag} {J : It} {n : Nat} {G : Hp → Prop} {Y : Nat → Hp → V → Hp → Prop} (w : Walk J n G Y) {g : TG} {tt : TT} {T : L2.St → Hp → (Hp → Prop) → Prop} {vs : List Nat} {σ : L2.St} {H1 : Hp} {D : Addr} {Qd : Hp → Prop}
    (f : Nat → List PyData) (hD : H1 D = none) (hG : ∀ H, Same H1 H → G H)
    (hs : ∀ i x H H', i < n → Acc K H1 H D (blks f i) → Y i H x H' → ∀ Nx : Hp → Prop, (∀ H, Acc K H1 H D (blks f i ++ f i) → Nx H) →
      g x (wipe σ vs) H' fun σ2 H2 => wipe σ2 vs = wipe σ vs ∧ tt σ2 H2 fun b H3 => if b = true then T σ2 H3 Nx else Nx H3)
    (hd : ∀ H acc, Same H1 H → H D = some (.lst acc) → DpAll K H acc (blks f n) → Qd H) :
    ∃ W : Nat → Nat → Hp → Prop, (∃ m, W 0 m (upd H1 D (.lst []))) ∧ ∀ i m H, W i m H →
      (J.stop i H ∧ Qd H) ∨ (J.go i H ∧ ∃ Nx : Hp → Prop, (∀ H', Nx H' → ∃ m', m' < m ∧ W (i + 1) m' H') ∧ ∀ x H', J.yld i H x H' → g x (wipe σ vs) H' fun σ2 H2 => wipe σ2 vs = wipe σ vs ∧ tt σ2 H2 fun b H3 =>
        if b = true then T σ2 H3 Nx else Nx H3) := by
  refine ⟨fun i m H => m = n - i ∧ i ≤ n ∧ Acc K H1 H D (blks f i), ⟨n, by simp, Nat.zero_le _, same_upd hD, [], upd_same, .nil⟩, ?_⟩
  rintro i m H ⟨rfl, hi, p⟩
  have q := hG H p.1
  by_cases hlt : i < n
  · exact .inr ⟨w.goes i H hlt q, fun H' => Acc K H1 H' D (blks f (i + 1)), fun H' p' => ⟨n - (i + 1), by omega, rfl, hlt, p'⟩, fun x H' y => hs i x H H' hlt p (w.yields i H x H' hlt q y) _ fun H2 a => by rw [blks_succ]; exact a⟩
  · have e : i = n := by omega
    subst e
    obtain ⟨s1, acc, ha, hA⟩ := p
    exact .inl ⟨w.stops H q, hd H acc s1 ha hA⟩
theorem lc_allW {K : PySem.W.Frag} {J : It} {n : Nat} {G : Hp → Prop} {Y : Nat → Hp → V → Hp → Prop} (w : Walk J n G Y) {g : TG} {tt : TT} {te : TE} {vs : List Nat} {σ : L2.St} {H1 : Hp} {D : Addr} {Qd : Hp → Prop}
    (ds : List PyData) (hl : ds.length = n) (ht : ∀ d, d ∈ ds → Tf d) (hn : n ≤ 90000) (hD : H1 D = none) (hG : ∀ H, Same H1 H → G H)
    (hs : ∀ i x H H', i < n → Same H1 H → Y i H x H' → ∀ d, ds[i]? = some d → ∀ R : V → Hp → Prop, (∀ y H4, Same H H4 → Dp K H4 y d → R y H4) →
      g x (wipe σ vs) H' fun σ2 H2 => wipe σ2 vs = wipe σ vs ∧ tt σ2 H2 fun b H3 => b = true ∧ te σ2 H3 R)
    (hd : ∀ H acc, Same H1 H → H D = some (.lst acc) → DpAll K H acc ds → Qd H)
    (mg : ∀ x σ' H' (Q Q' : L2.St → Hp → Prop), (∀ a b, Q a b → Q' a b) → g x σ' H' Q → g x σ' H' Q') (mt : ∀ σ' H' (Q Q' : Bool → Hp → Prop), (∀ a b, Q a b → Q' a b) → tt σ' H' Q → tt σ' H' Q') :
    ∃ W : Nat → Nat → Hp → Prop, (∃ m, W 0 m (upd H1 D (.lst []))) ∧ ∀ i m H, W i m H →
      (J.stop i H ∧ Qd H) ∨ (J.go i H ∧ ∃ Nx : Hp → Prop, (∀ H', Nx H' → ∃ m', m' < m ∧ W (i + 1) m' H') ∧ ∀ x H', J.yld i H x H' → g x (wipe σ vs) H' fun σ2 H2 => wipe σ2 vs = wipe σ vs ∧ tt σ2 H2 fun b H3 =>
        if b = true then te σ2 H3 fun y H4 => ∃ acc, H4 D = some (.lst acc) ∧ acc.length < sizeLine ∧ Nx (upd H4 D (.lst (acc ++ [y]))) else Nx H3) := by
  refine lc_it w (fun i H => Same H1 H ∧ ∃ acc, H D = some (.lst acc) ∧ DpAll K H acc (ds.take i)) ⟨same_upd hD, [], upd_same, .nil⟩ (fun i H _ h => hG H h.1) ?_ ?_
  · rintro i x H H' hi ⟨s1, acc, ha, hA⟩ hy
    have hd' : ds[i]? = some ds[i] := List.getElem?_eq_getElem (by omega)
    have hlen := DpAll.len hA
    rw [List.length_take] at hlen
    refine mg _ _ _ _ _ ?_ (hs i x H H' hi s1 hy ds[i] hd' (fun y H4 => ∃ acc, H4 D = some (.lst acc) ∧ acc.length < sizeLine ∧ (Same H1 (upd H4 D (.lst (acc ++ [y]))) ∧ ∃ acc', (upd H4 D (.lst (acc ++ [y]))) D = some (.lst acc') ∧ DpAll K (upd H4 D (.lst (acc ++ [y]))) acc' (ds.take (i + 1)))) ?_)
    · rintro σ2 H2 ⟨h1, h2⟩
      refine ⟨h1, mt _ _ _ _ ?_ h2⟩
      rintro b H3 ⟨rfl, h3⟩
      exact iteT h3
    · intro y H4 s4 hy4
      refine ⟨acc, s4 _ _ ha, sz61 (by omega), Same.mut (s1.trans s4) hD, acc ++ [y], upd_same, ?_⟩
      have kp : Keep K H4 (upd H4 D (.lst (acc ++ [y]))) := But.keep But.upd (s4 _ _ ha)
      rw [List.take_add_one, hd']
      refine DpAll.keep kp (fun d h => ?_) (DpAll.append (DpAll.same s4 hA) (.cons hy4 .nil))
      rcases List.mem_append.mp h with h | h
      · exact ht d (List.mem_of_mem_take h)
      · have e : d = ds[i] := by simpa using h
        rw [e]; exact ht _ (List.getElem_mem ..)
  · rintro H ⟨s1, acc, ha, hA⟩
    rw [List.take_of_length_le (by omega)] at hA
    exact hd H acc s1 ha hA

/-- enumerate in a second clause -/
theorem k_enumT {X : Cx} {K : PySem.W.Frag} (hK : X.K = K) {e : Expr} {ta : TA} {p pos tpos : PySem.Pos} {elts : List Expr} {kk : Nat} (hg : Gl X "enumerate") (hm : X.mg "enumerate" = none) (ha : PA X [e] ta) (hs : starEach [e] X.env = [(false, eval e X.env)] := by rfl) :
    PI X (.Tuple elts kk tpos) (.Call (.Name "enumerate" p) [e] [] pos) (iEnumT K ta) := by
  subst hK
  exact pi_enumT hg hm ha hs
end MB

namespace MB
/-! `in` and `not in` of deep lists: HandS.Deep -/
end MB

set_option maxHeartbeats 4000000
namespace MB
open PySem PySem.Spec PyProof.Rows L2
/-! ### a body whose first statement never ends in order -/
theorem pss_stop {X : Cx} {st : Stmt} {rest : List Stmt} {t : TS} (h1 : PS X st t) : PSs X (st :: rest) (fun D σ H => t { D with nx := fun _ _ => False } σ H) := by
  refine ⟨fun pins s σ H D I h => ?_⟩
  refine wpAny_execs_cons (thn (h1.run pins s σ H { D with nx := fun _ _ => False } I h) fun f s1 q => ?_)
  cases f with
  | next =>
    obtain ⟨_, _, _, q⟩ := q
    exact q.elim
  | ret v => exact q
  | brk => exact q
  | cont => exact q
/-! ### texts of data are texts -/
theorem strOk_of (s : String) : PyData.strOk (Str.ofString s) = true := by
  rw [Str.ofString_eq_toList]
  unfold PyData.strOk
  rw [← Array.all_toList, List.all_eq_true]
  intro c hc
  obtain ⟨z, _, rfl⟩ := List.mem_map.mp hc
  refine decide_eq_true ?_
  have h := z.valid
  have e : z.toNat = z.val.toNat := rfl
  rcases h with h | h
  · exact Nat.lt_trans (show z.toNat < 0xd800 from h) (by decide)
  · exact h.2
theorem strOk_app {a b : Str} (h1 : PyData.strOk a = true) (h2 : PyData.strOk b = true) : PyData.strOk (a ++ b) = true := by
  show (a.cps ++ b.cps).all _ = true
  rw [Array.all_append]
  rw [Bool.and_eq_true]
  exact ⟨h1, h2⟩
theorem strOk_join {sep : Str} (hs : PyData.strOk sep = true) : ∀ {ts : List Str}, (∀ t, t ∈ ts → PyData.strOk t = true) → PyData.strOk (Str.join sep ts) = true
  | [], _ => by show PyData.strOk Str.empty = true; decide +kernel
  | [x], h => h x (List.mem_cons_self ..)
  | x :: y :: r, h => by
    show PyData.strOk (x ++ sep ++ Str.join sep (y :: r)) = true
    exact strOk_app (strOk_app (h x (List.mem_cons_self ..)) hs) (strOk_join hs fun t ht => h t (List.mem_cons_of_mem _ ht))
theorem strOk_from : ∀ {ts : List Str} {k : Nat} {acc : Str}, PyData.strOk acc = true → (∀ t, t ∈ ts → PyData.strOk t = true) → PyData.strOk (textFrom k acc ts) = true
  | [], _, _, h, _ => h
  | t :: r, k, acc, h, ht => by
    refine strOk_from (ts := r) (k := k + 1) (acc := acc ++ (if k > 0 then ", " else "" : String) ++ t) (strOk_app (strOk_app h (strOk_of _)) (ht t (List.mem_cons_self ..))) fun x hx => ht x (List.mem_cons_of_mem _ hx)
theorem k_reprD {X : Cx} {K : PySem.W.Frag} (e : X.K = K) (hgd : X.A.guards = some []) (hu : X.A.units + 64 < cLine) : CallR X (.builtin "repr") (rReprD K) := by
  rw [← e]; exact call_reprD hgd hu
def SOk (d : PyData) : Prop := PyData.strOk d.shown = true
theorem shownAll_map : ∀ ds : List PyData, PyData.shownAll ds = ds.map PyData.shown
  | [] => rfl
  | d :: ds => by simp only [PyData.shownAll, List.map_cons, shownAll_map ds]
theorem SOk.int {i : Int} : SOk (.int i) := by unfold SOk; simp only [PyData.shown]; exact strOk_of _
theorem SOk.none : SOk .none := by unfold SOk; simp only [PyData.shown]; exact strOk_of _
theorem SOk.bool {b : Bool} : SOk (.bool b) := by unfold SOk; simp only [PyData.shown]; cases b <;> exact strOk_of _
theorem SOk.tup {ds : List PyData} (h : ∀ d, d ∈ ds → SOk d) : SOk (.tuple ds) := by
  unfold SOk
  simp only [PyData.shown]
  rw [shownAll_map]
  unfold tupleText
  refine strOk_app (strOk_app (strOk_of _) (strOk_join (strOk_of _) fun t ht => ?_)) (strOk_of _)
  obtain ⟨d, hd, rfl⟩ := List.mem_map.mp ht
  exact h d hd
theorem SOk.lst {ds : List PyData} (h : ∀ d, d ∈ ds → SOk d) : SOk (.list ds) := by
  unfold SOk
  simp only [PyData.shown]
  rw [shownAll_map]
  unfold listText
  refine strOk_app (strOk_from (strOk_of _) fun t ht => ?_) (strOk_of _)
  obtain ⟨d, hd, rfl⟩ := List.mem_map.mp ht
  exact h d hd
theorem SOk.ints {ns : List Int} : ∀ d, d ∈ ns.map PyData.int → SOk d := fun d hd => by
  obtain ⟨i, _, rfl⟩ := List.mem_map.mp hd
  exact .int
theorem SOk.dic1 {x : Str} {d : PyData} (hx : SOk (.str x)) (h : SOk d) : SOk (.dict [(.str x, d)]) := by
  unfold SOk at *
  simp only [PyData.shown, PyData.shownKv] at *
  unfold dictText
  exact strOk_app (strOk_app (strOk_of _) (strOk_join (strOk_of _) fun t ht => by
    rw [List.mem_singleton.mp ht]
    exact strOk_app (strOk_app hx (strOk_of _)) h)) (strOk_of _)
theorem Sh.str {x : Str} {k : Nat} (h : PyData.strOk x = true) : Sh k (.str x) := ⟨by simp only [PyData.canLay0]; exact h, by simp [PyData.depth]⟩
end MB

set_option maxHeartbeats 4000000
namespace MB
open PySem PySem.Spec PyProof.Rows L2
/-! ### the repr of a text is a text -/
theorem reprChar_ok {q c : Nat} (hc : c < 0x110000) : ∀ e, e ∈ PySem.Builtin.Str.reprChar q c → e < 0x110000 := by
  have hex : ∀ w e, e ∈ List.replicate (w - ((Nat.toDigits 16 c).map Char.toNat).length) 48 ++ (Nat.toDigits 16 c).map Char.toNat → e < 0x110000 := fun w e he => by
    rcases List.mem_append.mp he with h | h
    · rw [List.eq_of_mem_replicate h]; decide
    · obtain ⟨z, _, rfl⟩ := List.mem_map.mp h
      have h := z.valid
      rcases h with h | h
      · exact Nat.lt_trans (show z.toNat < 0xd800 from h) (by decide)
      · exact h.2
  intro e he
  unfold PySem.Builtin.Str.reprChar at he
  dsimp only at he
  split at he
  · simp only [List.mem_cons, List.not_mem_nil, or_false] at he
    rcases he with rfl | rfl
    · decide
    · exact hc
  split at he
  · simp only [List.mem_cons, List.not_mem_nil, or_false] at he
    rcases he with rfl | rfl <;> decide
  split at he
  · simp only [List.mem_cons, List.not_mem_nil, or_false] at he
    rcases he with rfl | rfl <;> decide
  split at he
  · simp only [List.mem_cons, List.not_mem_nil, or_false] at he
    rcases he with rfl | rfl <;> decide
  split at he
  · simp only [List.mem_cons, List.not_mem_nil, or_false] at he
    rw [he]; exact hc
  split at he
  · rcases List.mem_append.mp he with h | h
    · simp only [List.mem_cons, List.not_mem_nil, or_false] at h
      rcases h with rfl | rfl <;> decide
    · exact hex _ _ h
  split at he
  · rcases List.mem_append.mp he with h | h
    · simp only [List.mem_cons, List.not_mem_nil, or_false] at h
      rcases h with rfl | rfl <;> decide
    · exact hex _ _ h
  · rcases List.mem_append.mp he with h | h
    · simp only [List.mem_cons, List.not_mem_nil, or_false] at h
      rcases h with rfl | rfl <;> decide
    · exact hex _ _ h
theorem reprText_ok {x : Str} (h : PyData.strOk x = true) : PyData.strOk (reprText x) = true := by
  unfold PyData.strOk at h ⊢
  rw [← Array.all_toList, List.all_eq_true] at h
  have hq : reprQuote x < 0x110000 := by unfold reprQuote; split <;> decide
  have key : ∀ (l : List Nat) (acc : Array Nat), (∀ c, c ∈ l → c < 0x110000) → (∀ e, e ∈ acc.toList → e < 0x110000) → ∀ e, e ∈ (l.foldl (fun out c => out ++ (PySem.Builtin.Str.reprChar (reprQuote x) c).toArray) acc).toList → e < 0x110000 := fun l => by
    induction l with
    | nil => intro acc _ h2; exact h2
    | cons c l ih =>
      intro acc h1 h2
      refine ih _ (fun d hd => h1 d (List.mem_cons_of_mem _ hd)) fun e he => ?_
      rw [Array.toList_append] at he
      rcases List.mem_append.mp he with he | he
      · exact h2 e he
      · exact reprChar_ok (h1 c (List.mem_cons_self ..)) e (by simpa using he)
  unfold reprText
  rw [← Array.all_toList, List.all_eq_true]
  intro e he
  refine decide_eq_true ?_
  rw [Array.toList_push] at he
  rcases List.mem_append.mp he with he | he
  · rw [← Array.foldl_toList] at he
    refine key _ _ (fun c hc => of_decide_eq_true (h c hc)) (fun e he => ?_) e he
    simp only [List.mem_cons, List.not_mem_nil, or_false] at he
    rw [he]; exact hq
  · rw [List.mem_singleton.mp he]; exact hq
theorem SOk.str {x : Str} (h : PyData.strOk x = true) : SOk (.str x) := by unfold SOk; simp only [PyData.shown]; exact reprText_ok h
end MB

namespace MB
open PySem PySem.Spec PyProof.Rows L2
/-! a bool where an int is meant: x + 1, x - 1, x == 1, str(x) -/
/-- the int that an int or a bool is -/
def biV : V → Option Int
  | .int i => some i
  | .bl b => some (if b = true then 1 else 0)
  | _ => none
def rBI (g : Int → Int → V) : R2 := fun x y H Q => ∃ i j, biV x = some i ∧ y = .int j ∧ Q (g i j) H
theorem op_addX {X : Cx} : OpR X (binaryOp .Add) (rBI fun i j => .int (i + j)) := by
  intro pins s σ H x y v u Q I rx ry h
  obtain ⟨i, j, e, rfl, q⟩ := h
  obtain ⟨t', rfl⟩ := ry
  cases x with
  | int k =>
    obtain ⟨t, rfl⟩ := rx
    cases e
    exact add_int ⟨.int (i + j), H, I.tok _, ⟨_, rfl⟩, q⟩
  | bl b =>
    cases rx
    cases e
    exact PySem.IntBool.add_bool_int ⟨.int (_ + j), H, I.tok _, ⟨_, rfl⟩, q⟩
  | _ => cases e
theorem op_subX {X : Cx} : OpR X (binaryOp .Sub) (rBI fun i j => .int (i - j)) := by
  intro pins s σ H x y v u Q I rx ry h
  obtain ⟨i, j, e, rfl, q⟩ := h
  obtain ⟨t', rfl⟩ := ry
  cases x with
  | int k =>
    obtain ⟨t, rfl⟩ := rx
    cases e
    exact sub_int ⟨.int (i - j), H, I.tok _, ⟨_, rfl⟩, q⟩
  | bl b =>
    cases rx
    cases e
    exact PySem.IntBool.sub_bool_int ⟨.int (_ - j), H, I.tok _, ⟨_, rfl⟩, q⟩
  | _ => cases e
theorem op_eqX {X : Cx} : OpR X (compareOp .Eq) (rBI fun i j => .bl (i == j)) := by
  intro pins s σ H x y v u Q I rx ry h
  obtain ⟨i, j, e, rfl, q⟩ := h
  obtain ⟨t', rfl⟩ := ry
  cases x with
  | int k =>
    obtain ⟨t, rfl⟩ := rx
    cases e
    exact eq_int ⟨.bl (i == j), H, I, rfl, q⟩
  | bl b =>
    cases rx
    cases e
    exact PySem.EqBoolInt.eq_bool_int ⟨.bl (_ == j), H, I, rfl, q⟩
  | _ => cases e
theorem call_strX {X : Cx} : CallR X (.type "str") (fun xs H Q => ∃ x i, xs = [x] ∧ biV x = some i ∧ i.natAbs.log2 < 1920 ∧ ∀ z, (∃ k, x = .int k ∧ z = Str.ofString (toString k)) ∨ z = Str.ofString "True" ∨ z = Str.ofString "False" → Q (.str z) H) := by
  intro pins s σ H xs us Q I r h
  obtain ⟨x, i, rfl, e, hz, q⟩ := h
  cases x with
  | int k =>
    obtain ⟨u, rfl, t, rfl⟩ := vals1 r
    cases e
    exact PySem.P.str_of_int hz ⟨.str _, H, I.tok _, ⟨_, rfl⟩, q _ (.inl ⟨_, rfl, rfl⟩)⟩
  | bl b =>
    obtain ⟨u, rfl, r1⟩ := vals1 r
    cases r1
    refine PySem.P.str_of_bool ⟨.str _, H, I.tok _, ⟨_, rfl⟩, q _ (.inr ?_)⟩
    cases b
    · exact .inr rfl
    · exact .inl rfl
  | _ => cases e
/-- a tuple != () -/
def rNeE (K : PySem.W.Frag) : R2 := fun x y H Q => ∃ a b xs, x = .ref a ∧ y = .ref b ∧ SqT K H a xs ∧ SqT K H b [] ∧ Q (.bl (!xs.isEmpty)) H
theorem op_neE {X : Cx} {K : PySem.W.Frag} (hK : X.K = K) (hu : X.A.units + 64 < cLine) : OpR X (compareOp .NotEq) (rNeE K) := by
  subst hK
  intro pins s σ H x y v u Q I rx ry h
  obtain ⟨a, b, xs, rfl, rfl, h1, h2, q⟩ := h
  cases rx; cases ry
  obtain ⟨i1, r1, t1, _⟩ := I.tuple h1
  obtain ⟨i2, r2, t2, _⟩ := I.tuple h2
  cases r2
  have hl := r1.length
  refine PySem.EqBoolInt.of_rcne (PySem.SeqAt.RcNeAt.tuples (items := i1.toArray) (items2 := #[]) (e := fun _ => true) t1 t2 (by omega) (fun j h1 h2 => absurd h2 (by simp))) ?_
  refine ⟨.bl (!xs.isEmpty), H, I, ?_, q⟩
  cases xs with
  | nil => cases r1; rfl
  | cons x xs => cases r1; simp; rfl
end MB

set_option maxHeartbeats 4000000
namespace MB
open PySem PySem.Spec PyProof.Rows L2
/-! methods called by keywords -/
def tMethK (C : Addr) (m : Str) (n : Nat) (sp : Sp) (gV : List V → List V → List V) (E : XK) (ta : TE) (tk : TA) : TE := fun σ H Q => ta σ H fun x H1 => ∃ a dx fs, x = .ref a ∧ H1 a = some (.ins C dx fs) ∧ fs.lookup m = none ∧ tk σ H1 fun zs H2 => zs.length = n ∧ sp (gV [x] zs) H2 Q E
section
variable {X : Cx} {CX : CXT} {k n : Nat} {C f : Addr} {fd : FuncData} {ps ks : List Str} {sp : Sp} {E : XK} {m : Str} {o : Expr} {apos : _} {pos : Pos} {kws : List Keyword} {ta : TE} {tk : TA} {g : List Value → List Value → List Value} {gV : List V → List V → List V}
theorem pe_methK0 {pl : Sem Bool} (he : PE X o ta) (c : Cls X.K C) (hm : Meth X.K C m f) (F : FnOk X.prog X.w X.K X.mg X.base CX k f fd ps sp) (hr : Room k X.A) (hb : KBn X.K fd ps 1 ks g gV) (hx : Passes CX X E) (hkw : PK X kws tk)
    (hall : (backToKw pos (keywordEach kws X.env)).all (·.1.isSome) = true := by rfl) (hks : (backToKw pos (keywordEach kws X.env)).filterMap (·.1) = ks := by rfl)
    (hpl : ((backTo pos (starEach [] X.env)).any (·.1) || (backToKw pos (keywordEach kws X.env)).any (·.1.isNone)) = false := by rfl)
    (ht : eval (.Call (.Attribute o m apos) [] kws pos) X.env = (do
      let ov ← eval o X.env
      standAt apos.atName
      let (f, first) ← holding [ov] (getMethod ov m pl)
      callWith pos f first (backTo pos (starEach [] X.env)) (backToKw pos (keywordEach kws X.env))) := by rfl) :
    PE X (.Call (.Attribute o m apos) [] kws pos) (tMethK C m ks.length sp gV E ta tk) := by
  refine ⟨fun pins s σ H Q I h => ?_⟩
  refine PySem.W.methodCall_KW (pl := pl) (thn (he.run pins s σ H _ I h) fun u s1 ⟨x, H1, I1, rx, a, dx, fs, ex, ea, l, q⟩ => ?_) ht
  subst ex
  obtain rfl : u = Value.ref a := rx
  refine getmeth_ok I1 ea c hm l ?_
  refine PySem.W.callWith_KW0 (first := [.ref a]) (h₀ := X.base) I.ok.mod.kin hm.kp hall ?_ hpl
  refine thn (hkw.run pos pins s1 σ H1 _ I1 q) fun ws s2 ⟨zs, H2, I2, rz, l2, q2⟩ => ⟨I2.kIn, ?_⟩
  rw [hks]
  exact run_fnN (us := [.ref a]) (vs := [.ref a]) F hr hb hx I2 (.cons rfl .nil) rz rfl l2 q2
end
theorem FunD.okN {P : Program} {w : World} {K : PySem.W.Frag} {mg : Str → Option Value} {base : Heap} {x qual : Str} {params : Arguments} {body : List Stmt} {scope : Scope} {dvs : List V} {kws : List (Str × V)} {f : Addr} {fd : FuncData} {N ps : List Str} {k : Nat} {sp : Sp} (F : FunD K x qual params body scope dvs kws f fd) (S : FnScope N ps scope) (len : ∀ vs H Q E, sp vs H Q E → vs.length = ps.length)
    (hbody : ∀ (cdv : Value) (A : Around) (outer : List Env) (s : Shared) (H : Hp) (vs : List V) (Q : VK) (E : XK), Room k (A.deeper (envOfC qual scope s.heap.objs.size f cdv)) → sp vs H Q E →
      ∃ t, PSs (cxOf CX0 P w K mg base N qual scope f cdv A outer s H E).nox body t ∧ t { nx := fun _ H' => Q .non H', rt := Q } (start N vs) H) : FnOk P w K mg base CX0 (k + 1) f fd ps sp :=
  F.ok S len fun cdv A outer s H vs Q E hr hsp => let ⟨t, h, q⟩ := hbody cdv A outer s H vs Q E hr hsp; ⟨t, h.nox, q⟩
/-- all positional, then the keywords, in their order -/
def gA {α : Type} (us ws : List α) : List α := us ++ ws
theorem kbA {K : PySem.W.Frag} {x qual : Str} {params : Arguments} {body : List Stmt} {scope : Scope} {dvs : List V} {kws : List (Str × V)} {f : Addr} {fd : FuncData} {ps ks : List Str} (F : FunD K x qual params body scope dvs kws f fd) (n : Nat) (hd : dvs ≠ [])
    (h : ∀ (T : Addr) (kV doc pm : Value) (an : Option Addr) (cdv ct : Value) (us its ws : List Value), us.length = n → its.length = dvs.length → ws.length = ks.length →
      ∃ k, bindArgs (PySem.W.fnOf x qual params body scope (.ref T) kV doc pm an cdv ct) ⟨us, ks.zip ws⟩ = seqItems? (.ref T) >>= k ∧ k (some its.toArray) = pure (ps.zip (us ++ ws))) : KBn K fd ps n ks gA gA := by
  obtain ⟨oc, od, dV, kV, doc, pm, an, cdv, ct, osl, rfl, lk, hcd, hD, hK⟩ := F.ex
  rcases hD with ⟨e, _⟩ | ⟨_, T, o, its, m, rfl, lT, oT, rT⟩
  · exact absurd e hd
  · refine ⟨fun s us ws X l1 l2 => ?_, fun r1 r2 => r1.append r2⟩
    obtain ⟨k, e1, e2⟩ := h T kV doc pm an cdv ct us its ws l1 rT.length.symm l2
    refine BindsTo.of_looks fun M => ?_
    rw [e1]
    exact looks_items X lT oT (.of_pure e2)
end MB

set_option maxHeartbeats 4000000
namespace MB
open PySem PySem.Spec PyProof.Rows L2
/-! o.m(e, .., k = v): by place and by keywords; keyword-only parameters -/
def tMethK1 (C : Addr) (m : Str) (np n : Nat) (sp : Sp) (gV : List V → List V → List V) (E : XK) (ta : TE) (tp tk : TA) : TE := fun σ H Q => ta σ H fun x H1 => ∃ a dx fs, x = .ref a ∧ H1 a = some (.ins C dx fs) ∧ fs.lookup m = none ∧
  tp σ H1 fun ys H2 => ys.length + 1 = np ∧ tk σ H2 fun zs H3 => zs.length = n ∧ sp (gV (x :: ys) zs) H3 Q E
section
variable {X : Cx} {CX : CXT} {k np : Nat} {C f : Addr} {fd : FuncData} {ps ks : List Str} {sp : Sp} {E : XK} {m : Str} {o e : Expr} {es : List Expr} {apos : _} {pos : Pos} {kws : List Keyword} {ta : TE} {tp tk : TA} {g : List Value → List Value → List Value} {gV : List V → List V → List V}
theorem pe_methK1 {pl : Sem Bool} (he : PE X o ta) (c : Cls X.K C) (hm : Meth X.K C m f) (F : FnOk X.prog X.w X.K X.mg X.base CX k f fd ps sp) (hr : Room k X.A) (hb : KBn X.K fd ps np ks g gV) (hx : Passes CX X E) (hpa : PA X (e :: es) tp) (hkw : PK X kws tk)
    (hall : (backToKw pos (keywordEach kws X.env)).all (·.1.isSome) = true := by rfl) (hks : (backToKw pos (keywordEach kws X.env)).filterMap (·.1) = ks := by rfl)
    (hpl : ((backTo pos (starEach (e :: es) X.env)).any (·.1) || (backToKw pos (keywordEach kws X.env)).any (·.1.isNone)) = false := by rfl)
    (hst : starEach (e :: es) X.env = (false, eval e X.env) :: starEach es X.env := by rfl)
    (ht : eval (.Call (.Attribute o m apos) (e :: es) kws pos) X.env = (do
      let ov ← eval o X.env
      standAt apos.atName
      let (f, first) ← holding [ov] (getMethod ov m pl)
      callWith pos f first (backTo pos (starEach (e :: es) X.env)) (backToKw pos (keywordEach kws X.env))) := by rfl) :
    PE X (.Call (.Attribute o m apos) (e :: es) kws pos) (tMethK1 C m np ks.length sp gV E ta tp tk) := by
  refine ⟨fun pins s σ H Q I h => ?_⟩
  refine PySem.W.methodCall_KW (pl := pl) (thn (he.run pins s σ H _ I h) fun u s1 ⟨x, H1, I1, rx, a, dx, fs, ex, ea, l, q⟩ => ?_) ht
  subst ex
  obtain rfl : u = Value.ref a := rx
  refine getmeth_ok I1 ea c hm l ?_
  refine PySem.W.callWith_KW (first := [.ref a]) (h₀ := X.base) I.ok.mod.kin hm.kp hall ?_ hpl hst
  refine thn (hpa.run pos pins s1 σ H1 _ I1 q) fun us s2 ⟨ys, H2, I2, ry, l2, q2⟩ => ?_
  refine thn (hkw.run pos pins s2 σ H2 _ I2 q2) fun ws s3 ⟨zs, H3, I3, rz, l3, q3⟩ => ⟨I3.kIn, ?_⟩
  rw [hks]
  exact run_fnN (us := .ref a :: us) (vs := .ref a :: ys) F hr hb hx I3 (.cons rfl ry) rz l2 l3 q3
end
/-- no defaults by place: the keyword-only parameters are given -/
theorem kbB {K : PySem.W.Frag} {x qual : Str} {params : Arguments} {body : List Stmt} {scope : Scope} {kws : List (Str × V)} {f : Addr} {fd : FuncData} {ps ks : List Str} (F : FunD K x qual params body scope [] kws f fd) (n : Nat)
    (h : ∀ (kV doc pm : Value) (an : Option Addr) (cdv ct : Value) (us ws : List Value), us.length = n → ws.length = ks.length →
      bindArgs (PySem.W.fnOf x qual params body scope .none kV doc pm an cdv ct) ⟨us, ks.zip ws⟩ = pure (ps.zip (us ++ ws))) : KBn K fd ps n ks gA gA := by
  obtain ⟨oc, od, dV, kV, doc, pm, an, cdv, ct, osl, rfl, lk, hcd, hD, hK⟩ := F.ex
  rcases hD with ⟨_, rfl⟩ | ⟨h0, _⟩
  · exact ⟨fun s us ws X l1 l2 => .of_eq (h kV doc pm an cdv ct us ws l1 l2), fun r1 r2 => r1.append r2⟩
  · exact absurd rfl h0
end MB

set_option maxHeartbeats 4000000
namespace PySem.W
open PySem
variable {M : Model} {A : Around} {E : Value → Shared → Prop} {s : Shared} {K : Frag} {x C L f : Addr} {ox : Obj} {od : Option Obj} {name : Str}
theorem callSp_K {args : List Value} {Q : Option Value → Shared → Prop} (X : K.In s.heap) (I : InstAt s.heap x ox C od) (hs : findIn K (.ref C) name = some (some (.ref f))) (hf : isFn K (.ref f) = true)
    (h : wpAny M A (call (.ref f) (.ref x :: args)) (fun v => Q (some v)) E s) : wpAny M A (callSpecial? (.ref x) name args) Q E s := by
  unfold callSpecial?
  refine wpAny_bind (wpAny_bind (I.type.here ((looks_findIn X hs).here ?_)))
  refine wpAny_holding (wpAny_bind ((bind_fn X _ (beq_iff_eq.mp hf)).here ?_))
  first
    | exact wpAny_bind (wpAny_mono h (fun v s' h' => wpAny_pure h') fun _ _ h' => h')
    | exact wpAny_pure (wpAny_bind (wpAny_mono h (fun v s' h' => wpAny_pure h') fun _ _ h' => h'))
end PySem.W
namespace MB
open PySem PySem.Spec PyProof.Rows L2
def rLenO (C : Addr) (sp : Sp) (E : XK) : List V → Hp → VK → Prop := fun xs H Q => ∃ a dx fs, xs = [.ref a] ∧ H a = some (.ins C dx fs) ∧ sp [.ref a] H (fun v H' => ∃ n : Nat, v = .int (n : Int) ∧ (n : Int) < 2 ^ 63 ∧ Q (.int (n : Int)) H') E
theorem call_lenO {X : Cx} {CX : CXT} {n : Nat} {C f : Addr} {fd : FuncData} {ps : List Str} {sp : Sp} {E : XK} (F : FnOk X.prog X.w X.K X.mg X.base CX n f fd ps sp) (hr : Room (n + 1) X.A)
    (hs : PySem.W.findIn X.K (.ref C) "__len__" = some (some (.ref f))) (hf : PySem.W.isFn X.K (.ref f) = true) (hb : Binds X.K fd ps []) (hx : Passes CX X E) : CallR X (.builtin "len") (rLenO C sp E) := by
  intro pins s σ H xs us Q I r h
  obtain ⟨a, dx, fs, rfl, ha, hsp⟩ := h
  rw [Vals.ref1 r]
  obtain ⟨mA, J, _⟩ := ins_get I.hok ha
  obtain ⟨od, J, _⟩ := J.look
  refine Calls.call_function_entry kind_len plain_len entry_len (args_len1 _) ?_
  unfold Builtin.«len»
  refine wpAny_bind (m := oneArg "len" _) (wpAny_pure ?_)
  have e0 : Env0 X.prog X.w X.K X.mg X.base X.A.in1 X.stack s H := by
    have e := I.env0
    exact ⟨e.frames, e.mod, e.bs, e.bsz, e.funs, e.frf, e.hok, e.bare⟩
  have hl := F.len _ _ _ _ hsp
  have r2 : Vals [V.ref a] [Value.ref a] := .cons rfl .nil
  refine wpAny_bind (m := callSpecial? (.ref a) (Str.ofString "__len__")) (PySem.W.callSp_K I.kIn J hs hf ?_)
  refine wpAny_call (codeAny_mono (F.run X.A.in1 X.stack s H ⟨[.ref a], []⟩ [.ref a] [.ref a] _ E hr.in1 e0 (by
    have := hb s [.ref a] I.kIn (by simpa using hl)
    simpa using this) r2 hsp) fun r s' hq => ?_)
  cases r with
  | error e => exact hx pins σ H s e s' I hq
  | ok fl =>
    cases fl with
    | ret u =>
      obtain ⟨v, H', I', rv, m, rfl, hm, hQ⟩ := I.after hq
      obtain ⟨t, rfl⟩ := rv
      refine wpAny_bind (wpAny_holding (wpAny_pure ?_))
      refine wpAny_bind (wpAny_letGo ?_)
      show wpAny _ _ (if (m : Int) < 0 then _ else _) _ _ _
      rw [if_neg (by omega)]
      show wpAny _ _ (if (m : Int) ≥ 2 ^ 63 then _ else _) _ _ _
      rw [if_neg (by omega)]
      exact wpAny_bind (wpAny_mkInt (wpAny_pure ⟨_, rfl, .int (m : Int), H', I'.tok _, ⟨_, rfl⟩, hQ⟩))
    | next => exact False.elim hq
    | brk => exact False.elim hq
    | cont => exact False.elim hq
end MB

set_option maxHeartbeats 4000000
namespace PySem.W
open PySem
theorem entry_one : entryFor table "object.__ne__" = some Builtin.«object.__ne__» := entryFor_of_tree (by kernel_rfl)
theorem one_plain : plainId "object.__ne__" = true := by decide +kernel
theorem one_kind : builtinKind "object.__ne__" = some .slot := by decide +kernel
theorem one_split : splitId "object.__ne__" = some ("object", "__ne__") := by decide +kernel
theorem one_args (a b : Value) : argsOk "object.__ne__" ⟨[a, b], []⟩ := by unfold argsOk; kernel_rfl
theorem one_bind (self : Value) : bindSpecial (.builtin "object.__ne__") self = pure (.builtin "object.__ne__", [self]) :=
  (Slot.of (T := "object") (name := "__ne__") (owner := "object") (n := "__ne__") (by rw [typeLookup_type, builtinLookup_eq_fast]; kernel_rfl) (by decide +kernel) (by decide +kernel) (by decide +kernel)
    (.inl (by decide +kernel)) (by rw [isSubtype_type]; kernel_rfl)).bind self
section
variable {prog : Program} {w : World} {A : Around} {E : Value → Shared → Prop} {s : Shared} {K : Frag} {x C f : Addr} {ox : Obj} {od : Option Obj} {b tb : Value}
/-- `__ne__` is the object's own, `__eq__` the class's: != is not == -/
theorem cmpNe_K {Q : Value → Shared → Prop} (hu : A.units + 1 < cLine) (X : K.In s.heap) (I : InstAt s.heap x ox C od) (hb : Looks (model prog w) s.heap (typeOf b) tb) (hn : notFirst K C tb = true)
    (hne : findIn K (.ref C) "__ne__" = some (some (.builtin "object.__ne__"))) (hm : mroIn K C (.type "object") = some true)
    (hs : findIn K (.ref C) "__eq__" = some (some (.ref f))) (hf : isFn K (.ref f) = true)
    (h : wpAny (model prog w) A.in1 (call (.ref f) [.ref x, b]) (fun v s' => ∃ r, v = .bool r ∧ Q (.bool (!r)) s') E s) : wpAny (model prog w) A (richCompare .NotEq (.ref x) b) Q E s := by
  have hb0 : Looks (model prog w) s.heap (isInstance (.ref x) (.type "object")) true := by
    have e : Looks (model prog w) s.heap (isSubtype (.ref C) (.type "object")) true := looks_mroIn X hm
    exact I.type.andThen e
  have own : wpAny (model prog w) A.in1 (Builtin.«object.__ne__» ⟨[.ref x, b], []⟩) (fun fin s' => match fin with
      | .done fl => (wants (fun v s' => ∃ r, v = .bool r ∧ Q v s') E) (.ok fl) s'
      | .again c' => c'.quiet = true ∧ codeAny (model prog w) A c' (wants (fun v s' => ∃ r, v = .bool r ∧ Q v s') E) s') (fun e s' => wants (fun v s' => ∃ r, v = .bool r ∧ Q v s') E (.error e) s') s := by
    unfold Builtin.«object.__ne__»
    have hu0 : A.in1.units < cLine := hu
    refine wpAny_bind (wpAny_pure ?_)
    refine wpAny_bind (wpAny_cRoomFor hu0 ?_)
    refine wpAny_bind (m := callSpecialIfBound? (.ref x) (Str.ofString "__eq__") [b]) (ifBound_K X I hs hf (wpAny_mono h (fun v s' hv => ?_) fun _ _ e => e))
    obtain ⟨r, rfl, q⟩ := hv
    refine wpAny_bind (m := truthy (.bool r)) (wpAny_truthy_bool ?_)
    exact wpAny_pure ⟨_, rfl, q⟩
  have one : wpAny (model prog w) A (tryCompare (.ref x) "__ne__" b) (fun r s' => ∃ v, r = some v ∧ Q v s') E s := by
    unfold tryCompare
    refine wpAny_bind ?_
    simp only [callSpecialIfBound?, bindSpecialIfBound?]
    refine wpAny_holding (wpAny_bind (wpAny_bind (wpAny_bind (I.type.here ((looks_findIn X hne).here ?_)))))
    refine wpAny_bind (wpAny_askSetting (wpAny_ite ?_))
    have fin : wpAny (model prog w) A (call (.builtin "object.__ne__") ([.ref x] ++ [b]) >>= fun v => pure (some v)) (fun r s' => wpAny (model prog w) A (match r with | some .notImplemented | none => pure none | some v => pure (some v)) (fun r s' => ∃ v, r = some v ∧ Q v s') E s') E s := by
      refine wpAny_bind (wpAny_call ?_)
      refine codeAny_call_builtin one_plain entry_one (check_slot one_kind one_split hb0 (one_args _ _) ?_)
      refine wpAny_mono own (fun fin s' hv => ?_) fun _ _ e => e
      cases fin with
      | again c' => exact ⟨hv.1, codeAny_mono hv.2 fun r s2 h2 => by
          cases r with
          | error e => exact h2
          | ok fl =>
            cases fl with
            | ret v => obtain ⟨r, rfl, q⟩ := h2; exact wpAny_pure (wpAny_pure ⟨_, rfl, q⟩)
            | next => exact h2
            | brk => exact h2
            | cont => exact h2⟩
      | done fl =>
        cases fl with
        | ret v => obtain ⟨r, rfl, q⟩ := hv; exact wpAny_pure (wpAny_pure ⟨_, rfl, q⟩)
        | next => exact hv
        | brk => exact hv
        | cont => exact hv
    split
    · refine wpAny_bind ?_
      rw [one_bind]
      exact wpAny_pure (wpAny_pure fin)
    · refine wpAny_tryCatch (wpAny_bind ?_)
      rw [one_bind]
      exact wpAny_pure (wpAny_pure fin)
  unfold richCompare
  simp only [oneThing_ref]
  refine wpAny_holding (wpAny_bind (wpAny_cRoomFor (Nat.lt_of_succ_lt hu) ?_))
  refine wpAny_bind (I.type.here (wpAny_bind (hb.here ?_)))
  split
  · rename_i q
    have e : subIn K tb (.ref C) = some false := by
      rcases Bool.or_eq_true_iff.mp hn with e | e
      · rw [beq_iff_eq.mp e] at q; simp at q
      · exact beq_iff_eq.mp e
    refine wpAny_bind ((looks_subIn X e).here ?_)
    simp only [Bool.false_eq_true, if_false]
    refine wpAny_bind (wpAny_mono one (fun r s' z => ?_) fun _ _ e => e)
    obtain ⟨v, rfl, hq⟩ := z
    exact wpAny_pure hq
  · refine wpAny_bind (wpAny_pure ?_)
    simp only [Bool.false_eq_true, if_false]
    refine wpAny_bind (wpAny_mono one (fun r s' z => ?_) fun _ _ e => e)
    obtain ⟨v, rfl, hq⟩ := z
    exact wpAny_pure hq
end
end PySem.W
namespace MB
open PySem PySem.Spec PyProof.Rows L2
/-! ### == and != of an own class with an own `__eq__` -/
/-- what the class must have for it -/
structure EqC (K : PySem.W.Frag) (C : Addr) : Prop where
  ne : PySem.W.findIn K (.ref C) "__ne__" = some (some (.builtin "object.__ne__"))
  mo : PySem.W.mroIn K C (.type "object") = some true
  ca : PySem.W.findIn K (.ref C) "__class__" = some (some (.builtin "object.__class__"))
  ty : PySem.W.typeIn K (.ref C) = some (.type "type")
def rEqO (C : Addr) (sp : Sp) (E : XK) : R2 := fun x y H Q => ∃ a dx fs b dy gs, x = .ref a ∧ y = .ref b ∧ H a = some (.ins C dx fs) ∧ H b = some (.ins C dy gs) ∧ sp [.ref a, .ref b] H (fun v H' => ∃ r, v = .bl r ∧ Q (.bl r) H') E
def rNeO (C : Addr) (sp : Sp) (E : XK) : R2 := fun x y H Q => ∃ a dx fs b dy gs, x = .ref a ∧ y = .ref b ∧ H a = some (.ins C dx fs) ∧ H b = some (.ins C dy gs) ∧ sp [.ref a, .ref b] H (fun v H' => ∃ r, v = .bl r ∧ Q (.bl (!r)) H') E
section
variable {X : Cx} {CX : CXT} {n : Nat} {C f : Addr} {fd : FuncData} {ps : List Str} {sp : Sp} {E : XK}
theorem op_eqO (F : FnOk X.prog X.w X.K X.mg X.base CX n f fd ps sp) (hr : Room n X.A)
    (hs : PySem.W.findIn X.K (.ref C) "__eq__" = some (some (.ref f))) (hf : PySem.W.isFn X.K (.ref f) = true) (hb : Binds X.K fd ps []) (hx : Passes CX X E) : OpR X (compareOp .Eq) (rEqO C sp E) := by
  intro pins s σ H x y u v Q I rx ry h
  obtain ⟨a, dx, fs, b, dy, gs, rfl, rfl, ha, hb', hsp⟩ := h
  cases rx
  cases ry
  obtain ⟨mA, J, _⟩ := ins_get I.hok ha
  obtain ⟨mB, J', _⟩ := ins_get I.hok hb'
  obtain ⟨od, J, _⟩ := J.look
  obtain ⟨od', J', _⟩ := J'.look
  obtain ⟨m, hF⟩ := I.fr
  show wpAny (model X.prog X.w) X.A (richCompare .Eq (.ref a) (.ref b)) (EP X pins σ Q) X.xe s
  refine PySem.W.cmp_K (op := .Eq) (tb := .ref C) hr.units0 hF I.ok.mod.kin J J'.type (by simp [PySem.W.notFirst]) hs hf ?_
  have e0 := I.env0
  have hl := F.len _ _ _ _ hsp
  have r2 : Vals [V.ref a, V.ref b] [Value.ref a, Value.ref b] := .cons rfl (.cons rfl .nil)
  refine wpAny_call (codeAny_mono (F.run X.A X.stack s H ⟨[.ref a, .ref b], []⟩ [.ref a, .ref b] [.ref a, .ref b] _ E hr e0 (by
    have := hb s [.ref a, .ref b] I.kIn (by simpa using hl)
    simpa using this) r2 hsp) fun r s' hq => ?_)
  cases r with
  | error e => exact hx pins σ H s e s' I hq
  | ok fl =>
    cases fl with
    | ret w =>
      obtain ⟨z, H', I', rz, r, rfl, hQ⟩ := I.after hq
      cases rz
      exact ⟨.bl r, H', I', rfl, hQ⟩
    | next => exact False.elim hq
    | brk => exact False.elim hq
    | cont => exact False.elim hq
theorem op_neO (F : FnOk X.prog X.w X.K X.mg X.base CX n f fd ps sp) (hr : Room (n + 1) X.A) (ec : EqC X.K C)
    (hs : PySem.W.findIn X.K (.ref C) "__eq__" = some (some (.ref f))) (hf : PySem.W.isFn X.K (.ref f) = true) (hb : Binds X.K fd ps []) (hx : Passes CX X E) : OpR X (compareOp .NotEq) (rNeO C sp E) := by
  intro pins s σ H x y u v Q I rx ry h
  obtain ⟨a, dx, fs, b, dy, gs, rfl, rfl, ha, hb', hsp⟩ := h
  cases rx
  cases ry
  obtain ⟨mA, J, _⟩ := ins_get I.hok ha
  obtain ⟨mB, J', _⟩ := ins_get I.hok hb'
  obtain ⟨od, J, _⟩ := J.look
  obtain ⟨od', J', _⟩ := J'.look
  show wpAny (model X.prog X.w) X.A (richCompare .NotEq (.ref a) (.ref b)) (EP X pins σ Q) X.xe s
  refine PySem.W.cmpNe_K (tb := .ref C) (hr.in1).units0 I.kIn J J'.type (by simp [PySem.W.notFirst]) ec.ne ec.mo hs hf ?_
  have e0 : Env0 X.prog X.w X.K X.mg X.base X.A.in1 X.stack s H := by
    have e := I.env0
    exact ⟨e.frames, e.mod, e.bs, e.bsz, e.funs, e.frf, e.hok, e.bare⟩
  have hl := F.len _ _ _ _ hsp
  have r2 : Vals [V.ref a, V.ref b] [Value.ref a, Value.ref b] := .cons rfl (.cons rfl .nil)
  refine wpAny_call (codeAny_mono (F.run X.A.in1 X.stack s H ⟨[.ref a, .ref b], []⟩ [.ref a, .ref b] [.ref a, .ref b] _ E hr.in1 e0 (by
    have := hb s [.ref a, .ref b] I.kIn (by simpa using hl)
    simpa using this) r2 hsp) fun r s' hq => ?_)
  cases r with
  | error e => exact hx pins σ H s e s' I hq
  | ok fl =>
    cases fl with
    | ret w =>
      obtain ⟨z, H', I', rz, r, rfl, hQ⟩ := I.after hq
      cases rz
      exact ⟨r, rfl, .bl (!r), H', I', rfl, hQ⟩
    | next => exact False.elim hq
    | brk => exact False.elim hq
    | cont => exact False.elim hq
end
/-- a text or a tuple beside an own class's instance -/
def OthV (K : PySem.W.Frag) (H : Hp) (y : V) : Prop := (∃ z : Str, y = .str z) ∨ ∃ (b : Addr) (xs : List V), y = .ref b ∧ H b = some (.tup xs)
def rEqOy (K : PySem.W.Frag) (C : Addr) (sp : Sp) (E : XK) : R2 := fun x y H Q => ∃ a dx fs, x = .ref a ∧ H a = some (.ins C dx fs) ∧ OthV K H y ∧ sp [.ref a, y] H (fun v H' => ∃ r, v = .bl r ∧ Q (.bl r) H') E
theorem op_eqOy {X : Cx} {CX : CXT} {n : Nat} {C f : Addr} {fd : FuncData} {ps : List Str} {sp : Sp} {E : XK} (F : FnOk X.prog X.w X.K X.mg X.base CX n f fd ps sp) (hr : Room n X.A)
    (hs : PySem.W.findIn X.K (.ref C) "__eq__" = some (some (.ref f))) (hf : PySem.W.isFn X.K (.ref f) = true) (hb : Binds X.K fd ps []) (hx : Passes CX X E) : OpR X (compareOp .Eq) (rEqOy X.K C sp E) := by
  intro pins s σ H x y u v Q I rx ry h
  obtain ⟨a, dx, fs, rfl, ha, ho, hsp⟩ := h
  cases rx
  obtain ⟨mA, J, _⟩ := ins_get I.hok ha
  obtain ⟨od, J, _⟩ := J.look
  obtain ⟨m, hF⟩ := I.fr
  obtain ⟨tb, hL, hN⟩ : ∃ tb, PySem.W.Looks (model X.prog X.w) s.heap (typeOf v) tb ∧ PySem.W.notFirst X.K C tb = true := by
    rcases ho with ⟨z, rfl⟩ | ⟨b, xs, rfl, hb2⟩
    · obtain ⟨t, rfl⟩ := (show ∃ t, v = Value.str z t from ry)
      exact ⟨.type "str", .of_pure rfl, by unfold PySem.W.notFirst; rw [Bool.or_eq_true]; exact .inr rfl⟩
    · cases ry
      obtain ⟨_, _, _, o, h1, h2, _⟩ := (show ObjOk X.prog X.w H s.heap b (.tup xs) from I.hok b _ hb2)
      refine ⟨.type "tuple", ?_, by unfold PySem.W.notFirst; rw [Bool.or_eq_true]; exact .inr rfl⟩
      rw [← h2]
      exact (PySem.W.Looks.ld h1).andThen .now
  show wpAny (model X.prog X.w) X.A (richCompare .Eq (.ref a) v) (EP X pins σ Q) X.xe s
  refine PySem.W.cmp_K (op := .Eq) (tb := tb) hr.units0 hF I.ok.mod.kin J hL hN hs hf ?_
  have e0 := I.env0
  have hl := F.len _ _ _ _ hsp
  have r2 : Vals [V.ref a, y] [Value.ref a, v] := .cons rfl (.cons ry .nil)
  refine wpAny_call (codeAny_mono (F.run X.A X.stack s H ⟨[.ref a, v], []⟩ [.ref a, v] [.ref a, y] _ E hr e0 (by
    have := hb s [.ref a, v] I.kIn (by simpa using hl)
    simpa using this) r2 hsp) fun r s' hq => ?_)
  cases r with
  | error e => exact hx pins σ H s e s' I hq
  | ok fl =>
    cases fl with
    | ret w =>
      obtain ⟨z, H', I', rz, r, rfl, hQ⟩ := I.after hq
      cases rz
      exact ⟨.bl r, H', I', rfl, hQ⟩
    | next => exact False.elim hq
    | brk => exact False.elim hq
    | cont => exact False.elim hq
/-! ### == of dicts and of lists of dicts, whatever comes out -/
def dEq (ks ls : List (Key × V)) : Bool := ks.length == ls.length && ks.all fun p => match valV ls p.1 with
  | none => false
  | some u => eqV p.2 u
def lEq : List (List (Key × V)) → List (List (Key × V)) → Bool
  | [], [] => true
  | a :: as, b :: bs => dEq a b && lEq as bs
  | _, _ => false
def FlatD (ks : List (Key × V)) : Prop := ∀ p ∈ ks, flatV p.2 = true
theorem valV_mem {kvs : List (Key × V)} {k : Key} {v : V} (h : valV kvs k = some v) : (k, v) ∈ kvs := by
  unfold valV at h
  cases e : kvs.find? fun kv => decide (kv.1 = k) with
  | none => rw [e] at h; cases h
  | some q =>
    rw [e] at h
    have h1 := List.find?_some e
    have h2 := List.mem_of_find?_eq_some e
    cases h
    have : q.1 = k := by simpa using h1
    rw [← this]; exact h2
theorem hitsB {P : Program} {w : World} {A : Around} {s : Shared} {ls : List (Key × V)} {vb : List (Key × Value)} (rb : KV ls vb) (fl : FlatD ls) {ks : List (Key × V)} {va : List (Key × Value)}
    (ra : KV ks va) : FlatD ks → PySem.W.KeqHitsP P w A s vb va (ks.all fun p => match valV ls p.1 with
  | none => false
  | some u => eqV p.2 u) := by
  unfold KV at ra
  induction ra with
  | nil => intro _; exact .nil
  | @cons p q ps qs h t k =>
    intro hp
    obtain ⟨h1, h2⟩ := h
    obtain ⟨key, v⟩ := q
    have h1' : p.1 = key := h1
    have rr : RelO (valV ls p.1) (valueAt vb p.1) := rb.val p.1
    rw [List.all_cons]
    cases e : valV ls p.1 with
    | none =>
      rw [e] at rr
      have : valueAt vb p.1 = none := rr.none_of
      rw [h1'] at this
      show PySem.W.KeqHitsP P w A s vb ((key, v) :: qs) (false && _)
      rw [Bool.false_and]
      exact .miss this
    | some u =>
      rw [e] at rr
      obtain ⟨y, hy, ry⟩ := rr.some_of
      rw [h1'] at hy
      exact .hit hy (eqAt_V h2 ry (hp p List.mem_cons_self) (fl _ (valV_mem e))).eqP (k fun p' hm => hp p' (List.mem_cons_of_mem _ hm))
section
variable {X : Cx}
theorem rcP_dK {pins : List (Addr × Obj)} {σ : L2.St} {H : Hp} {s : Shared} (I : Inv X pins σ H s) {A : Around} (hu : A.units < cLine) {a b : Addr} {ks ls : List (Key × V)} (ha : H a = some (.dK ks)) (hb : H b = some (.dK ls)) (fk : FlatD ks) (fl : FlatD ls)
    (E Q : Value → Shared → Prop) (q : Q (.bool (dEq ks ls)) s) : wpAny (model X.prog X.w) A (richCompare .Eq (.ref a) (.ref b)) Q E s := by
  obtain ⟨_, ya, va, ra, da⟩ := (show ObjOk X.prog X.w H s.heap a (.dK ks) from I.hok a _ ha)
  obtain ⟨_, yb, vb, rb, db⟩ := (show ObjOk X.prog X.w H s.heap b (.dK ls) from I.hok b _ hb)
  refine PySem.W.rcP_dicts (knd := mixKind X.prog X.w) ya yb da db hu (fun _ => hitsB rb fl ra fk) E Q ?_
  have e1 : va.length = ks.length := by rw [← ra.length]
  have e2 : vb.length = ls.length := by rw [← rb.length]
  rw [e1, e2]
  exact q
def rEqB : R2 := fun x y H Q => ∃ a b ks ls, x = .ref a ∧ y = .ref b ∧ H a = some (.dK ks) ∧ H b = some (.dK ls) ∧ FlatD ks ∧ FlatD ls ∧ Q (.bl (dEq ks ls)) H
theorem op_eqB (hu : X.A.units < cLine) : OpR X (compareOp .Eq) rEqB := by
  intro pins s σ H x y v u Q I rx ry h
  obtain ⟨a, b, ks, ls, rfl, rfl, ha, hb, fk, fl, q⟩ := h
  cases (show v = Value.ref a from rx)
  cases (show u = Value.ref b from ry)
  exact rcP_dK I hu ha hb fk fl _ _ ⟨.bl _, H, I, rfl, q⟩
/-- a list of dicts, none of which the other list holds at the same place -/
def DsL (H : Hp) (ds : List Addr) (L : List (List (Key × V))) : Prop := ds.length = L.length ∧ ∀ (i : Nat) (di : Addr), ds[i]? = some di → ∃ kv, L[i]? = some kv ∧ H di = some (.dK kv)
def rEqLB : R2 := fun x y H Q => ∃ a b ds es L M, x = .ref a ∧ y = .ref b ∧ H a = some (.lst (ds.map V.ref)) ∧ H b = some (.lst (es.map V.ref)) ∧ DsL H ds L ∧ DsL H es M ∧ (∀ kv ∈ L, FlatD kv) ∧ (∀ kv ∈ M, FlatD kv) ∧ (∀ (i : Nat) (d : Addr), ds[i]? = some d → es[i]? = some d → dEq (L.getD i []) (M.getD i []) = true) ∧ Q (.bl (lEq L M)) H
theorem lEq_range : ∀ (L M : List (List (Key × V))), L.length = M.length → lEq L M = (List.range L.length).all fun j => dEq (L.getD j []) (M.getD j [])
  | [], [], _ => rfl
  | a :: as, b :: bs, h => by
    have ih := lEq_range as bs (by simpa using h)
    show (dEq a b && lEq as bs) = _
    rw [ih, List.length_cons, List.range_succ_eq_map, List.all_cons, List.all_map]
    rfl
  | [], _ :: _, h => by cases h
  | _ :: _, [], h => by cases h
theorem lEq_len : ∀ (L M : List (List (Key × V))), L.length ≠ M.length → lEq L M = false
  | [], [], h => absurd rfl h
  | a :: as, b :: bs, h => by
    have ih := lEq_len as bs (by simpa using h)
    show (dEq a b && lEq as bs) = _
    rw [ih, Bool.and_false]
  | [], _ :: _, h => rfl
  | _ :: _, [], h => rfl
theorem op_eqLB (hu : X.A.units + 1 < cLine) : OpR X (compareOp .Eq) rEqLB := by
  intro pins s σ H x y v u Q I rx ry h
  obtain ⟨a, b, ds, es, L, M, rfl, rfl, ha, hb, ⟨l1, g1⟩, ⟨l2, g2⟩, f1, f2, nn, q⟩ := h
  cases (show v = Value.ref a from rx)
  cases (show u = Value.ref b from ry)
  obtain ⟨us, r1, p1, _⟩ := I.list (.inl (.inl ha))
  obtain ⟨ws, r2, p2, _⟩ := I.list (.inl (.inl hb))
  have e1 : us.length = L.length := by rw [← r1.length, List.length_map, l1]
  have e2 : ws.length = M.length := by rw [← r2.length, List.length_map, l2]
  show wpAny (model X.prog X.w) X.A (richCompare .Eq (.ref a) (.ref b)) (EP X pins σ Q) X.xe s
  by_cases hl : L.length = M.length
  · have hsz : us.toArray.size = ws.toArray.size := by rw [List.size_toArray, List.size_toArray, e1, e2, hl]
    refine SeqAt.rcP_lists (e := fun j => dEq (L.getD j []) (M.getD j [])) p1.isList p2.isList hsz (Nat.lt_of_succ_lt hu) (fun j h1 h2 => ?_) _ _ ?_
    · have h1' : j < us.length := by simpa using h1
      have h2' : j < ws.length := by simpa using h2
      have i1 : j < ds.length := by rw [l1, ← e1]; exact h1'
      have i2 : j < es.length := by rw [l2, ← e2]; exact h2'
      obtain ⟨z1, hz1, rz1⟩ := r1.get (i := j) (x := .ref ds[j]) (by rw [List.getElem?_map, List.getElem?_eq_getElem i1]; rfl)
      obtain ⟨z2, hz2, rz2⟩ := r2.get (i := j) (x := .ref es[j]) (by rw [List.getElem?_map, List.getElem?_eq_getElem i2]; rfl)
      rw [List.getElem?_eq_getElem h1'] at hz1
      rw [List.getElem?_eq_getElem h2'] at hz2
      obtain ⟨kv, k1, k2⟩ := g1 j _ (List.getElem?_eq_getElem i1)
      obtain ⟨kw, m1, m2⟩ := g2 j _ (List.getElem?_eq_getElem i2)
      have q1 : us.toArray[j] = .ref ds[j] := by
        show us[j] = _
        rw [Option.some.inj hz1]; cases rz1; rfl
      have q2 : ws.toArray[j] = .ref es[j] := by
        show ws[j] = _
        rw [Option.some.inj hz2]; cases rz2; rfl
      rw [q1, q2]
      by_cases n12 : ds[j] = es[j]
      · rw [nn j ds[j] (List.getElem?_eq_getElem i1) (by rw [n12]; exact List.getElem?_eq_getElem i2), n12]
        exact (SeqAt.EqAt.same _).eqP
      rw [List.getD_eq_getElem?_getD, List.getD_eq_getElem?_getD, k1, m1]
      exact SeqAt.eqP_refs n12 fun E2 Q2 h3 => rcP_dK I (A := X.A.in1) hu k2 m2 (f1 _ (List.mem_of_getElem? k1)) (f2 _ (List.mem_of_getElem? m1)) E2 Q2 h3
    · rw [List.size_toArray, e1, ← lEq_range L M hl]
      exact ⟨.bl _, H, I, rfl, q⟩
  · refine SeqAt.RcAt.lists_lengths p1.isList p2.isList (by simpa [e1, e2] using hl) (Nat.lt_of_succ_lt hu) X.prog X.w _ _ ?_
    rw [lEq_len L M hl] at q
    exact ⟨.bl false, H, I, rfl, q⟩
theorem op_eqBw (hu : X.A.units + 64 < cLine) : OpR X (compareOp .Eq) rEqB := op_eqB (by omega)
theorem op_eqLBw (hu : X.A.units + 64 < cLine) : OpR X (compareOp .Eq) rEqLB := op_eqLB (by omega)
end
end MB

set_option maxHeartbeats 4000000
namespace MB
open PySem PySem.Spec PyProof.Rows L2
/-! ### a store of the program, as it stands in the heap -/
/-- where its parts stand: itself, merges, batches, history, buffer; the dicts of the batches -/
structure St where
  p : Addr
  m : Addr
  b : Addr
  h : Addr
  d : Addr
  ds : List Addr
def St.own (s : St) : List Addr := [s.p, s.m, s.b, s.h, s.d]
def fldS (r m b d h : Addr) (n : Int) : List (Str × V) := [("rule", .ref r), ("merges", .ref m), ("batches", .ref b), ("buffer", .ref d), ("history", .ref h), ("searched", .int n)]
theorem fe_12 : ¬ (("rule" : Str) = "merges") := by decide +kernel
theorem fe_13 : ¬ (("rule" : Str) = "batches") := by decide +kernel
theorem fe_14 : ¬ (("rule" : Str) = "buffer") := by decide +kernel
theorem fe_15 : ¬ (("rule" : Str) = "history") := by decide +kernel
theorem fe_16 : ¬ (("rule" : Str) = "searched") := by decide +kernel
theorem fe_23 : ¬ (("merges" : Str) = "batches") := by decide +kernel
theorem fe_24 : ¬ (("merges" : Str) = "buffer") := by decide +kernel
theorem fe_25 : ¬ (("merges" : Str) = "history") := by decide +kernel
theorem fe_26 : ¬ (("merges" : Str) = "searched") := by decide +kernel
theorem fe_34 : ¬ (("batches" : Str) = "buffer") := by decide +kernel
theorem fe_35 : ¬ (("batches" : Str) = "history") := by decide +kernel
theorem fe_36 : ¬ (("batches" : Str) = "searched") := by decide +kernel
theorem fe_45 : ¬ (("buffer" : Str) = "history") := by decide +kernel
theorem fe_46 : ¬ (("buffer" : Str) = "searched") := by decide +kernel
theorem fe_56 : ¬ (("history" : Str) = "searched") := by decide +kernel
theorem put_nil {f : Str} {v : V} : putF f v [] = [(f, v)] := rfl
theorem put_eq {f : Str} {v w : V} {l : List (Str × V)} : putF f v ((f, w) :: l) = (f, v) :: l := by
  show (if f = f then _ else _) = _
  rw [if_pos rfl]
theorem put_ne {f g : Str} {v w : V} {l : List (Str × V)} (h : ¬ g = f) : putF f v ((g, w) :: l) = (g, w) :: putF f v l := by
  show (if g = f then _ else _) = _
  rw [if_neg h]
theorem fld_mk (r m b d h : Addr) (n : Int) : putF "searched" (.int n) (putF "history" (.ref h) (putF "buffer" (.ref d) (putF "batches" (.ref b) (putF "merges" (.ref m) (putF "rule" (.ref r) []))))) = fldS r m b d h n := by
  rw [put_nil, put_ne fe_12, put_nil, put_ne fe_13, put_ne fe_23, put_nil, put_ne fe_14, put_ne fe_24, put_ne fe_34, put_nil, put_ne fe_15, put_ne fe_25, put_ne fe_35, put_ne fe_45, put_nil,
    put_ne fe_16, put_ne fe_26, put_ne fe_36, put_ne fe_46, put_ne fe_56, put_nil]
  rfl
def pf1 (r : Addr) : List (Str × V) := [("rule", .ref r)]
def pf2 (r m : Addr) : List (Str × V) := [("rule", .ref r), ("merges", .ref m)]
def pf3 (r m b : Addr) : List (Str × V) := [("rule", .ref r), ("merges", .ref m), ("batches", .ref b)]
def pf4 (r m b d : Addr) : List (Str × V) := [("rule", .ref r), ("merges", .ref m), ("batches", .ref b), ("buffer", .ref d)]
def pf5 (r m b d h : Addr) : List (Str × V) := [("rule", .ref r), ("merges", .ref m), ("batches", .ref b), ("buffer", .ref d), ("history", .ref h)]
theorem pp1 (r : Addr) : putF "rule" (.ref r) [] = pf1 r := rfl
theorem pp2 (r m : Addr) : putF "merges" (.ref m) (pf1 r) = pf2 r m := by unfold pf1; rw [put_ne fe_12, put_nil]; rfl
theorem pp3 (r m b : Addr) : putF "batches" (.ref b) (pf2 r m) = pf3 r m b := by unfold pf2; rw [put_ne fe_13, put_ne fe_23, put_nil]; rfl
theorem pp4 (r m b d : Addr) : putF "buffer" (.ref d) (pf3 r m b) = pf4 r m b d := by unfold pf3; rw [put_ne fe_14, put_ne fe_24, put_ne fe_34, put_nil]; rfl
theorem pp5 (r m b d h : Addr) : putF "history" (.ref h) (pf4 r m b d) = pf5 r m b d h := by unfold pf4; rw [put_ne fe_15, put_ne fe_25, put_ne fe_35, put_ne fe_45, put_nil]; rfl
theorem pp6 (r m b d h : Addr) (n : Int) : putF "searched" (.int n) (pf5 r m b d h) = fldS r m b d h n := by unfold pf5; rw [put_ne fe_16, put_ne fe_26, put_ne fe_36, put_ne fe_46, put_ne fe_56, put_nil]; rfl
theorem fld_len (r m b d h : Addr) (n : Int) : (fldS r m b d h n).length = 6 := rfl
theorem fld_buffer (r m b d d' h : Addr) (n : Int) : putF "buffer" (.ref d') (fldS r m b d h n) = fldS r m b d' h n := by
  unfold fldS; rw [put_ne fe_14, put_ne fe_24, put_ne fe_34, put_eq]
theorem fld_searched (r m b d h : Addr) (n n' : Int) : putF "searched" (.int n') (fldS r m b d h n) = fldS r m b d h n' := by
  unfold fldS; rw [put_ne fe_16, put_ne fe_26, put_ne fe_36, put_ne fe_46, put_ne fe_56, put_eq]
theorem lk_hit {f : Str} {v : V} {l : List (Str × V)} : ((f, v) :: l).lookup f = some v := by simp [List.lookup]
theorem lk_miss {f g : Str} {v : V} {l : List (Str × V)} (h : ¬ g = f) : ((g, v) :: l).lookup f = l.lookup f := by
  have : (f == g) = false := by simpa using fun e => h e.symm
  simp [List.lookup, this]
theorem lk_rule (r m b d h : Addr) (n : Int) : (fldS r m b d h n).lookup ("rule" : Str) = some (.ref r) := lk_hit
theorem lk_merges (r m b d h : Addr) (n : Int) : (fldS r m b d h n).lookup ("merges" : Str) = some (.ref m) := by unfold fldS; rw [lk_miss fe_12]; exact lk_hit
theorem lk_batches (r m b d h : Addr) (n : Int) : (fldS r m b d h n).lookup ("batches" : Str) = some (.ref b) := by unfold fldS; rw [lk_miss fe_13, lk_miss fe_23]; exact lk_hit
theorem lk_buffer (r m b d h : Addr) (n : Int) : (fldS r m b d h n).lookup ("buffer" : Str) = some (.ref d) := by unfold fldS; rw [lk_miss fe_14, lk_miss fe_24, lk_miss fe_34]; exact lk_hit
theorem lk_history (r m b d h : Addr) (n : Int) : (fldS r m b d h n).lookup ("history" : Str) = some (.ref h) := by unfold fldS; rw [lk_miss fe_15, lk_miss fe_25, lk_miss fe_35, lk_miss fe_45]; exact lk_hit
theorem lk_searched (r m b d h : Addr) (n : Int) : (fldS r m b d h n).lookup ("searched" : Str) = some (.int n) := by unfold fldS; rw [lk_miss fe_16, lk_miss fe_26, lk_miss fe_36, lk_miss fe_46, lk_miss fe_56]; exact lk_hit
/-- a name that is no field -/
theorem lk_no (r m b d h : Addr) (n : Int) {f : Str} (e : (["rule", "merges", "batches", "buffer", "history", "searched"] : List Str).contains f = false) : (fldS r m b d h n).lookup f = none := by
  simp only [List.contains_cons, List.contains_nil, Bool.or_false, Bool.or_eq_false_iff] at e
  obtain ⟨h1, h2, h3, h4, h5, h6⟩ := e
  unfold fldS
  simp [List.lookup, h1, h2, h3, h4, h5, h6]
/-- a policy: its name and its numbers -/
def PolN (nm : Str) (ks : List Int) : Prop := ((nm = "manual" ∧ ks.length = 0) ∨ (nm = "runs" ∧ ks.length = 1) ∨ (nm = "budget" ∧ ks.length = 2)) ∧ ∀ k, k ∈ ks → 1 ≤ k ∧ k ≤ 60
def polV (nm : Str) (ks : List Int) : List V := V.str nm :: ks.map V.int
/-- all but these stay -/
def ButL (S : List Addr) (H H' : Hp) : Prop := ∀ c o, c ∉ S → H c = some o → H' c = some o
theorem ButL.refl {S : List Addr} {H : Hp} : ButL S H H := fun _ _ _ h => h
theorem ButL.of {S : List Addr} {H H' : Hp} (s : Same H H') : ButL S H H' := fun c o _ h => s c o h
theorem ButL.trans {S : List Addr} {H H1 H2 : Hp} (a : ButL S H H1) (b : ButL S H1 H2) : ButL S H H2 := fun c o n h => b c o n (a c o n h)
theorem ButL.mono {S S' : List Addr} {H H' : Hp} (a : ButL S H H') (h : ∀ c, c ∈ S → c ∈ S') : ButL S' H H' := fun c o n e => a c o (fun z => n (h c z)) e
theorem ButL.upd {S : List Addr} {H : Hp} {a : Addr} {o : HO} (h : a ∈ S) : ButL S H (L2.upd H a o) := fun c u n e => by
  rw [upd_ne (fun z => n (by rw [z]; exact h))]; exact e
/-- what is new stays free for what stood before -/
theorem ButL.drop {S : List Addr} {x : Addr} {H H1 H' : Hp} (a : ButL (x :: S) H1 H') (b : ButL S H H1) (n : H x = none) : ButL S H H' := fun c o nc e =>
  a c o (fun z => (List.mem_cons.mp z).elim (fun z => by rw [z, n] at e; cases e) nc) (b c o nc e)
/-- a store with a schedule t, entries L flushed, entries kvs in the buffer -/
structure StAt (K : PySem.W.Frag) (C : Addr) (H : Hp) (s : St) (pol : List V) (t : T) (L : List (List (Key × V))) (kvs : List (Key × V)) (hs : List V) (n : Int) : Prop where
  ex : ∃ dx r, H s.p = some (.ins C dx (fldS r s.m s.b s.d s.h n)) ∧ SqT K H r pol
  hm : H s.m = some (.lst (vi t.sch))
  hb : H s.b = some (.lst (s.ds.map V.ref))
  hh : H s.h = some (.lst hs)
  hd : H s.d = some (.dK kvs)
  mb : s.m ≠ s.b
  mh : s.m ≠ s.h
  bh : s.b ≠ s.h
  nd : (s.d :: s.ds).Nodup
  l1 : s.ds.length = L.length
  l2 : L.length = t.size
  bat : ∀ (i : Nat) (di : Addr), s.ds[i]? = some di → ∃ kv : List (Key × V), L[i]? = some kv ∧ H di = some (.dK kv)
theorem StAt.dn {K : PySem.W.Frag} {C : Addr} {H : Hp} {s : St} {pol : List V} {t : T} {L : List (List (Key × V))} {kvs : List (Key × V)} {hs : List V} {n : Int} (a : StAt K C H s pol t L kvs hs n) : s.d ∉ s.ds := (List.nodup_cons.mp a.nd).1
/-- what a write keeps for undo -/
def HX (K : PySem.W.Frag) (H : Hp) (x : V) (z : Str) (old : Option V) : Prop := ∃ b c, x = .ref b ∧ SqT K H b [.str z, .ref c] ∧ SqT K H c old.toList
theorem HX.keep {K : PySem.W.Frag} {H H' : Hp} {x : V} {z : Str} {old : Option V} (h : HX K H x z old) (k : Keep K H H') : HX K H' x z old := by
  obtain ⟨b, c, e, h1, h2⟩ := h
  exact ⟨b, c, e, k _ _ h1, k _ _ h2⟩
section
variable {K : PySem.W.Frag} {C : Addr} {H H' : Hp} {s : St} {pol : List V} {t : T} {L : List (List (Key × V))} {kvs : List (Key × V)} {hs : List V} {n : Int}
/-- all addresses of a store -/
def St.all (s : St) : List Addr := s.own ++ s.ds
theorem StAt.keepL {S : List Addr} (a : StAt K C H s pol t L kvs hs n) (b : ButL S H H') (ds : ∀ x, x ∈ s.all → x ∉ S) (kp : Keep K H H') : StAt K C H' s pol t L kvs hs n := by
  obtain ⟨dx, r, e1, e2⟩ := a.ex
  have m1 : s.p ∉ S := ds _ (by simp [St.all, St.own])
  have m2 : s.m ∉ S := ds _ (by simp [St.all, St.own])
  have m3 : s.b ∉ S := ds _ (by simp [St.all, St.own])
  have m4 : s.h ∉ S := ds _ (by simp [St.all, St.own])
  have m5 : s.d ∉ S := ds _ (by simp [St.all, St.own])
  refine ⟨⟨dx, r, b _ _ m1 e1, kp _ _ e2⟩, b _ _ m2 a.hm, b _ _ m3 a.hb, b _ _ m4 a.hh, b _ _ m5 a.hd, a.mb, a.mh, a.bh, a.nd, a.l1, a.l2, fun i di h => ?_⟩
  obtain ⟨kv, g1, g2⟩ := a.bat i di h
  exact ⟨kv, g1, b _ _ (ds _ (by simp [St.all, List.mem_of_getElem? h])) g2⟩
theorem StAt.same (a : StAt K C H s pol t L kvs hs n) (b : Same H H') : StAt K C H' s pol t L kvs hs n :=
  a.keepL (S := []) (.of b) (fun _ _ h => nomatch h) (Keep.of b)
/-- no tuple stands at a place of a store -/
theorem StAt.keep (a : StAt K C H s pol t L kvs hs n) (b : ButL s.own H H') : Keep K H H' := fun c xs h => by
  obtain ⟨dx, r, e1, e2⟩ := a.ex
  have key : ∀ u, H c = some u → (∀ (Cc dd : Addr) fs, u ≠ .ins Cc dd fs) → (∀ l, u ≠ .lst l) → (∀ l, u ≠ .dK l) → H' c = some u := fun u hu n1 n2 n3 => b c u (fun hc => by
    simp only [St.own, List.mem_cons, List.not_mem_nil, or_false] at hc
    rcases hc with rfl | rfl | rfl | rfl | rfl
    · rw [e1] at hu; exact n1 _ _ _ (Option.some.inj hu).symm
    · rw [a.hm] at hu; exact n2 _ (Option.some.inj hu).symm
    · rw [a.hb] at hu; exact n2 _ (Option.some.inj hu).symm
    · rw [a.hh] at hu; exact n2 _ (Option.some.inj hu).symm
    · rw [a.hd] at hu; exact n3 _ (Option.some.inj hu).symm) hu
  rcases h with (h | ⟨o, h⟩) | h
  · exact .inl (.inl (key _ h (fun _ _ _ z => nomatch z) (fun _ z => nomatch z) (fun _ z => nomatch z)))
  · exact .inl (.inr ⟨o, key _ h (fun _ _ _ z => nomatch z) (fun _ z => nomatch z) (fun _ z => nomatch z)⟩)
  · exact .inr h
end
end MB

set_option maxHeartbeats 4000000
namespace MB
open PySem PySem.Spec PyProof.Rows L2
/-! ### d.items() of a dict with ints and texts as keys, dict(d.items()), d.update(e) -/
/-- at p stands the view of the items of d -/
def viewO (p d : Addr) : HO := .ext fun h => ItemsView h p d
theorem viewO_ok {P : Program} {w : World} {H : Hp} {h : Heap} {p d : Addr} (e : h.get? p = some { cls := .type "dict_items", data := .fields #[.ref d] }) : ObjOk P w H h p (viewO p d) :=
  ⟨⟨_, e, rfl, rfl, rfl⟩, ⟨_, e⟩, fun _ _ x k => let ⟨o, ho, r⟩ := x; ⟨o, k o ho, r⟩⟩
section
variable {X : Cx}
def rItemsK : V → List V → Hp → VK → Prop := fun x xs H Q => ∃ (a : Addr) (kvs : List (Key × V)), x = .ref a ∧ xs = [] ∧ Rd H a (.dK kvs) ∧ ∀ p, H p = none → Q (.ref p) (upd H p (viewO p a))
theorem mt_itemsK : MtR X "dict.items" rItemsK := by
  intro pins s σ H x xs v us Q I rx rxs h
  obtain ⟨a, kvs, rfl, rfl, ha, q⟩ := h
  cases rx; cases rxs
  obtain ⟨_, lo, vs, _, dd⟩ := dk_rd I.hok ha
  refine call_meetsIn PySem.F.slot_dict_items dd.typeIs PySem.F.entry_dict_items (PySem.F.args_dict_items_1 _) (meets_dict_items (mixKind X.prog X.w) a lo) ⟨⟨vs, dd⟩, ?_⟩
  exact ⟨.ref s.heap.objs.size, _, I.laid (a := s.heap.objs.size) (o := viewO s.heap.objs.size a) (t' := s.toks) (fun _ _ e => Heap.get?_push_of_some _ e) (Nat.le_refl _) (viewO_ok (Heap.get?_push_size _ rfl)), rfl, q _ (I.hok.fresh (Nat.le_refl _))⟩
theorem kv_nodup {knd : KeyKind X.prog X.w Key} {h : Heap} {d : Addr} {vs : List (Key × Value)} (x : h.DictOf knd d vs) : (vs.map (·.1)).Nodup := let ⟨_, _, _, _, _, _, _, _, hn⟩ := x; hn
/-- dict(v), v the items of a dict -/
theorem call_dictV (hcalm : X.calm = true) : CallR X (.type "dict") (fun xs H Q => ∃ (p a : Addr) (kvs : List (Key × V)), xs = [.ref p] ∧ H p = some (viewO p a) ∧ Rd H a (.dK kvs) ∧ ∀ q, H q = none → Q (.ref q) (upd H q (.dK kvs))) := by
  intro pins s σ H xs us Q I r hh
  obtain ⟨p, a, kvs, rfl, hp, ha, q⟩ := hh
  obtain ⟨u, rfl, rx⟩ := vals1 r
  cases rx
  obtain ⟨hv, _, _⟩ := I.hok p _ hp
  obtain ⟨z, lo, vs, rel, dd⟩ := dk_rd I.hok ha
  obtain ⟨es, ep, hr, hl, hk⟩ := dd.raw
  have hm : (s.heap.objs.size == sysModules) = false := beq_eq_false_iff_ne.mpr (Nat.ne_of_gt I.big)
  refine call_dict_pairs (knd := mixKind X.prog X.w) (kvs := vs) (PairArg.items p a es ep) (I.ok.hd hcalm) ⟨hv, hr⟩ ⟨hl.symm, fun i key v hi => ?_⟩ (by rw [hl, ← rel.length]; exact z) fun h' tk hd' keep => ?_
  · obtain ⟨hi, rfl, rfl⟩ := hi
    obtain ⟨kv, hkv⟩ : ∃ kv, vs[i]? = some kv := ⟨_, List.getElem?_eq_getElem (by omega)⟩
    obtain ⟨h1, h2⟩ := hk i hi kv.1 kv.2 hkv
    exact ⟨kv.1, by rw [h2, hkv], h1⟩
  · rw [merged_nil_of_nodup vs (kv_nodup dd)] at hd'
    exact ⟨.ref s.heap.objs.size, upd H s.heap.objs.size (.dK kvs), I.laid (fun b o e => keep b o (fun h => nomatch h) e) (Nat.le_refl _)
      (show ObjOk X.prog X.w _ _ _ (.dK kvs) from ⟨z, hm, vs, rel, hd'⟩), rfl, q _ (I.hok.fresh (Nat.le_refl _))⟩
def rUpdateK : V → List V → Hp → VK → Prop := fun x xs H Q => ∃ (a b : Addr) (kvs more : List (Key × V)), x = .ref a ∧ xs = [.ref b] ∧ a ≠ b ∧ H a = some (.dK kvs) ∧ Rd H b (.dK more) ∧ kvs.length + more.length ≤ sizeLine ∧ Q .non (upd H a (.dK (mergeK kvs more)))
/-- d.update(e), e another dict -/
theorem mt_updateK : MtR X "dict.update" rUpdateK := by
  intro pins s σ H x xs v us Q I rx rxs h
  obtain ⟨a, b, kvs, more, rfl, rfl, nab, ha, hb, hz, q⟩ := h
  cases rx
  obtain ⟨u, rfl, ru⟩ := vals1 rxs
  cases ru
  obtain ⟨z1, lo1, vs, rel, dd⟩ := dk_of I.hok ha
  obtain ⟨z2, lo2, ws, rel2, dd2⟩ := dk_rd I.hok hb
  refine call_meetsIn PySem.F.slot_dict_update dd.typeIs PySem.F.entry_dict_update (PySem.F.args_dict_update_2 _ _) (meets_dict_update (mixKind X.prog X.w) a b nab lo2)
    ⟨vs, ws, dd, dd2, by rw [← rel.length, ← rel2.length]; exact hz, fun h' hd' ho' hs => ?_⟩
  have hl : (mergeK kvs more).length ≤ sizeLine := Nat.le_trans (length_mergeK more kvs) hz
  have he : ∃ o, h'.get? a = some o := let ⟨o, _, _, h1, _⟩ := hd'; ⟨o, h1⟩
  exact ⟨.non, _, d_write (t' := s.toks) I (by rw [ha]; exact True.intro) hs he (dk_new hl lo1 (rel2.merge rel) hd'), rfl, q⟩
end
/-- a list != [] -/
def rNeEL (K : PySem.W.Frag) : R2 := fun x y H Q => ∃ a b xs, x = .ref a ∧ y = .ref b ∧ SqL K H a xs ∧ SqL K H b [] ∧ Q (.bl (!xs.isEmpty)) H
theorem op_neEL {X : Cx} {K : PySem.W.Frag} (hK : X.K = K) (hu : X.A.units + 64 < cLine) : OpR X (compareOp .NotEq) (rNeEL K) := by
  subst hK
  intro pins s σ H x y v u Q I rx ry h
  obtain ⟨a, b, xs, rfl, rfl, h1, h2, q⟩ := h
  cases rx; cases ry
  obtain ⟨i1, r1, p1, _⟩ := I.list h1
  obtain ⟨i2, r2, p2, _⟩ := I.list h2
  cases r2
  have hl := r1.length
  cases xs with
  | nil =>
    cases r1
    exact PySem.EqBoolInt.of_rcne (PySem.SeqAt.RcNeAt.lists (items := #[]) (items2 := #[]) (e := fun _ => true) p1.isList p2.isList rfl (by omega) (fun j h1 h2 => absurd h2 (by simp))) ⟨.bl false, H, I, rfl, q⟩
  | cons x xs =>
    cases r1
    exact PySem.EqBoolInt.of_rcne (PySem.SeqAt.RcNeAt.lists_lengths (items2 := #[]) p1.isList p2.isList (by simp) (by omega)) ⟨.bl true, H, I, rfl, q⟩
end MB

set_option maxHeartbeats 4000000
namespace MB
open PySem PySem.Spec PyProof.Rows L2
/-! ### several stores -/
structure SD where
  s : St
  nm : Str
  ks : List Int
  t : T
  L : List (List (Key × V))
  kvs : List (Key × V)
  hs : List V
  n : Int
def SD.At (K : PySem.W.Frag) (C : Addr) (H : Hp) (x : SD) : Prop := StAt K C H x.s (polV x.nm x.ks) x.t x.L x.kvs x.hs x.n
theorem StAt.live {K : PySem.W.Frag} {C : Addr} {H : Hp} {s : St} {pol : List V} {t : T} {L : List (List (Key × V))} {kvs : List (Key × V)} {hs : List V} {n : Int} (a : StAt K C H s pol t L kvs hs n) {c : Addr} (h : c ∈ s.all) : H c ≠ none := fun e => by
  obtain ⟨dx, r, e1, e2⟩ := a.ex
  rcases List.mem_append.mp h with h | h
  · simp only [St.own, List.mem_cons, List.not_mem_nil, or_false] at h
    rcases h with rfl | rfl | rfl | rfl | rfl
    · rw [e1] at e; cases e
    · rw [a.hm] at e; cases e
    · rw [a.hb] at e; cases e
    · rw [a.hh] at e; cases e
    · rw [a.hd] at e; cases e
  · obtain ⟨i, hi⟩ := List.mem_iff_getElem?.mp h
    obtain ⟨kv, _, hd⟩ := a.bat i c hi
    rw [hd] at e; cases e
structure MS (K : PySem.W.Frag) (C : Addr) (H : Hp) (av : List Addr) (xs : List SD) : Prop where
  at_ : ∀ x, x ∈ xs → x.At K C H
  dis : ∀ (i j : Nat) (x y : SD), xs[i]? = some x → xs[j]? = some y → i ≠ j → ∀ c, c ∈ x.s.all → c ∉ y.s.all
  av_ : ∀ x, x ∈ xs → ∀ c, c ∈ av → c ∉ x.s.all
section
variable {K : PySem.W.Frag} {C : Addr} {H H' : Hp} {av : List Addr} {xs : List SD}
theorem MS.nil : MS K C H av [] := ⟨fun _ h => (nomatch h), fun i j x y h => by simp at h, fun _ h => (nomatch h)⟩
theorem MS.same (m : MS K C H av xs) (b : Same H H') : MS K C H' av xs := ⟨fun x h => StAt.same (m.at_ x h) b, m.dis, m.av_⟩
theorem MS.butL (m : MS K C H av xs) {S : List Addr} (hS : ∀ c, c ∈ S → c ∈ av) (b : ButL S H H') (kp : Keep K H H') : MS K C H' av xs :=
  ⟨fun x h => StAt.keepL (m.at_ x h) b (fun c hc hs => m.av_ x h c (hS c hs) hc) kp, m.dis, m.av_⟩
theorem MS.but (m : MS K C H av xs) {a : Addr} (ha : a ∈ av) (b : But a H H') (kp : Keep K H H') : MS K C H' av xs :=
  m.butL (S := [a]) (fun c hc => by rw [List.mem_singleton.mp hc]; exact ha) (fun c o n e => b c o (fun z => n (by rw [z]; exact List.mem_singleton.mpr rfl)) e) kp
theorem MS.set (m : MS K C H av xs) {i : Nat} {x x' : SD} (hi : xs[i]? = some x) (b : ButL x.s.own H H') (hx : x'.At K C H') (al : ∀ c, c ∈ x'.s.all → c ∈ x.s.all ∨ H c = none) (hav : ∀ c, c ∈ av → H c ≠ none) : MS K C H' av (xs.set i x') := by
  have kp := StAt.keep (m.at_ x (List.mem_of_getElem? hi)) b
  have hil := (List.getElem?_eq_some_iff.mp hi).1
  have hmem : ∀ (j : Nat) y, (xs.set i x')[j]? = some y → (j = i ∧ y = x') ∨ (j ≠ i ∧ xs[j]? = some y) := fun j y h => by
    by_cases e : i = j
    · subst e
      rw [List.getElem?_set_self hil] at h
      exact .inl ⟨rfl, (Option.some.inj h).symm⟩
    · rw [List.getElem?_set_ne e] at h
      exact .inr ⟨fun z => e z.symm, h⟩
  refine ⟨fun y hy => ?_, fun j l y z hj hl n c hc hz => ?_, fun y hy c hc hcy => ?_⟩
  · obtain ⟨j, hj⟩ := List.mem_iff_getElem?.mp hy
    rcases hmem j y hj with ⟨_, rfl⟩ | ⟨nj, hj⟩
    · exact hx
    · exact StAt.keepL (m.at_ y (List.mem_of_getElem? hj)) b (fun c hc hs => m.dis i j x y hi hj (fun e => nj e.symm) c (by simp only [St.all, List.mem_append]; exact .inl hs) hc) kp
  · rcases hmem j y hj with ⟨e1, e2⟩ | ⟨nj, hj'⟩ <;> rcases hmem l z hl with ⟨f1, f2⟩ | ⟨nl, hl'⟩
    · exact n (by omega)
    · rw [e1] at n
      rw [e2] at hc
      rcases al c hc with h | h
      · exact m.dis i l x z hi hl' n c h hz
      · exact StAt.live (m.at_ z (List.mem_of_getElem? hl')) hz h
    · rw [f1] at n
      rw [f2] at hz
      rcases al c hz with h | h
      · exact m.dis j i y x hj' hi n c hc h
      · exact StAt.live (m.at_ y (List.mem_of_getElem? hj')) hc h
    · exact m.dis j l y z hj' hl' n c hc hz
  · obtain ⟨j, hj⟩ := List.mem_iff_getElem?.mp hy
    rcases hmem j y hj with ⟨_, rfl⟩ | ⟨nj, hj⟩
    · rcases al c hcy with h | h
      · exact m.av_ x (List.mem_of_getElem? hi) c hc h
      · exact hav c hc h
    · exact m.av_ y (List.mem_of_getElem? hj) c hc hcy
/-- a store made: its parts are new -/
theorem MS.add (m : MS K C H av xs) {x : SD} (s : Same H H') (hx : x.At K C H') (al : ∀ c, c ∈ x.s.all → H c = none) (hav : ∀ c, c ∈ av → H c ≠ none) : MS K C H' av (xs ++ [x]) := by
  have hmem : ∀ (j : Nat) y, (xs ++ [x])[j]? = some y → xs[j]? = some y ∨ (j = xs.length ∧ y = x) := fun j y h => by
    by_cases e : j < xs.length
    · rw [List.getElem?_append_left e] at h; exact .inl h
    · rw [List.getElem?_append_right (by omega)] at h
      have e0 : j - xs.length = 0 := by
        have := (List.getElem?_eq_some_iff.mp h).1
        simp at this; omega
      rw [e0] at h
      exact .inr ⟨by omega, (Option.some.inj h).symm⟩
  have m' := m.same s
  refine ⟨fun y hy => ?_, fun j l y z hj hl n c hc hz => ?_, fun y hy c hc hcy => ?_⟩
  · rcases List.mem_append.mp hy with h | h
    · exact m'.at_ y h
    · rw [List.mem_singleton.mp h]; exact hx
  · rcases hmem j y hj with hj' | ⟨ej, fj⟩ <;> rcases hmem l z hl with hl' | ⟨el, fl⟩
    · exact m.dis j l y z hj' hl' n c hc hz
    · rw [fl] at hz
      exact StAt.live (m.at_ y (List.mem_of_getElem? hj')) hc (al c hz)
    · rw [fj] at hc
      exact StAt.live (m.at_ z (List.mem_of_getElem? hl')) hz (al c hc)
    · exact n (by omega)
  · rcases List.mem_append.mp hy with h | h
    · exact m.av_ y h c hc hcy
    · rw [List.mem_singleton.mp h] at hcy; exact hav c hc (al c hcy)
/-- more places that no store holds -/
theorem MS.more (m : MS K C H av xs) {a : Addr} (h : ∀ x, x ∈ xs → a ∉ x.s.all) : MS K C H (a :: av) xs := ⟨m.at_, m.dis, fun x hx c hc => by
  rcases List.mem_cons.mp hc with rfl | hc
  · exact h x hx
  · exact m.av_ x hx c hc⟩
theorem MS.free (m : MS K C H av xs) {a : Addr} (h : H a = none) : MS K C H (a :: av) xs := m.more fun x hx hc => StAt.live (m.at_ x hx) hc h
theorem MS.less (m : MS K C H av xs) {av' : List Addr} (h : ∀ c, c ∈ av' → c ∈ av) : MS K C H av' xs := ⟨m.at_, m.dis, fun x hx c hc => m.av_ x hx c (h c hc)⟩
end
end MB

set_option maxHeartbeats 4000000
namespace MB
/-! ### binomial coefficients -/
def bin : Nat → Nat → Nat
  | _, 0 => 1
  | 0, _ + 1 => 0
  | n + 1, k + 1 => bin n k + bin n (k + 1)
theorem bin_zero (n : Nat) : bin n 0 = 1 := by cases n <;> rfl
theorem bin_succ (n k : Nat) : bin (n + 1) (k + 1) = bin n k + bin n (k + 1) := rfl
theorem bin_lt : ∀ {n k : Nat}, n < k → bin n k = 0
  | 0, k + 1, _ => rfl
  | n + 1, k + 1, h => by rw [bin_succ, bin_lt (n := n) (by omega), bin_lt (n := n) (by omega)]
theorem bin_self : ∀ n : Nat, bin n n = 1
  | 0 => rfl
  | n + 1 => by rw [bin_succ, bin_self n, bin_lt (by omega)]
theorem bin_one : ∀ n : Nat, bin n 1 = n
  | 0 => rfl
  | n + 1 => by rw [bin_succ, bin_zero, bin_one n]; omega
theorem bin_pos : ∀ {n k : Nat}, k ≤ n → 0 < bin n k
  | n, 0, _ => by rw [bin_zero]; decide
  | n + 1, k + 1, h => by rw [bin_succ]; have := bin_pos (n := n) (k := k) (by omega); omega
theorem bin_mul : ∀ n k : Nat, bin (n + 1) (k + 1) * (k + 1) = (n + 1) * bin n k
  | 0, 0 => by decide
  | 0, k + 1 => by simp [bin]
  | n + 1, 0 => by rw [bin_one, bin_zero]
  | n + 1, k + 1 => by
    have h1 := bin_mul n k
    have h2 := bin_mul n (k + 1)
    rw [bin_succ (n + 1) (k + 1), Nat.add_mul, h2]
    have e1 : bin (n + 1) (k + 1) * (k + 1 + 1) = bin (n + 1) (k + 1) * (k + 1) + bin (n + 1) (k + 1) := by rw [Nat.mul_add, Nat.mul_one]
    rw [e1, h1, bin_succ n k]
    grind
/-- the next one in a row -/
theorem bin_step {n j : Nat} (h : j ≤ n) : bin n (j + 1) * (j + 1) = bin n j * (n - j) := by
  have h1 := bin_mul n j
  rw [bin_succ, Nat.add_mul] at h1
  have e : (n + 1) * bin n j = bin n j * (n - j) + bin n j * (j + 1) := by rw [← Nat.mul_add, Nat.mul_comm]; congr 1; omega
  omega
theorem bin_div {n j : Nat} (h : j ≤ n) : bin n j * (n - j) / (j + 1) = bin n (j + 1) := by
  rw [← bin_step h, Nat.mul_div_cancel _ (by omega)]
theorem bin_sym : ∀ a b : Nat, bin (a + b) a = bin (a + b) b
  | 0, b => by rw [Nat.zero_add, bin_zero, bin_self]
  | a + 1, 0 => by rw [Nat.add_zero, bin_zero, bin_self]
  | a + 1, b + 1 => by
    have e : a + 1 + (b + 1) = (a + b + 1) + 1 := by omega
    rw [e, bin_succ (a + b + 1) a, bin_succ (a + b + 1) b]
    have h1 := bin_sym a (b + 1)
    have h2 := bin_sym (a + 1) b
    have e1 : a + (b + 1) = a + b + 1 := by omega
    have e2 : a + 1 + b = a + b + 1 := by omega
    rw [e1] at h1; rw [e2] at h2
    omega
theorem bin_sub {n k : Nat} (h : k ≤ n) : bin n (n - k) = bin n k := by
  have := bin_sym k (n - k)
  rw [show k + (n - k) = n by omega] at this
  exact this.symm
theorem bin_min {n k : Nat} (h : k ≤ n) : bin n (min k (n - k)) = bin n k := by
  by_cases c : k ≤ n - k
  · rw [Nat.min_eq_left c]
  · rw [Nat.min_eq_right (by omega), bin_sub h]
theorem bin_mono1 : ∀ n k : Nat, bin n k ≤ bin (n + 1) k
  | n, 0 => by rw [bin_zero, bin_zero]; exact Nat.le_refl _
  | n, k + 1 => by rw [bin_succ]; omega
theorem bin_mono {n m : Nat} (k : Nat) (h : n ≤ m) : bin n k ≤ bin m k := by
  induction h with
  | refl => exact Nat.le_refl _
  | step _ ih => exact Nat.le_trans ih (bin_mono1 _ _)
theorem bin_strict1 {n k : Nat} (h : k ≤ n + 1) : bin n (k + 1) < bin (n + 1) (k + 1) ∨ n < k := by
  by_cases c : n < k
  · exact .inr c
  · refine .inl ?_
    rw [bin_succ]
    have := bin_pos (n := n) (k := k) (by omega)
    omega
theorem bin_strict {n m k : Nat} (hk : 1 ≤ k) (hn : k ≤ n + 1) (h : n < m) : bin n k < bin m k := by
  have h1 : bin n k < bin (n + 1) k := by
    obtain ⟨j, rfl⟩ : ∃ j, k = j + 1 := ⟨k - 1, by omega⟩
    rw [bin_succ]
    have := bin_pos (n := n) (k := j) (by omega)
    omega
  exact Nat.lt_of_lt_of_le h1 (bin_mono k h)
theorem bin_pow : ∀ n k : Nat, bin n k ≤ (n + 1) ^ k
  | n, 0 => by rw [bin_zero]; simp
  | 0, k + 1 => by rw [bin_lt (by omega)]; exact Nat.zero_le _
  | n + 1, k + 1 => by
    have h := bin_mul n k
    have h1 : bin (n + 1) (k + 1) ≤ bin (n + 1) (k + 1) * (k + 1) := Nat.le_mul_of_pos_right _ (by omega)
    have h2 := bin_pow n k
    have h3 : (n + 1) ^ k ≤ (n + 1 + 1) ^ k := Nat.pow_le_pow_left (by omega) _
    have h4 : (n + 1) * bin n k ≤ (n + 1 + 1) * (n + 1 + 1) ^ k := Nat.mul_le_mul (by omega) (Nat.le_trans h2 h3)
    have h5 : (n + 1 + 1) ^ (k + 1) = (n + 1 + 1) * (n + 1 + 1) ^ k := by rw [Nat.pow_succ, Nat.mul_comm]
    omega
theorem bin_bits {n k : Nat} (hn : n < 2 ^ 64) (hk : k ≤ 64) : bin n k < 2 ^ 4097 := by
  have h1 := bin_pow n k
  have h2 : (n + 1) ^ k ≤ (2 ^ 64) ^ k := Nat.pow_le_pow_left (by omega) _
  have h3 : (2 ^ 64) ^ k ≤ (2 ^ 64 : Nat) ^ 64 := Nat.pow_le_pow_right (by decide) hk
  have h4 : ((2 ^ 64 : Nat) ^ 64) < 2 ^ 4097 := by decide +kernel
  omega
theorem bin_big {k c : Nat} (hk : 1 ≤ k) : c + 1 ≤ bin (k + c) k := by
  induction c with
  | zero => show 1 ≤ bin k k; rw [bin_self]; exact Nat.le_refl _
  | succ c ih =>
    have := bin_strict (n := k + c) (m := k + (c + 1)) (k := k) hk (by omega) (by omega)
    omega
/-- c is the least with n < C(k + c, k) -/
def Lw (k n c : Nat) : Prop := n < bin (k + c) k ∧ ∀ d, d < c → bin (k + d) k ≤ n
theorem Lw.uniq {k n c d : Nat} (a : Lw k n c) (b : Lw k n d) : c = d := by
  rcases Nat.lt_trichotomy c d with h | h | h
  · have := b.2 c h; have := a.1; omega
  · exact h
  · have := a.2 d h; have := b.1; omega
theorem Lw.mk' {k n c : Nat} (h : n < bin (k + c) k) (h' : c = 0 ∨ bin (k + (c - 1)) k ≤ n) : Lw k n c := by
  refine ⟨h, fun d hd => ?_⟩
  rcases h' with e | e
  · omega
  · exact Nat.le_trans (bin_mono k (by omega)) e
def lwGo (k n : Nat) : Nat → Nat → Nat
  | 0, c => c
  | f + 1, c => if n < bin (k + c) k then c else lwGo k n f (c + 1)
def lwr (k n : Nat) : Nat := lwGo k n (n + 1) 0
theorem lwGo_ok {k n : Nat} (hk : 1 ≤ k) : ∀ f c, (∀ d, d < c → bin (k + d) k ≤ n) → n < f + c → Lw k n (lwGo k n f c)
  | 0, c, h, hf => ⟨by have := bin_big (k := k) (c := c) hk; unfold lwGo; omega, h⟩
  | f + 1, c, h, hf => by
    unfold lwGo
    by_cases hc : n < bin (k + c) k
    · rw [if_pos hc]; exact ⟨hc, h⟩
    · rw [if_neg hc]
      refine lwGo_ok hk f (c + 1) (fun d hd => ?_) (by omega)
      by_cases e : d < c
      · exact h d e
      · have : d = c := by omega
        subst this; omega
theorem lw_ok {k : Nat} (n : Nat) (hk : 1 ≤ k) : Lw k n (lwr k n) := lwGo_ok hk _ _ (fun _ h => absurd h (by omega)) (by omega)
theorem lwr_le {k n : Nat} (hk : 1 ≤ k) : lwr k n ≤ n := by
  have h := (lw_ok n hk).2
  by_cases c : lwr k n ≤ n
  · exact c
  · have h1 := h n (by omega)
    have := bin_big (k := k) (c := n) hk
    omega
end MB

set_option maxHeartbeats 4000000
namespace MB
/-- the terms above 0 of the representation of n with k terms -/
def rl : Nat → Nat → List Nat
  | 0, _ => []
  | k + 1, n => if n = 0 then [] else bin (k + lwr (k + 1) n) (k + 1) :: rl k (n - bin (k + lwr (k + 1) n) (k + 1))
theorem rl_zero (k : Nat) : rl k 0 = [] := by cases k <;> simp [rl]
theorem rl_succ {k n : Nat} (h : n ≠ 0) : rl (k + 1) n = bin (k + lwr (k + 1) n) (k + 1) :: rl k (n - bin (k + lwr (k + 1) n) (k + 1)) := by simp [rl, h]
theorem lw_pos {k n : Nat} (hk : 1 ≤ k) (hn : n ≠ 0) : 1 ≤ lwr k n := by
  have h := (lw_ok n hk).1
  by_cases c : lwr k n = 0
  · rw [c] at h
    have : bin (k + 0) k = 1 := bin_self k
    omega
  · omega
theorem top_le {k n : Nat} (hn : n ≠ 0) : bin (k + lwr (k + 1) n) (k + 1) ≤ n := by
  have h1 := lw_pos (k := k + 1) (by omega) hn
  have h2 := (lw_ok (k := k + 1) n (by omega)).2 (lwr (k + 1) n - 1) (by omega)
  rwa [show k + 1 + (lwr (k + 1) n - 1) = k + lwr (k + 1) n by omega] at h2
theorem top_pos {k n : Nat} (hn : n ≠ 0) : 0 < bin (k + lwr (k + 1) n) (k + 1) :=
  bin_pos (by have := lw_pos (k := k + 1) (by omega) hn; omega)
theorem rest_lt {k n : Nat} (hn : n ≠ 0) : n - bin (k + lwr (k + 1) n) (k + 1) < bin (k + lwr (k + 1) n) k := by
  have h1 := (lw_ok (k := k + 1) n (by omega)).1
  have h2 := top_le (k := k) hn
  rw [show k + 1 + lwr (k + 1) n = (k + lwr (k + 1) n) + 1 by omega, bin_succ] at h1
  omega
theorem rest_zero {n : Nat} (hn : n ≠ 0) : n - bin (0 + lwr (0 + 1) n) (0 + 1) = 0 := by
  have := rest_lt (k := 0) hn
  rw [bin_zero] at this
  omega
theorem rl_sum : ∀ k n : Nat, (k = 0 → n = 0) → (rl k n).sum = n
  | 0, n, h => by rw [h rfl]; rfl
  | k + 1, n, _ => by
    by_cases hn : n = 0
    · subst hn; rw [rl_zero]; rfl
    · rw [rl_succ hn, List.sum_cons, rl_sum k _ (fun e => by subst e; exact rest_zero hn)]
      have := top_le (k := k) hn
      omega
theorem rl_len : ∀ k n : Nat, (rl k n).length ≤ k
  | 0, n => by simp [rl]
  | k + 1, n => by
    by_cases hn : n = 0
    · subst hn; rw [rl_zero]; simp
    · rw [rl_succ hn, List.length_cons]
      have := rl_len k (n - bin (k + lwr (k + 1) n) (k + 1))
      omega
theorem rl_pos : ∀ k n : Nat, ∀ x, x ∈ rl k n → 0 < x ∧ x ≤ n
  | 0, n, x, h => by simp [rl] at h
  | k + 1, n, x, h => by
    by_cases hn : n = 0
    · subst hn; rw [rl_zero] at h; cases h
    · rw [rl_succ hn] at h
      rcases List.mem_cons.mp h with h | h
      · rw [h]; exact ⟨top_pos hn, top_le hn⟩
      · have := rl_pos k _ x h
        omega
/-- the last flush's run holds what was merged and its own -/
theorem rl_step : ∀ k n : Nat, ∃ m, m ≤ (rl (k + 1) n).length ∧ rl (k + 1) (n + 1) = (rl (k + 1) n).take m ++ [1 + ((rl (k + 1) n).drop m).sum]
  | k, n => by
    by_cases hn : n = 0
    · subst hn
      refine ⟨0, Nat.zero_le _, ?_⟩
      rw [rl_zero, rl_succ (by omega)]
      have e : lwr (k + 1) (0 + 1) = 1 := (lw_ok (0 + 1) (by omega)).uniq (Lw.mk' (by
        have := bin_big (k := k + 1) (c := 1) (by omega); omega) (.inr (by rw [show k + 1 + (1 - 1) = k + 1 by omega, bin_self]; exact Nat.le_refl _)))
      rw [e, bin_self, show 0 + 1 - 1 = 0 by omega, rl_zero]
      rfl
    · have hc := lw_ok (k := k + 1) n (by omega)
      by_cases hlt : n + 1 < bin (k + 1 + lwr (k + 1) n) (k + 1)
      · have e : lwr (k + 1) (n + 1) = lwr (k + 1) n := (lw_ok (n + 1) (by omega)).uniq ⟨hlt, fun d hd => Nat.le_succ_of_le (hc.2 d hd)⟩
        cases k with
        | zero =>
          exfalso
          have h1 := rest_zero hn
          rw [bin_one] at h1 hlt
          have h2 := top_le (k := 0) hn
          rw [bin_one] at h2
          omega
        | succ k =>
          have hT := top_le (k := k + 1) hn
          obtain ⟨m, hm, hs⟩ := rl_step k (n - bin (k + 1 + lwr (k + 1 + 1) n) (k + 1 + 1))
          refine ⟨m + 1, ?_, ?_⟩
          · rw [rl_succ hn, List.length_cons]; omega
          · rw [rl_succ (n := n + 1) (by omega), e, rl_succ hn, show n + 1 - bin (k + 1 + lwr (k + 1 + 1) n) (k + 1 + 1) = n - bin (k + 1 + lwr (k + 1 + 1) n) (k + 1 + 1) + 1 by omega, hs]
            simp
      · have e0 : n + 1 = bin (k + 1 + lwr (k + 1) n) (k + 1) := by have := hc.1; omega
        have e : lwr (k + 1) (n + 1) = lwr (k + 1) n + 1 := (lw_ok (n + 1) (by omega)).uniq (Lw.mk' (by
          rw [e0]; exact bin_strict (by omega) (by omega) (by omega)) (.inr (by rw [show lwr (k + 1) n + 1 - 1 = lwr (k + 1) n by omega]; omega)))
        refine ⟨0, Nat.zero_le _, ?_⟩
        rw [rl_succ (n := n + 1) (by omega), e, show k + (lwr (k + 1) n + 1) = k + 1 + lwr (k + 1) n by omega, ← e0, Nat.sub_self, rl_zero]
        have := rl_sum (k + 1) n (fun h => by omega)
        simp [this]
        omega
/-- just behind a lifetime there is one run -/
theorem rl_edge {k c : Nat} (hk : 1 ≤ k) : rl k (bin (k + c) k) = [bin (k + c) k] := by
  obtain ⟨j, rfl⟩ : ∃ j, k = j + 1 := ⟨k - 1, by omega⟩
  have hp := bin_pos (n := j + 1 + c) (k := j + 1) (by omega)
  have e : lwr (j + 1) (bin (j + 1 + c) (j + 1)) = c + 1 := (lw_ok _ (by omega)).uniq (Lw.mk' (bin_strict (by omega) (by omega) (by omega)) (.inr (by rw [show c + 1 - 1 = c by omega]; exact Nat.le_refl _)))
  rw [rl_succ (by omega), e, show j + (c + 1) = j + 1 + c by omega, Nat.sub_self, rl_zero]
/-- each term is a binomial coefficient, with falling upper numbers -/
theorem rl_tops : ∀ k n a : Nat, n < bin a k → ∃ ts : List Nat, ts.length = (rl k n).length ∧ (∀ i t, ts[i]? = some t → (rl k n)[i]? = some (bin t (k - i)) ∧ k - i ≤ t ∧ 1 ≤ k - i ∧ t < a) ∧ ∀ i t u, ts[i]? = some t → ts[i + 1]? = some u → u < t
  | 0, n, a, h => ⟨[], by simp [rl], by simp, by simp⟩
  | k + 1, n, a, h => by
    by_cases hn : n = 0
    · subst hn; exact ⟨[], by rw [rl_zero], by simp, by simp⟩
    · have h1 := lw_pos (k := k + 1) (by omega) hn
      have hlt : k + lwr (k + 1) n < a := by
        have h2 := top_le (k := k) hn
        by_cases c : k + lwr (k + 1) n < a
        · exact c
        · have := bin_mono (n := a) (m := k + lwr (k + 1) n) (k + 1) (by omega); omega
      obtain ⟨ts, e1, e2, e3⟩ := rl_tops k (n - bin (k + lwr (k + 1) n) (k + 1)) (k + lwr (k + 1) n) (rest_lt hn)
      refine ⟨(k + lwr (k + 1) n) :: ts, by rw [rl_succ hn]; simp [e1], ?_, ?_⟩
      · intro i t ht
        cases i with
        | zero =>
          simp only [List.getElem?_cons_zero, Option.some.injEq] at ht
          subst ht
          refine ⟨by rw [rl_succ hn]; rfl, by omega, by omega, hlt⟩
        | succ i =>
          simp only [List.getElem?_cons_succ] at ht
          obtain ⟨g1, g2, g3, g4⟩ := e2 i t ht
          refine ⟨by rw [rl_succ hn, List.getElem?_cons_succ, show k + 1 - (i + 1) = k - i by omega]; exact g1, by omega, by omega, by omega⟩
      · intro i t u ht hu
        cases i with
        | zero =>
          simp only [List.getElem?_cons_zero, Option.some.injEq] at ht
          simp only [List.getElem?_cons_succ] at hu
          subst ht
          exact (e2 0 u hu).2.2.2
        | succ i =>
          simp only [List.getElem?_cons_succ] at ht hu
          exact e3 i t u ht hu
end MB

set_option maxHeartbeats 4000000
namespace MB
/-! ### states: the greatest of the newer runs, what is left -/
def mx : List Nat → Nat
  | [] => 0
  | x :: xs => max x (mx xs)
theorem mx_cons (x : Nat) (xs : List Nat) : mx (x :: xs) = max x (mx xs) := rfl
theorem mx_fold : ∀ (xs : List Nat) (x : Nat), (xs.map (fun (m : Nat) => (m : Int))).foldl max (x : Int) = ((mx (x :: xs) : Nat) : Int)
  | [], x => by simp [mx]
  | y :: ys, x => by
    rw [List.map_cons, List.foldl_cons, show max (x : Int) (y : Int) = ((max x y : Nat) : Int) by omega, mx_fold ys (max x y)]
    simp only [mx]
    omega
theorem mx_le {c : Nat} : ∀ {xs : List Nat}, (∀ x, x ∈ xs → x ≤ c) → mx xs ≤ c
  | [], _ => Nat.zero_le _
  | x :: xs, h => by
    have h1 := h x (List.mem_cons_self ..)
    have h2 := mx_le (c := c) (xs := xs) fun y hy => h y (List.mem_cons_of_mem _ hy)
    rw [mx_cons]; omega
theorem mx_mem {x : Nat} : ∀ {xs : List Nat}, x ∈ xs → x ≤ mx xs
  | y :: ys, h => by
    rw [mx_cons]
    rcases List.mem_cons.mp h with h | h
    · subst h; omega
    · have := mx_mem h; omega
/-- a state within (k, c) -/
def Sta (k c : Nat) (st : List Nat) : Prop := st.length ≤ k ∧ ∀ x, x ∈ st → 1 ≤ x ∧ x ≤ c
theorem Sta.tail {k c x : Nat} {xs : List Nat} (h : Sta k c (x :: xs)) : Sta (k - 1) (mx (x :: xs)) xs :=
  ⟨by have := h.1; rw [List.length_cons] at this; omega, fun y hy => ⟨(h.2 y (List.mem_cons_of_mem _ hy)).1, by have := mx_mem hy; rw [mx_cons]; omega⟩⟩
theorem Sta.mx_le {k c : Nat} {st : List Nat} (h : Sta k c st) : mx st ≤ c := MB.mx_le fun x hx => (h.2 x hx).2
theorem Sta.mx_pos {k c x : Nat} {xs : List Nat} (h : Sta k c (x :: xs)) : 1 ≤ mx (x :: xs) := by
  have := (h.2 x (List.mem_cons_self ..)).1
  rw [mx_cons]; omega
theorem Sta.mono {k c k' c' : Nat} {st : List Nat} (h : Sta k c st) (h1 : k ≤ k') (h2 : c ≤ c') : Sta k' c' st :=
  ⟨by have := h.1; omega, fun x hx => ⟨(h.2 x hx).1, by have := (h.2 x hx).2; omega⟩⟩
/-- as the program adds it up -/
def remv : Nat → Nat → List Nat → Int
  | k, c, [] => (bin (k + c) k : Int) - 1
  | k, c, x :: xs => ((bin (k + c) k : Int) - (bin (k + mx (x :: xs)) k : Int)) + remv (k - 1) (mx (x :: xs)) xs
/-- what each run takes off -/
def brd : Nat → List Nat → Nat
  | _, [] => 0
  | k, x :: xs => bin (k + mx (x :: xs) - 1) k + brd (k - 1) xs
theorem pascal {k m : Nat} (hk : 1 ≤ k) (hm : 1 ≤ m) : bin (k + m) k = bin (k - 1 + m) (k - 1) + bin (k + m - 1) k := by
  obtain ⟨j, rfl⟩ : ∃ j, k = j + 1 := ⟨k - 1, by omega⟩
  rw [show j + 1 + m = (j + m) + 1 by omega, bin_succ, show j + 1 - 1 + m = j + m by omega, show j + 1 - 1 = j by omega, show j + m + 1 - 1 = j + m by omega]
theorem remv_brd : ∀ {k c : Nat} {st : List Nat}, Sta k c st → remv k c st = (bin (k + c) k : Int) - 1 - (brd k st : Int)
  | k, c, [], _ => by simp [remv, brd]
  | k, c, x :: xs, h => by
    have h1 := remv_brd h.tail
    have hk : 1 ≤ k := by have := h.1; rw [List.length_cons] at this; omega
    have hp := pascal hk h.mx_pos
    simp only [remv, brd]
    rw [h1]
    omega
theorem brd_le : ∀ {k c : Nat} {st : List Nat}, Sta k c st → brd k st + 1 ≤ bin (k + c) k
  | k, c, [], _ => by have := bin_pos (n := k + c) (k := k) (by omega); simp [brd]; omega
  | k, c, x :: xs, h => by
    have h1 := brd_le h.tail
    have hk : 1 ≤ k := by have := h.1; rw [List.length_cons] at this; omega
    have hp := pascal hk h.mx_pos
    have hm := bin_mono (n := k + mx (x :: xs)) (m := k + c) k (by have := h.mx_le; omega)
    simp only [brd]
    omega
theorem brd_room : ∀ {k c : Nat} {st : List Nat}, Sta k c st → 1 ≤ c → brd (k + 1) st + 1 ≤ brd k st + bin (k + c) (k + 1)
  | k, c, [], _, hc => by have := bin_pos (n := k + c) (k := k + 1) (by omega); simp [brd]; omega
  | k, c, x :: xs, h, hc => by
    have hk : 1 ≤ k := by have := h.1; rw [List.length_cons] at this; omega
    have h1 := brd_room h.tail h.mx_pos
    obtain ⟨j, rfl⟩ : ∃ j, k = j + 1 := ⟨k - 1, by omega⟩
    have hp := h.mx_pos
    have hm := bin_mono (n := j + 1 + mx (x :: xs)) (m := j + 1 + c) (j + 1 + 1) (by have := h.mx_le; omega)
    simp only [brd]
    rw [show j + 1 + 1 - 1 = j + 1 by omega, show j + 1 - 1 = j by omega] at *
    generalize mx (x :: xs) = M at *
    obtain ⟨m, rfl⟩ : ∃ m, M = m + 1 := ⟨M - 1, by omega⟩
    have e1 : bin (j + 1 + 1 + (m + 1) - 1) (j + 1 + 1) = bin (j + (m + 1)) (j + 1) + bin (j + 1 + m) (j + 1 + 1) := by
      rw [show j + 1 + 1 + (m + 1) - 1 = (j + m + 1) + 1 by omega, bin_succ, show j + m + 1 = j + (m + 1) by omega, show j + 1 + m = j + (m + 1) by omega]
    have e2 : bin (j + 1 + (m + 1)) (j + 1 + 1) = bin (j + (m + 1)) (j + 1) + bin (j + 1 + m) (j + 1 + 1) := by
      rw [show j + 1 + (m + 1) = (j + (m + 1)) + 1 by omega, bin_succ, show j + 1 + m = j + (m + 1) by omega]
    rw [show j + 1 + (m + 1) - 1 = j + (m + 1) by omega]
    omega
/-- element by element at most -/
def Le2 : List Nat → List Nat → Prop
  | [], _ => True
  | _ :: _, [] => False
  | x :: xs, y :: ys => x ≤ y ∧ Le2 xs ys
theorem Le2.refl : ∀ xs : List Nat, Le2 xs xs
  | [] => trivial
  | _ :: xs => ⟨Nat.le_refl _, Le2.refl xs⟩
theorem Le2.mx : ∀ {xs ys : List Nat}, Le2 xs ys → mx xs ≤ mx ys
  | [], _, _ => Nat.zero_le _
  | _ :: _, _ :: _, h => by
    have := Le2.mx h.2
    have := h.1
    rw [mx_cons, mx_cons]; omega
theorem Le2.brd : ∀ {k : Nat} {xs ys : List Nat}, Le2 xs ys → brd k xs ≤ brd k ys
  | _, [], _, _ => Nat.zero_le _
  | k, x :: xs, y :: ys, h => by
    have h1 := Le2.brd (k := k - 1) h.2
    have h2 := Le2.mx (xs := x :: xs) (ys := y :: ys) h
    have h3 := bin_mono (n := k + MB.mx (x :: xs) - 1) (m := k + MB.mx (y :: ys) - 1) k (by omega)
    simp only [MB.brd]
    omega
theorem Le2.dropLast : ∀ xs : List Nat, Le2 xs.dropLast xs
  | [] => trivial
  | [_] => trivial
  | x :: y :: xs => ⟨Nat.le_refl _, Le2.dropLast (y :: xs)⟩
theorem Le2.set : ∀ {xs : List Nat} {i v x : Nat}, xs[i]? = some x → v ≤ x → Le2 (xs.set i v) xs
  | [], i, v, x, h, _ => by simp at h
  | y :: ys, 0, v, x, h, hv => by
    simp at h; subst h
    exact ⟨hv, Le2.refl _⟩
  | y :: ys, i + 1, v, x, h, hv => ⟨Nat.le_refl _, Le2.set (by simpa using h) hv⟩
theorem brd_tail : ∀ {k x : Nat} {xs : List Nat}, brd k xs ≤ brd k (x :: xs)
  | k, x, [] => Nat.zero_le _
  | k, x, y :: ys => by
    have h1 := brd_tail (k := k - 1) (x := y) (xs := ys)
    have h3 := bin_mono (n := k + mx (y :: ys) - 1) (m := k + mx (x :: y :: ys) - 1) k (by simp only [mx]; omega)
    show bin (k + mx (y :: ys) - 1) k + brd (k - 1) ys ≤ bin (k + mx (x :: y :: ys) - 1) k + brd (k - 1) (y :: ys)
    omega
end MB

set_option maxHeartbeats 4000000
namespace MB
/-- the state after a flush that merges m runs -/
def sa (st : List Nat) (m : Nat) : List Nat := st.take (st.length - m) ++ [1 + mx (st.drop (st.length - m))]
theorem mx_append : ∀ xs ys : List Nat, mx (xs ++ ys) = max (mx xs) (mx ys)
  | [], ys => by simp [mx]
  | x :: xs, ys => by rw [List.cons_append, mx_cons, mx_cons, mx_append xs ys]; omega
theorem sa_all (st : List Nat) : sa st st.length = [1 + mx st] := by simp [sa]
theorem sa_cons {x : Nat} {xs : List Nat} {m : Nat} (h : m ≤ xs.length) : sa (x :: xs) m = x :: sa xs m := by
  unfold sa
  rw [List.length_cons, show xs.length + 1 - m = (xs.length - m) + 1 by omega]
  simp
theorem sa_len {st : List Nat} {m : Nat} (h : m ≤ st.length) : (sa st m).length = st.length - m + 1 := by
  unfold sa
  rw [List.length_append, List.length_take]
  simp
theorem sa_mx {st : List Nat} {m : Nat} : mx st ≤ mx (sa st m) := by
  unfold sa
  rw [mx_append]
  have h := mx_append (st.take (st.length - m)) (st.drop (st.length - m))
  rw [List.take_append_drop] at h
  simp only [mx]
  omega
/-- elements from 1 on, as many as there is room for -/
def Pos (k : Nat) (st : List Nat) : Prop := st.length ≤ k ∧ ∀ x, x ∈ st → 1 ≤ x
theorem Sta.pos {k c : Nat} {st : List Nat} (h : Sta k c st) : Pos k st := ⟨h.1, fun x hx => (h.2 x hx).1⟩
theorem Pos.sta {k : Nat} {st : List Nat} (h : Pos k st) : Sta k (mx st) st := ⟨h.1, fun x hx => ⟨h.2 x hx, mx_mem hx⟩⟩
theorem Pos.tail {k x : Nat} {xs : List Nat} (h : Pos k (x :: xs)) : Pos (k - 1) xs ∧ 1 ≤ k ∧ 1 ≤ x :=
  ⟨⟨by have := h.1; rw [List.length_cons] at this; omega, fun y hy => h.2 y (List.mem_cons_of_mem _ hy)⟩, by have := h.1; rw [List.length_cons] at this; omega, h.2 x (List.mem_cons_self ..)⟩
theorem brd_one (k v : Nat) : brd k [1 + v] = bin (k + v) k := by
  simp only [brd, mx]
  rw [show k + max (1 + v) 0 - 1 = k + v by omega]; rfl
/-- every flush costs at least one -/
theorem brd_sa : ∀ {k : Nat} {st : List Nat} {m : Nat}, Pos k st → m ≤ st.length → brd k st + 1 ≤ brd k (sa st m)
  | k, [], m, h, hm => by
    have : m = 0 := by simpa using hm
    subst this
    show brd k [] + 1 ≤ brd k [1 + 0]
    rw [brd_one, show k + 0 = k by omega, bin_self]
    simp [brd]
  | k, x :: xs, m, h, hm => by
    by_cases e : m = xs.length + 1
    · subst e
      rw [show xs.length + 1 = (x :: xs).length from rfl, sa_all, brd_one]
      exact brd_le h.sta
    · have hm' : m ≤ xs.length := by rw [List.length_cons] at hm; omega
      obtain ⟨h1, hk, hx⟩ := h.tail
      have ih := brd_sa h1 hm'
      rw [sa_cons hm']
      have hm2 := sa_mx (st := xs) (m := m)
      have hb := bin_mono (n := k + mx (x :: xs) - 1) (m := k + mx (x :: sa xs m) - 1) k (by rw [mx_cons, mx_cons]; omega)
      simp only [brd]
      omega
/-- what stands before the merged runs is greater than they are; these are exhausted -/
def Tight (k : Nat) (st : List Nat) (j : Nat) : Prop := (j = 0 ∨ ∃ y, st[j - 1]? = some y ∧ mx (st.drop j) < y) ∧ brd (k - j) (st.drop j) + 1 = bin (k - j + mx (st.drop j)) (k - j)
theorem brd_sa_eq : ∀ {k : Nat} {st : List Nat} {m : Nat}, Pos k st → m ≤ st.length → (brd k (sa st m) = brd k st + 1 ↔ Tight k st (st.length - m))
  | k, [], m, h, hm => by
    have : m = 0 := by simpa using hm
    subst this
    have e1 : brd k (sa [] 0) = 1 := by
      show brd k [1 + 0] = 1
      rw [brd_one, show k + 0 = k by omega, bin_self]
    rw [e1]
    refine ⟨fun _ => ⟨.inl rfl, ?_⟩, fun _ => by simp [brd]⟩
    simp only [List.drop_nil, mx, brd, List.length_nil]
    rw [show k - (0 - 0) + 0 = k - (0 - 0) by omega, bin_self]
  | k, x :: xs, m, h, hm => by
    by_cases e : m = xs.length + 1
    · subst e
      rw [show xs.length + 1 = (x :: xs).length from rfl, sa_all, brd_one, Nat.sub_self]
      constructor
      · intro e
        refine ⟨.inl rfl, ?_⟩
        simp only [Nat.sub_zero, List.drop_zero]
        omega
      · rintro ⟨_, e⟩
        simp only [Nat.sub_zero, List.drop_zero] at e
        omega
    · have hm' : m ≤ xs.length := by rw [List.length_cons] at hm; omega
      obtain ⟨h1, hk, hx⟩ := h.tail
      have ih := brd_sa_eq h1 hm'
      have ih1 := brd_sa h1 hm'
      rw [sa_cons hm']
      have hm2 := sa_mx (st := xs) (m := m)
      have hb := bin_mono (n := k + mx (x :: xs) - 1) (m := k + mx (x :: sa xs m) - 1) k (by rw [mx_cons, mx_cons]; omega)
      have hJ : (x :: xs).length - m = (xs.length - m) + 1 := by rw [List.length_cons]; omega
      rw [hJ]
      have hd : (x :: xs).drop (xs.length - m + 1) = xs.drop (xs.length - m) := rfl
      have hkk : k - (xs.length - m + 1) = k - 1 - (xs.length - m) := by omega
      have e1 : brd k (x :: sa xs m) = bin (k + mx (x :: sa xs m) - 1) k + brd (k - 1) (sa xs m) := rfl
      have e2 : brd k (x :: xs) = bin (k + mx (x :: xs) - 1) k + brd (k - 1) xs := rfl
      have step : brd k (x :: sa xs m) = brd k (x :: xs) + 1 ↔ (mx (x :: sa xs m) = mx (x :: xs) ∧ brd (k - 1) (sa xs m) = brd (k - 1) xs + 1) := by
        constructor
        · intro e
          have hq : bin (k + mx (x :: sa xs m) - 1) k = bin (k + mx (x :: xs) - 1) k := by omega
          refine ⟨?_, by omega⟩
          by_cases c : mx (x :: sa xs m) = mx (x :: xs)
          · exact c
          · have h0 : 1 ≤ mx (x :: xs) := by rw [mx_cons]; omega
            have h00 : mx (x :: xs) < mx (x :: sa xs m) := by rw [mx_cons, mx_cons] at c ⊢; omega
            have := bin_strict (n := k + mx (x :: xs) - 1) (m := k + mx (x :: sa xs m) - 1) (k := k) hk (by omega) (by omega)
            omega
        · rintro ⟨c1, c2⟩
          rw [e1, e2, c1, c2]; omega
      rw [step, ih]
      unfold Tight
      rw [hd, hkk]
      have hdec : mx xs = max (mx (xs.take (xs.length - m))) (mx (xs.drop (xs.length - m))) := by
        rw [← mx_append, List.take_append_drop]
      have hsa : mx (sa xs m) = max (mx (xs.take (xs.length - m))) (1 + mx (xs.drop (xs.length - m))) := by
        unfold sa; rw [mx_append]; simp [mx]
      constructor
      · rintro ⟨c1, c2, c3⟩
        refine ⟨.inr ?_, c3⟩
        rcases c2 with c2 | ⟨y, y1, y2⟩
        · rw [c2] at hsa hdec ⊢
          simp only [List.take_zero, mx] at hsa hdec
          refine ⟨x, rfl, ?_⟩
          rw [mx_cons, mx_cons] at c1
          omega
        · by_cases z : xs.length - m = 0
          · rw [z] at hsa hdec ⊢
            simp only [List.take_zero, mx] at hsa hdec
            refine ⟨x, rfl, ?_⟩
            rw [mx_cons, mx_cons] at c1
            omega
          · refine ⟨y, ?_, y2⟩
            rw [show xs.length - m + 1 - 1 = (xs.length - m - 1) + 1 by omega, List.getElem?_cons_succ]
            exact y1
      · rintro ⟨c2, c3⟩
        rcases c2 with c2 | ⟨y, y1, y2⟩
        · omega
        · by_cases z : xs.length - m = 0
          · rw [z] at y1 y2 hsa hdec c3 ⊢
            simp only [List.take_zero, mx] at hsa hdec
            have : y = x := by simpa using y1.symm
            subst this
            refine ⟨by rw [mx_cons, mx_cons]; omega, .inl rfl, c3⟩
          · rw [show xs.length - m + 1 - 1 = (xs.length - m - 1) + 1 by omega, List.getElem?_cons_succ] at y1
            have hy : y ≤ mx (xs.take (xs.length - m)) := by
              refine mx_mem (List.mem_of_getElem? (i := xs.length - m - 1) ?_)
              rw [List.getElem?_take, if_pos (by omega)]; exact y1
            refine ⟨by rw [mx_cons, mx_cons]; omega, .inr ⟨y, y1, y2⟩, c3⟩
/-- nothing is left: no room, and the newest run at the limit -/
theorem exh_iff : ∀ {k R : Nat} {xs : List Nat}, Sta k R xs → (brd k xs + 1 = bin (k + R) k ↔ (R = 0 ∨ (xs.length = k ∧ ∀ y, xs.getLast? = some y → y = R)))
  | k, R, [], h => by
    simp only [brd, List.length_nil, List.getLast?_nil]
    constructor
    · intro e
      by_cases hR : R = 0
      · exact .inl hR
      · refine .inr ⟨?_, by simp⟩
        by_cases hk : k = 0
        · exact hk.symm
        · have := bin_big (k := k) (c := R) (by omega); omega
    · rintro (rfl | ⟨rfl, _⟩)
      · show 0 + 1 = bin k k
        rw [bin_self]
      · rw [bin_zero]
  | k, R, x :: xs, h => by
    have hk : 1 ≤ k := by have := h.1; rw [List.length_cons] at this; omega
    have hM := h.mx_pos
    have hMR := h.mx_le
    have ht := h.tail
    have hp := pascal hk hM
    have hle := brd_le ht
    have e2 : brd k (x :: xs) = bin (k + mx (x :: xs) - 1) k + brd (k - 1) xs := rfl
    have hR : R ≠ 0 := by omega
    have key : brd k (x :: xs) + 1 = bin (k + R) k ↔ (mx (x :: xs) = R ∧ brd (k - 1) xs + 1 = bin (k - 1 + R) (k - 1)) := by
      constructor
      · intro e
        have hmm : mx (x :: xs) = R := by
          by_cases c : mx (x :: xs) = R
          · exact c
          · have := bin_strict (n := k + mx (x :: xs)) (m := k + R) (k := k) hk (by omega) (by omega)
            omega
        rw [hmm] at hp e2
        exact ⟨hmm, by omega⟩
      · rintro ⟨c1, c2⟩
        rw [c1] at hp e2
        omega
    rw [key]
    constructor
    · rintro ⟨c1, c2⟩
      rw [c1] at ht
      rcases (exh_iff ht).mp c2 with c | ⟨c3, c4⟩
      · exact absurd c hR
      · refine .inr ⟨by rw [List.length_cons]; omega, fun y hy => ?_⟩
        cases xs with
        | nil =>
          have : y = x := by simpa using hy.symm
          subst this
          simpa [mx] using c1
        | cons z zs =>
          rw [List.getLast?_cons_cons] at hy
          exact c4 y hy
    · rintro (c | ⟨c3, c4⟩)
      · exact absurd c hR
      · have hlast : ∃ y, (x :: xs).getLast? = some y := ⟨(x :: xs).getLast (by simp), List.getLast?_eq_some_getLast (by simp)⟩
        obtain ⟨y, hy⟩ := hlast
        have hyR := c4 y hy
        subst hyR
        have hmm : mx (x :: xs) = y := by
          have := mx_mem (List.mem_of_getLast? hy)
          omega
        refine ⟨hmm, ?_⟩
        rw [hmm] at ht
        refine (exh_iff ht).mpr (.inr ⟨by rw [List.length_cons] at c3; omega, fun z hz => ?_⟩)
        cases xs with
        | nil => simp at hz
        | cons u us =>
          rw [List.getLast?_cons_cons] at hy
          rw [hz] at hy
          exact Option.some.inj hy
/-- the bound of what is merged: the next older run, or the limit of writes -/
def bnd (c : Nat) (st : List Nat) (j : Nat) : Nat := (c :: st).getD j 0
def tst (c : Nat) (st : List Nat) (m : Nat) : Prop := mx (st.drop (st.length - m)) < bnd c st (st.length - m)
def few (k : Nat) (st : List Nat) : Nat := if st.length < k then 0 else 1
/-- what best_merge returns -/
def Bm (k c : Nat) (st : List Nat) (m : Nat) : Prop := few k st ≤ m ∧ m ≤ st.length ∧ tst c st m ∧ ∀ m', few k st ≤ m' → m' < m → ¬ tst c st m'
def BmN (k c : Nat) (st : List Nat) : Prop := ∀ m, few k st ≤ m → m ≤ st.length → ¬ tst c st m
theorem bnd_zero {c : Nat} {st : List Nat} : bnd c st 0 = c := rfl
theorem bnd_succ {c j : Nat} {st : List Nat} {y : Nat} (h : st[j]? = some y) : bnd c st (j + 1) = y := by
  simp [bnd, List.getD_eq_getElem?_getD, h]
/-- while no test holds, the greatest of the merged runs is the newest one -/
theorem chain {c : Nat} {st : List Nat} {m : Nat} (hm : m ≤ st.length) (hno : ∀ m', 1 ≤ m' → m' < m → ¬ tst c st m') (h1 : 1 ≤ m) : ∀ y, st.getLast? = some y → mx (st.drop (st.length - m)) = y := by
  induction m with
  | zero => omega
  | succ m ih =>
    intro y hy
    by_cases hm0 : m = 0
    · subst hm0
      have hne : st ≠ [] := by intro e; subst e; simp at hy
      have hpos := List.length_pos_iff.mpr hne
      have e : st.drop (st.length - (0 + 1)) = [st.getLast hne] := by
        rw [List.drop_eq_getElem_cons (show st.length - (0 + 1) < st.length by omega), show st.length - (0 + 1) + 1 = st.length by omega, List.drop_length, List.getLast_eq_getElem]
      rw [e]
      rw [List.getLast?_eq_some_getLast hne] at hy
      have := Option.some.inj hy
      simp [mx, this]
    · have ih' := ih (by omega) (fun m' a b => hno m' a (by omega)) (by omega) y hy
      have hf := hno m (by omega) (by omega)
      have hj : st.length - m = (st.length - (m + 1)) + 1 := by omega
      have hlt : st.length - (m + 1) < st.length := by omega
      have ed : st.drop (st.length - (m + 1)) = st[st.length - (m + 1)] :: st.drop (st.length - m) := by
        rw [hj]; exact List.drop_eq_getElem_cons hlt
      unfold tst at hf
      rw [hj, bnd_succ (List.getElem?_eq_getElem hlt), ← hj] at hf
      rw [ed, mx_cons]
      omega
theorem last_mem {st : List Nat} {y : Nat} (h : st.getLast? = some y) : y ∈ st := List.mem_of_getLast? h
theorem sa_sta {k c : Nat} {st : List Nat} {m : Nat} (h : Sta k c st) (hm : m ≤ st.length) (h1 : st.length - m + 1 ≤ k) (h2 : 1 + mx (st.drop (st.length - m)) ≤ c) : Sta k c (sa st m) := by
  refine ⟨by rw [sa_len hm]; exact h1, fun x hx => ?_⟩
  unfold sa at hx
  rcases List.mem_append.mp hx with hx | hx
  · exact h.2 x (List.mem_of_mem_take hx)
  · have : x = 1 + mx (st.drop (st.length - m)) := by simpa using hx
    subst this
    omega
theorem tst_ok {k c : Nat} {st : List Nat} {m : Nat} (h : Sta k c st) (hm : m ≤ st.length) (ht : tst c st m) : 1 + mx (st.drop (st.length - m)) ≤ c ∧ (st.length - m = 0 ∨ ∃ y, st[st.length - m - 1]? = some y ∧ mx (st.drop (st.length - m)) < y) := by
  unfold tst at ht
  by_cases hj : st.length - m = 0
  · rw [hj, bnd_zero] at ht
    exact ⟨by rw [hj]; omega, .inl hj⟩
  · have hlt : st.length - m - 1 < st.length := by omega
    have e : st.length - m = (st.length - m - 1) + 1 := by omega
    have hb := bnd_succ (c := c) (List.getElem?_eq_getElem hlt)
    rw [← e] at hb
    rw [hb] at ht
    have := h.2 _ (List.getElem_mem hlt)
    exact ⟨by omega, .inr ⟨_, List.getElem?_eq_getElem hlt, ht⟩⟩
theorem Bm.good {k c : Nat} {st : List Nat} {m : Nat} (h : Sta k c st) (b : Bm k c st m) : Sta k c (sa st m) ∧ brd k (sa st m) = brd k st + 1 := by
  obtain ⟨b1, b2, b3, b4⟩ := b
  obtain ⟨t1, t2⟩ := tst_ok h b2 b3
  have hl := h.1
  by_cases hk : st.length < k
  · have hf : few k st = 0 := if_pos hk
    have hm0 : m = 0 := by
      by_cases c0 : m = 0
      · exact c0
      · exfalso
        refine b4 0 (by omega) (by omega) ?_
        unfold tst
        rw [Nat.sub_zero, List.drop_length]
        have hlt : st.length - 1 < st.length := by omega
        have e : st.length = (st.length - 1) + 1 := by omega
        have hb := bnd_succ (c := c) (List.getElem?_eq_getElem hlt)
        rw [← e] at hb
        rw [hb]
        exact (h.2 _ (List.getElem_mem hlt)).1
    subst hm0
    refine ⟨sa_sta h b2 (by omega) t1, (brd_sa_eq h.pos b2).mpr ⟨t2, ?_⟩⟩
    rw [Nat.sub_zero, List.drop_length]
    show 0 + 1 = bin (k - st.length) (k - st.length)
    rw [bin_self]
  · have hf : few k st = 1 := if_neg hk
    rw [hf] at b1 b4
    refine ⟨sa_sta h b2 (by omega) t1, (brd_sa_eq h.pos b2).mpr ⟨t2, ?_⟩⟩
    have hne : st ≠ [] := by intro e; subst e; simp at b2; omega
    have hy : st.getLast? = some (st.getLast hne) := List.getLast?_eq_some_getLast hne
    have hc := chain b2 b4 b1 _ hy
    have hS : Sta (k - (st.length - m)) (mx (st.drop (st.length - m))) (st.drop (st.length - m)) :=
      ⟨by rw [List.length_drop]; omega, fun x hx => ⟨(h.2 x (List.mem_of_mem_drop hx)).1, mx_mem hx⟩⟩
    refine (exh_iff hS).mpr (.inr ⟨by rw [List.length_drop]; omega, fun y hy2 => ?_⟩)
    rw [hc]
    rw [List.getLast?_drop, if_neg (by omega), hy] at hy2
    exact (Option.some.inj hy2).symm
theorem BmN.zero {k c : Nat} {st : List Nat} (h : Sta k c st) (b : BmN k c st) : brd k st + 1 = bin (k + c) k := by
  have hl := h.1
  refine (exh_iff h).mpr ?_
  by_cases hk : st.length < k
  · have hf : few k st = 0 := if_pos hk
    have h0 := b 0 (by omega) (by omega)
    unfold tst at h0
    rw [Nat.sub_zero, List.drop_length] at h0
    by_cases hn : st.length = 0
    · rw [hn, bnd_zero] at h0
      simp only [mx] at h0
      exact .inl (by omega)
    · exfalso
      have hlt : st.length - 1 < st.length := by omega
      have e : st.length = (st.length - 1) + 1 := by omega
      have hb := bnd_succ (c := c) (List.getElem?_eq_getElem hlt)
      rw [← e] at hb
      rw [hb] at h0
      have := (h.2 _ (List.getElem_mem hlt)).1
      simp only [mx] at h0
      omega
  · have hf : few k st = 1 := if_neg hk
    refine .inr ⟨by omega, fun y hy => ?_⟩
    have hne : st ≠ [] := by intro e; subst e; simp at hy
    have h1 : 1 ≤ st.length := by have := List.length_pos_iff.mpr hne; omega
    have hc := chain (c := c) (Nat.le_refl _) (fun m' a b' => b m' (by omega) (by omega)) h1 y hy
    have hlast := b st.length (by omega) (Nat.le_refl _)
    unfold tst at hlast
    rw [Nat.sub_self, bnd_zero] at hlast
    rw [Nat.sub_self] at hc
    have := (h.2 y (last_mem hy)).2
    omega
/-- only one merge costs just one -/
theorem good_uniq {k c : Nat} {st : List Nat} {m n : Nat} (h : Sta k c st) (hm : m ≤ st.length) (hn : n ≤ st.length) (s1 : Sta k c (sa st m)) (s2 : Sta k c (sa st n)) (e1 : brd k (sa st m) = brd k st + 1) (e2 : brd k (sa st n) = brd k st + 1) : m = n := by
  have hl := h.1
  have look : ∀ m, m ≤ st.length → Sta k c (sa st m) → brd k (sa st m) = brd k st + 1 → (m = 0 ∧ st.length < k) ∨ (1 ≤ m ∧ st.length = k ∧ (∀ y, st.getLast? = some y → y = mx (st.drop (st.length - m))) ∧ (st.length - m = 0 ∨ ∃ y, st[st.length - m - 1]? = some y ∧ mx (st.drop (st.length - m)) < y)) := fun m hm s e => by
    obtain ⟨t1, t2⟩ := (brd_sa_eq h.pos hm).mp e
    have hs := s.1
    rw [sa_len hm] at hs
    by_cases h0 : m = 0
    · exact .inl ⟨h0, by omega⟩
    · refine .inr ⟨by omega, ?_⟩
      have hS : Sta (k - (st.length - m)) (mx (st.drop (st.length - m))) (st.drop (st.length - m)) :=
        ⟨by rw [List.length_drop]; omega, fun x hx => ⟨(h.2 x (List.mem_of_mem_drop hx)).1, mx_mem hx⟩⟩
      rcases (exh_iff hS).mp t2 with c | ⟨c1, c2⟩
      · exfalso
        have hlt : st.length - m < st.length := by omega
        have hmem : st[st.length - m] ∈ st.drop (st.length - m) := by
          rw [List.drop_eq_getElem_cons hlt]; exact List.mem_cons_self ..
        have := mx_mem hmem
        have := (h.2 _ (List.getElem_mem hlt)).1
        omega
      · rw [List.length_drop] at c1
        refine ⟨by omega, fun y hy => c2 y ?_, t1⟩
        rw [List.getLast?_drop, if_neg (by omega)]; exact hy
  have order : ∀ m n, m ≤ st.length → n ≤ st.length → m < n → Sta k c (sa st m) → Sta k c (sa st n) → brd k (sa st m) = brd k st + 1 → brd k (sa st n) = brd k st + 1 → False := fun m n hm hn hlt s1 s2 e1 e2 => by
    rcases look m hm s1 e1 with ⟨a1, a2⟩ | ⟨a1, a2, a3, a4⟩
    · rcases look n hn s2 e2 with ⟨b1, b2⟩ | ⟨b1, b2, b3, b4⟩ <;> omega
    · rcases look n hn s2 e2 with ⟨b1, b2⟩ | ⟨b1, b2, b3, b4⟩
      · omega
      · have hne : st ≠ [] := by intro e; subst e; simp at hn; omega
        have hy : st.getLast? = some (st.getLast hne) := List.getLast?_eq_some_getLast hne
        have q1 := a3 _ hy
        have q2 := b3 _ hy
        rcases a4 with a4 | ⟨y, y1, y2⟩
        · omega
        · have hmem : y ∈ st.drop (st.length - n) := by
            refine List.mem_of_getElem? (i := (st.length - m - 1) - (st.length - n)) ?_
            rw [List.getElem?_drop, show st.length - n + (st.length - m - 1 - (st.length - n)) = st.length - m - 1 by omega]
            exact y1
          have := mx_mem hmem
          omega
  rcases Nat.lt_trichotomy m n with c | c | c
  · exact (order m n hm hn c s1 s2 e1 e2).elim
  · exact c
  · exact (order n m hn hm c s2 s1 e2 e1).elim
end MB

set_option maxHeartbeats 4000000
namespace MB
/-- no newer run is above an older one -/
def Desc (st : List Nat) : Prop := st.Pairwise fun x y => y ≤ x
theorem Desc.mx {x : Nat} {xs : List Nat} (h : Desc (x :: xs)) : mx (x :: xs) = x := by
  have h1 := (List.pairwise_cons.mp h).1
  have := MB.mx_le (c := x) h1
  rw [mx_cons]; omega
theorem Desc.tail {x : Nat} {xs : List Nat} (h : Desc (x :: xs)) : Desc xs := (List.pairwise_cons.mp h).2
/-- the lengths of the runs -/
def lens : Nat → List Nat → List Nat
  | _, [] => []
  | k, x :: xs => bin (k + x - 1) k :: lens (k - 1) xs
theorem lens_len : ∀ (k : Nat) (st : List Nat), (lens k st).length = st.length
  | _, [] => rfl
  | k, x :: xs => by simp [lens, lens_len (k - 1) xs]
theorem lw_desc {k x : Nat} {xs : List Nat} (h : Pos k (x :: xs)) (d : Desc (x :: xs)) : lwr k (brd k (x :: xs)) = x := by
  obtain ⟨h1, hk, hx⟩ := h.tail
  have hb := brd_le h.sta
  have e : brd k (x :: xs) = bin (k + mx (x :: xs) - 1) k + brd (k - 1) xs := rfl
  rw [d.mx] at hb e
  refine (lw_ok _ hk).uniq (Lw.mk' (by omega) (.inr ?_))
  rw [show k + (x - 1) = k + x - 1 by omega]
  omega
theorem rl_desc : ∀ {k : Nat} {st : List Nat}, Pos k st → Desc st → rl k (brd k st) = lens k st
  | k, [], _, _ => by simp [brd, lens, rl_zero]
  | k, x :: xs, h, d => by
    have hl := lw_desc h d
    obtain ⟨h1, hk, hx⟩ := h.tail
    have ih := rl_desc h1 d.tail
    have e : brd k (x :: xs) = bin (k + x - 1) k + brd (k - 1) xs := by
      show bin (k + mx (x :: xs) - 1) k + brd (k - 1) xs = _
      rw [d.mx]
    obtain ⟨j, rfl⟩ : ∃ j, k = j + 1 := ⟨k - 1, by omega⟩
    have hp := bin_pos (n := j + 1 + x - 1) (k := j + 1) (by omega)
    have hne : brd (j + 1) (x :: xs) ≠ 0 := by omega
    rw [rl_succ hne, hl]
    have e2 : j + x = j + 1 + x - 1 := by omega
    rw [e2, e]
    show _ :: _ = bin (j + 1 + x - 1) (j + 1) :: lens (j + 1 - 1) xs
    rw [show bin (j + 1 + x - 1) (j + 1) + brd (j + 1 - 1) xs - bin (j + 1 + x - 1) (j + 1) = brd (j + 1 - 1) xs by omega, show j + 1 - 1 = j by omega]
    rw [show j + 1 - 1 = j by omega] at ih
    rw [ih]
theorem rl_desc_len {k : Nat} {st : List Nat} (h : Pos k st) (d : Desc st) : (rl k (brd k st)).length = st.length := by rw [rl_desc h d, lens_len]
theorem sa_desc {st : List Nat} {m : Nat} (d : Desc st) (hm : m ≤ st.length) (t : st.length - m = 0 ∨ ∃ y, st[st.length - m - 1]? = some y ∧ mx (st.drop (st.length - m)) < y) : Desc (sa st m) := by
  unfold sa Desc
  refine List.pairwise_append.mpr ⟨d.sublist (List.take_sublist _ _), List.pairwise_singleton _ _, fun x hx v hv => ?_⟩
  have hv' : v = 1 + mx (st.drop (st.length - m)) := by simpa using hv
  subst hv'
  rcases t with t | ⟨y, y1, y2⟩
  · rw [t] at hx; simp at hx
  · obtain ⟨i, hi⟩ := List.getElem?_of_mem hx
    rw [List.getElem?_take] at hi
    by_cases c : i < st.length - m
    · rw [if_pos c] at hi
      have hyx : y ≤ x := by
        by_cases e : i = st.length - m - 1
        · subst e; rw [y1] at hi; have := Option.some.inj hi; omega
        · obtain ⟨q1, r1⟩ := List.getElem?_eq_some_iff.mp hi
          obtain ⟨q2, r2⟩ := List.getElem?_eq_some_iff.mp y1
          have := List.pairwise_iff_getElem.mp d i (st.length - m - 1) q1 q2 (by omega)
          omega
      omega
    · rw [if_neg c] at hi; cases hi
theorem Bm.tight {k c : Nat} {st : List Nat} {m : Nat} (h : Sta k c st) (b : Bm k c st m) : st.length - m = 0 ∨ ∃ y, st[st.length - m - 1]? = some y ∧ mx (st.drop (st.length - m)) < y := (tst_ok h b.2.1 b.2.2.1).2
/-- the policy's merges and states -/
def pm (k n : Nat) : Nat := (rl k n).length + 1 - (rl k (n + 1)).length
def pst (k : Nat) : Nat → List Nat
  | 0 => []
  | n + 1 => sa (pst k n) (pm k n)
theorem bm_ex {k c : Nat} {st : List Nat} (h : Sta k c st) (hlt : brd k st + 1 < bin (k + c) k) : ∃ m, Bm k c st m := by
  by_cases e : ∃ m, few k st ≤ m ∧ m ≤ st.length ∧ tst c st m
  · obtain ⟨m, hm⟩ := e
    induction m using Nat.strongRecOn with
    | ind m ih =>
      by_cases c' : ∃ m', m' < m ∧ few k st ≤ m' ∧ m' ≤ st.length ∧ tst c st m'
      · obtain ⟨m', h1, h2⟩ := c'
        exact ih m' h1 h2
      · exact ⟨m, hm.1, hm.2.1, hm.2.2, fun m' a b t => c' ⟨m', b, a, by have := hm.2.1; omega, t⟩⟩
  · exfalso
    have := BmN.zero h fun m a b t => e ⟨m, a, b, t⟩
    omega
/-- the best merge from a descending state is the policy's -/
theorem bm_pm {k c : Nat} {st : List Nat} {m : Nat} (h : Sta k c st) (d : Desc st) (b : Bm k c st m) : m = pm k (brd k st) ∧ Sta k c (sa st m) ∧ Desc (sa st m) ∧ brd k (sa st m) = brd k st + 1 := by
  obtain ⟨g1, g2⟩ := b.good h
  have d2 := sa_desc d b.2.1 (b.tight h)
  refine ⟨?_, g1, d2, g2⟩
  unfold pm
  rw [rl_desc_len h.pos d, ← g2, rl_desc_len g1.pos d2, sa_len b.2.1]
  have := b.2.1
  omega
theorem sta_of {k c : Nat} {st : List Nat} (h : Pos k st) (d : Desc st) (hc : brd k st < bin (k + c) k) : Sta k c st := by
  refine ⟨h.1, fun x hx => ⟨h.2 x hx, ?_⟩⟩
  cases st with
  | nil => cases hx
  | cons y ys =>
    have h1 := lw_desc h d
    have h2 := mx_mem hx
    rw [d.mx] at h2
    obtain ⟨_, hk, _⟩ := h.tail
    have h3 := (lw_ok (brd k (y :: ys)) hk).2
    rw [h1] at h3
    by_cases e : y ≤ c
    · omega
    · have := h3 c (by omega); omega
theorem pst_ok {k : Nat} (hk : 1 ≤ k) : ∀ n, Pos k (pst k n) ∧ Desc (pst k n) ∧ brd k (pst k n) = n
  | 0 => ⟨⟨by simp [pst], by simp [pst]⟩, List.Pairwise.nil, rfl⟩
  | n + 1 => by
    obtain ⟨h1, h2, h3⟩ := pst_ok hk n
    have hb := bin_big (k := k) (c := n + 2) hk
    have hs := sta_of (c := n + 2) h1 h2 (by omega)
    obtain ⟨m, b⟩ := bm_ex hs (by omega)
    obtain ⟨e, g1, g2, g3⟩ := bm_pm hs h2 b
    rw [h3] at e g3
    subst e
    exact ⟨g1.pos, g2, g3⟩
theorem pm_le {k : Nat} (hk : 1 ≤ k) (n : Nat) : pm k n ≤ (pst k n).length := by
  obtain ⟨h1, h2, h3⟩ := pst_ok hk n
  have hb := bin_big (k := k) (c := n + 2) hk
  have hs := sta_of (c := n + 2) h1 h2 (by omega)
  obtain ⟨m, b⟩ := bm_ex hs (by omega)
  obtain ⟨e, _⟩ := bm_pm hs h2 b
  rw [h3] at e
  subst e
  exact b.2.1
theorem pst_len {k : Nat} (hk : 1 ≤ k) (n : Nat) : (pst k n).length = (rl k n).length := by
  obtain ⟨h1, h2, h3⟩ := pst_ok hk n
  have := rl_desc_len h1 h2
  rw [h3] at this
  exact this.symm
theorem pm_int {k : Nat} (hk : 1 ≤ k) (n : Nat) : ((rl k n).length : Int) + 1 - ((rl k (n + 1)).length : Int) = (pm k n : Int) := by
  have h1 := pst_len hk n
  have h2 := pst_len hk (n + 1)
  have h3 := pm_le hk n
  have h4 : (pst k (n + 1)).length = (pst k n).length - pm k n + 1 := sa_len h3
  unfold pm at *
  omega
end MB

set_option maxHeartbeats 4000000
namespace MB
/-! ### the levels of a tree's runs; a tree that follows a policy -/
def lv : T → List Nat
  | .nil => []
  | .node l r => (1 + mx l.wr) :: lv r
theorem lv_len : ∀ t : T, (lv t).length = t.runs
  | .nil => rfl
  | .node l r => by simp [lv, T.runs, lv_len r]; omega
theorem mx_map1 : ∀ xs : List Nat, xs ≠ [] → mx (xs.map (· + 1)) = mx xs + 1
  | [], h => absurd rfl h
  | [x], _ => by simp [mx]
  | x :: y :: xs, _ => by
    have := mx_map1 (y :: xs) (by simp)
    rw [List.map_cons, mx_cons, mx_cons, this]; omega
theorem mx_node (l r : T) : mx (T.node l r).wr = max (1 + mx l.wr) (mx r.wr) := by
  show mx (l.wr.map (· + 1) ++ 1 :: r.wr) = _
  rw [mx_append, mx_cons]
  cases e : l.wr with
  | nil => simp [mx]
  | cons x xs => rw [mx_map1 (x :: xs) (by simp)]; omega
theorem mx_lv : ∀ t : T, mx (lv t) = mx t.wr
  | .nil => rfl
  | .node l r => by rw [mx_node, lv, mx_cons, mx_lv r]
theorem lv_push : ∀ (t : T) (m : Nat), m ≤ t.runs → lv (t.push m) = sa (lv t) m :=
  T.push_ind (C := fun t m => lv (t.push m) = sa (lv t) m) (fun t => by
    rw [T.push_eq, ← lv_len, sa_all, lv, mx_lv]; rfl) fun l r m h ih => by
    rw [T.push_node h, lv, ih, lv, sa_cons (by rw [lv_len]; exact h)]
theorem lv_pos : ∀ (t : T) (x : Nat), x ∈ lv t → 1 ≤ x
  | .nil, x, h => nomatch h
  | .node l r, x, h => by
    rcases List.mem_cons.mp h with e | h
    · omega
    · exact lv_pos r x h
/-- the lengths of the runs -/
def sl : T → List Nat
  | .nil => []
  | .node l r => (l.size + 1) :: sl r
theorem sl_len : ∀ t : T, (sl t).length = t.runs
  | .nil => rfl
  | .node l r => by simp [sl, T.runs, sl_len r]; omega
theorem sl_sum : ∀ t : T, (sl t).sum = t.size
  | .nil => rfl
  | .node l r => by simp [sl, T.size, sl_sum r]
theorem sl_push : ∀ (t : T) (m : Nat), m ≤ t.runs → sl (t.push m) = (sl t).take (t.runs - m) ++ [1 + ((sl t).drop (t.runs - m)).sum] :=
  T.push_ind (C := fun t m => sl (t.push m) = (sl t).take (t.runs - m) ++ [1 + ((sl t).drop (t.runs - m)).sum]) (fun t => by
    rw [T.push_eq]; simp [sl, sl_sum]; omega) fun l r m h ih => by
    rw [T.push_node h, sl, ih]
    have e : (T.node l r).runs - m = (r.runs - m) + 1 := by simp [T.runs]; omega
    rw [e]; simp [sl]
theorem stk_sl : ∀ (t : T) (off : Nat), (t.stk off).map (fun p => p.2 - p.1) = sl t
  | .nil, _ => rfl
  | .node l r, off => by
    simp only [T.stk, List.map_cons, sl, stk_sl r]
    congr 1; omega
/-- the tree follows the policy for k runs -/
def Polt (k : Nat) (t : T) : Prop := t.sch = (List.range t.size).map (pm k)
theorem Polt.nil {k : Nat} : Polt k .nil := rfl
theorem polt_pre {k : Nat} {t : T} (h : Polt k t) : ∀ i, i ≤ t.size → lv (pre t i) = pst k i
  | 0, _ => by rw [pre_zero]; rfl
  | i + 1, hi => by
    have ih := polt_pre h i (by omega)
    have e : t.sch[i]? = some (pm k i) := by rw [h, List.getElem?_map, List.getElem?_range (by omega)]; rfl
    obtain ⟨e1, e2⟩ := pre_succ e
    rw [e1, lv_push _ _ e2, ih]; rfl
theorem Polt.lv {k : Nat} {t : T} (h : Polt k t) : lv t = pst k t.size := by
  have := polt_pre h t.size (Nat.le_refl _)
  rwa [pre_all] at this
theorem Polt.pm {k : Nat} {t : T} (h : Polt k t) (hk : 1 ≤ k) : pm k t.size ≤ t.runs := by
  have := pm_le hk t.size
  rwa [← h.lv, lv_len] at this
theorem Polt.push {k : Nat} {t : T} (h : Polt k t) (hk : 1 ≤ k) : Polt k (t.push (MB.pm k t.size)) := by
  unfold Polt
  have hm := h.pm hk
  rw [T.push_sch _ _ hm, T.push_size _ _ hm, List.range_succ, List.map_append, ← h]; rfl
theorem Polt.pre {k : Nat} {t : T} (h : Polt k t) {i : Nat} (hi : i ≤ t.size) : Polt k (MB.pre t i) := by
  unfold Polt
  rw [pre_sch, pre_size hi, h, ← List.map_take, List.take_range, Nat.min_eq_left hi]
theorem Polt.runs {k : Nat} {t : T} (h : Polt k t) (hk : 1 ≤ k) : t.runs = (rl k t.size).length := by
  rw [← pst_len hk, ← h.lv, lv_len]
theorem Polt.rle {k : Nat} {t : T} (h : Polt k t) (hk : 1 ≤ k) : t.runs ≤ k := by
  rw [h.runs hk]; exact rl_len ..
/-- the lengths of a policy's runs -/
theorem Polt.sl {k : Nat} (hk : 1 ≤ k) : ∀ {t : T}, Polt k t → sl t = rl k t.size := by
  intro t h
  have key : ∀ i, i ≤ t.size → MB.sl (MB.pre t i) = rl k i := by
    intro i
    induction i with
    | zero => intro _; rw [pre_zero, rl_zero]; rfl
    | succ i ih =>
      intro hi
      have ih := ih (by omega)
      have hp := h.pre (i := i) (by omega)
      have hz := pre_size (t := t) (i := i) (by omega)
      have e : t.sch[i]? = some (MB.pm k i) := by rw [h, List.getElem?_map, List.getElem?_range (by omega)]; rfl
      obtain ⟨e1, e2⟩ := pre_succ e
      obtain ⟨k', rfl⟩ : ∃ k', k = k' + 1 := ⟨k - 1, by omega⟩
      obtain ⟨m, hm, er⟩ := rl_step k' i
      have hr := hp.runs hk
      rw [hz] at hr
      rw [e1, sl_push _ _ e2, ih, er]
      have hp1 := h.pre (i := i + 1) hi
      have hr1 := hp1.runs hk
      rw [pre_size hi, er, List.length_append, List.length_take, e1, T.push_runs _ _ e2] at hr1
      simp at hr1
      have : (MB.pre t i).runs - MB.pm (k' + 1) i = m := by omega
      rw [this]
  have := key t.size (Nat.le_refl _)
  rwa [pre_all] at this
/-- the greatest level of a policy's tree -/
theorem Polt.mx {k : Nat} {t : T} (h : Polt k t) (hk : 1 ≤ k) (hn : t ≠ .nil) : MB.mx (MB.lv t) = lwr k t.size := by
  obtain ⟨h1, h2, h3⟩ := pst_ok hk t.size
  rw [← h.lv] at h1 h2 h3
  cases e : MB.lv t with
  | nil =>
    have := lv_len t
    rw [e] at this
    cases t with
    | nil => exact absurd rfl hn
    | node l r => exfalso; simp [T.runs] at this; try omega
  | cons x xs =>
    rw [e] at h1 h2 h3
    rw [h2.mx, ← h3, lw_desc h1 h2]
/-- a tree that never has more than k runs writes no less -/
def Thin (k : Nat) (t : T) : Prop := Pos k (MB.lv t) ∧ t.size ≤ brd k (MB.lv t)
theorem Thin.nil {k : Nat} : Thin k .nil := ⟨⟨Nat.zero_le _, fun x h => nomatch h⟩, Nat.zero_le _⟩
theorem Thin.push {k m : Nat} {t : T} (h : Thin k t) (hm : m ≤ t.runs) (hk : t.runs - m + 1 ≤ k) : Thin k (t.push m) := by
  have hl := lv_len t
  have h1 := brd_sa (m := m) h.1 (by rw [hl]; exact hm)
  rw [← lv_push t m hm] at h1
  refine ⟨⟨by rw [lv_len, T.push_runs t m hm]; omega, lv_pos _⟩, ?_⟩
  rw [T.push_size t m hm]
  have := h.2
  omega
theorem Thin.le {k : Nat} {t : T} (h : Thin k t) (hk : 1 ≤ k) : lwr k t.size ≤ MB.mx (MB.lv t) := by
  have h1 := brd_le h.1.sta
  have h2 := h.2
  obtain ⟨h3, h4⟩ := lw_ok t.size hk
  exact Nat.le_of_not_lt fun z => by have := h4 _ z; omega
/-- the budget (k, c) lets the policy's tree go on -/
theorem Polt.sta {k c : Nat} {t : T} (h : Polt k t) (hk : 1 ≤ k) (hc : t.size < bin (k + c) k) : Sta k c (MB.lv t) := by
  obtain ⟨h1, h2, h3⟩ := pst_ok hk t.size
  rw [← h.lv] at h1 h2 h3
  exact sta_of h1 h2 (by omega)
theorem Polt.bm {k c m : Nat} {t : T} (h : Polt k t) (hk : 1 ≤ k) (hc : t.size < bin (k + c) k) (b : Bm k c (MB.lv t) m) : m = MB.pm k t.size ∧ t.size + 1 < bin (k + c) k := by
  obtain ⟨h1, h2, h3⟩ := pst_ok hk t.size
  rw [← h.lv] at h1 h2 h3
  have hs := h.sta hk hc
  obtain ⟨e, g1, _, g3⟩ := bm_pm hs h2 b
  rw [h3] at e g3
  refine ⟨e, ?_⟩
  have h5 : brd k (sa (MB.lv t) m) + 1 ≤ bin (k + c) k := brd_le g1
  omega
theorem Polt.bmN {k c : Nat} {t : T} (h : Polt k t) (hk : 1 ≤ k) (hc : t.size < bin (k + c) k) (b : BmN k c (MB.lv t)) : t.size + 1 = bin (k + c) k := by
  obtain ⟨h1, h2, h3⟩ := pst_ok hk t.size
  rw [← h.lv] at h1 h2 h3
  have := BmN.zero (h.sta hk hc) b
  omega
theorem Polt.bmE {k c : Nat} {t : T} (h : Polt k t) (hk : 1 ≤ k) (hc : t.size + 1 < bin (k + c) k) : Bm k c (MB.lv t) (MB.pm k t.size) := by
  obtain ⟨h1, h2, h3⟩ := pst_ok hk t.size
  rw [← h.lv] at h1 h2 h3
  obtain ⟨m, b⟩ := bm_ex (h.sta (c := c) hk (by omega)) (by omega)
  obtain ⟨e, _⟩ := h.bm hk (by omega) b
  rw [← e]; exact b
end MB

set_option maxHeartbeats 4000000
namespace MB
open PySem PySem.Spec PyProof.Rows L2
def topS (i : Nat) : Stmt := PySem.Challenge.pw_mergebudget_k51_stores_created.main.body.getD i (.Pass ⟨0, 0, 0, 0⟩)
abbrev s_is_int : Stmt := topS 21
abbrev N_is_int : List Str := ["value"]
theorem sc_is_int : FnScope N_is_int ["value"] (defScope s_is_int) := ⟨rfl, rfl, rfl, by decide +kernel, rfl, by decide +kernel, by decide +kernel⟩
abbrev s_is_count : Stmt := topS 22
abbrev N_is_count : List Str := ["value"]
theorem sc_is_count : FnScope N_is_count ["value"] (defScope s_is_count) := ⟨rfl, rfl, rfl, by decide +kernel, rfl, by decide +kernel, by decide +kernel⟩
abbrev s_is_count_up_to : Stmt := topS 23
abbrev N_is_count_up_to : List Str := ["value", "most"]
theorem sc_is_count_up_to : FnScope N_is_count_up_to ["value", "most"] (defScope s_is_count_up_to) := ⟨rfl, rfl, rfl, by decide +kernel, rfl, by decide +kernel, by decide +kernel⟩
abbrev s_are_loads : Stmt := topS 25
abbrev N_are_loads : List Str := ["value", "fewest", "most", "load"]
theorem sc_are_loads : FnScope N_are_loads ["value", "fewest", "most"] (defScope s_are_loads) := ⟨rfl, rfl, rfl, by decide +kernel, rfl, by decide +kernel, by decide +kernel⟩
abbrev s_check_sizes : Stmt := topS 26
abbrev N_check_sizes : List Str := ["sizes", "fewest", "most"]
theorem sc_check_sizes : FnScope N_check_sizes ["sizes", "fewest", "most"] (defScope s_check_sizes) := ⟨rfl, rfl, rfl, by decide +kernel, rfl, by decide +kernel, by decide +kernel⟩
abbrev s_is_schedule : Stmt := topS 29
abbrev N_is_schedule : List Str := ["value", "runs", "merge"]
theorem sc_is_schedule : FnScope N_is_schedule ["value"] (defScope s_is_schedule) := ⟨rfl, rfl, rfl, by decide +kernel, rfl, by decide +kernel, by decide +kernel⟩
abbrev s_stacks : Stmt := topS 30
abbrev N_stacks : List Str := ["schedule", "stack", "result", "flush", "merge"]
theorem sc_stacks : FnScope N_stacks ["schedule"] (defScope s_stacks) := ⟨rfl, rfl, rfl, by decide +kernel, rfl, by decide +kernel, by decide +kernel⟩
abbrev s_stack_after : Stmt := topS 31
abbrev N_stack_after : List Str := ["stack", "flush", "merge", "kept", "start"]
theorem sc_stack_after : FnScope N_stack_after ["stack", "flush", "merge"] (defScope s_stack_after) := ⟨rfl, rfl, rfl, by decide +kernel, rfl, by decide +kernel, by decide +kernel⟩
abbrev s_writes : Stmt := topS 32
abbrev N_writes : List Str := ["schedule", "history", "counts", "stack", "start", "stop", "flush"]
theorem sc_writes : FnScope N_writes ["schedule"] (defScope s_writes) := ⟨rfl, rfl, rfl, by decide +kernel, rfl, by decide +kernel, by decide +kernel⟩
abbrev s_state_of : Stmt := topS 36
abbrev N_state_of : List Str := ["schedule", "state", "merge"]
theorem sc_state_of : FnScope N_state_of ["schedule"] (defScope s_state_of) := ⟨rfl, rfl, rfl, by decide +kernel, rfl, by decide +kernel, by decide +kernel⟩
abbrev s_state_after : Stmt := topS 37
abbrev N_state_after : List Str := ["state", "merge", "kept"]
theorem sc_state_after : FnScope N_state_after ["state", "merge"] (defScope s_state_after) := ⟨rfl, rfl, rfl, by decide +kernel, rfl, by decide +kernel, by decide +kernel⟩
abbrev s_write_work : Stmt := topS 48
abbrev N_write_work : List Str := ["schedule", "sizes", "counts"]
theorem sc_write_work : FnScope N_write_work ["schedule", "sizes"] (defScope s_write_work) := ⟨rfl, rfl, rfl, by decide +kernel, rfl, by decide +kernel, by decide +kernel⟩
abbrev s_weighted : Stmt := topS 49
abbrev N_weighted : List Str := ["loads", "counts", "load", "count"]
theorem sc_weighted : FnScope N_weighted ["loads", "counts"] (defScope s_weighted) := ⟨rfl, rfl, rfl, by decide +kernel, rfl, by decide +kernel, by decide +kernel⟩
abbrev s_is_key : Stmt := topS 53
abbrev N_is_key : List Str := ["value", "letter"]
theorem sc_is_key : FnScope N_is_key ["value"] (defScope s_is_key) := ⟨rfl, rfl, rfl, by decide +kernel, rfl, by decide +kernel, by decide +kernel⟩
abbrev s_check_key : Stmt := topS 54
abbrev N_check_key : List Str := ["key"]
theorem sc_check_key : FnScope N_check_key ["key"] (defScope s_check_key) := ⟨rfl, rfl, rfl, by decide +kernel, rfl, by decide +kernel, by decide +kernel⟩
abbrev s_is_policy : Stmt := topS 55
abbrev N_is_policy : List Str := ["value", "budget"]
theorem sc_is_policy : FnScope N_is_policy ["value"] (defScope s_is_policy) := ⟨rfl, rfl, rfl, by decide +kernel, rfl, by decide +kernel, by decide +kernel⟩
abbrev s_ascending_pairs : Stmt := topS 56
abbrev N_ascending_pairs : List Str := ["entries", "key"]
theorem sc_ascending_pairs : FnScope N_ascending_pairs ["entries"] (defScope s_ascending_pairs) := ⟨rfl, rfl, rfl, by decide +kernel, rfl, by decide +kernel, by decide +kernel⟩
abbrev s_Store___init__ : Stmt := inClass (topS 57) 0
abbrev N_Store___init__ : List Str := ["self", "policy"]
theorem sc_Store___init__ : FnScope N_Store___init__ ["self", "policy"] (defScope s_Store___init__) := ⟨rfl, rfl, rfl, by decide +kernel, rfl, by decide +kernel, by decide +kernel⟩
abbrev s_Store_read : Stmt := inClass (topS 57) 7
abbrev N_Store_read : List Str := ["self", "key", "moment", "flushes", "runs", "start", "stop", "flush"]
theorem sc_Store_read : FnScope N_Store_read ["self", "key", "moment"] (defScope s_Store_read) := ⟨rfl, rfl, rfl, by decide +kernel, rfl, by decide +kernel, by decide +kernel⟩
abbrev s_Store_flushes_until : Stmt := inClass (topS 57) 8
abbrev N_Store_flushes_until : List Str := ["self", "moment"]
theorem sc_Store_flushes_until : FnScope N_Store_flushes_until ["self", "moment"] (defScope s_Store_flushes_until) := ⟨rfl, rfl, rfl, by decide +kernel, rfl, by decide +kernel, by decide +kernel⟩
abbrev s_Store_check_moment : Stmt := inClass (topS 57) 9
abbrev N_Store_check_moment : List Str := ["self", "moment"]
theorem sc_Store_check_moment : FnScope N_Store_check_moment ["self", "moment"] (defScope s_Store_check_moment) := ⟨rfl, rfl, rfl, by decide +kernel, rfl, by decide +kernel, by decide +kernel⟩
abbrev s_Store_visited : Stmt := inClass (topS 57) 10
abbrev N_Store_visited : List Str := ["self"]
theorem sc_Store_visited : FnScope N_Store_visited ["self"] (defScope s_Store_visited) := ⟨rfl, rfl, rfl, by decide +kernel, rfl, by decide +kernel, by decide +kernel⟩
abbrev s_Store_present : Stmt := inClass (topS 57) 11
abbrev N_Store_present : List Str := ["self", "moment", "newest", "batch", "key"]
theorem sc_Store_present : FnScope N_Store_present ["self", "moment"] (defScope s_Store_present) := ⟨rfl, rfl, rfl, by decide +kernel, rfl, by decide +kernel, by decide +kernel⟩
abbrev s_Store_stack : Stmt := inClass (topS 57) 12
abbrev N_Store_stack : List Str := ["self", "history"]
theorem sc_Store_stack : FnScope N_Store_stack ["self"] (defScope s_Store_stack) := ⟨rfl, rfl, rfl, by decide +kernel, rfl, by decide +kernel, by decide +kernel⟩
abbrev s_Store_state : Stmt := inClass (topS 57) 13
abbrev N_Store_state : List Str := ["self"]
theorem sc_Store_state : FnScope N_Store_state ["self"] (defScope s_Store_state) := ⟨rfl, rfl, rfl, by decide +kernel, rfl, by decide +kernel, by decide +kernel⟩
abbrev s_Store_schedule : Stmt := inClass (topS 57) 14
abbrev N_Store_schedule : List Str := ["self"]
theorem sc_Store_schedule : FnScope N_Store_schedule ["self"] (defScope s_Store_schedule) := ⟨rfl, rfl, rfl, by decide +kernel, rfl, by decide +kernel, by decide +kernel⟩
abbrev s_Store_sizes : Stmt := inClass (topS 57) 15
abbrev N_Store_sizes : List Str := ["self", "batch"]
theorem sc_Store_sizes : FnScope N_Store_sizes ["self"] (defScope s_Store_sizes) := ⟨rfl, rfl, rfl, by decide +kernel, rfl, by decide +kernel, by decide +kernel⟩
abbrev s_Store_written : Stmt := inClass (topS 57) 16
abbrev N_Store_written : List Str := ["self"]
theorem sc_Store_written : FnScope N_Store_written ["self"] (defScope s_Store_written) := ⟨rfl, rfl, rfl, by decide +kernel, rfl, by decide +kernel, by decide +kernel⟩
abbrev s_Store_pending : Stmt := inClass (topS 57) 18
abbrev N_Store_pending : List Str := ["self"]
theorem sc_Store_pending : FnScope N_Store_pending ["self"] (defScope s_Store_pending) := ⟨rfl, rfl, rfl, by decide +kernel, rfl, by decide +kernel, by decide +kernel⟩
abbrev s_Store_policy : Stmt := inClass (topS 57) 19
abbrev N_Store_policy : List Str := ["self"]
theorem sc_Store_policy : FnScope N_Store_policy ["self"] (defScope s_Store_policy) := ⟨rfl, rfl, rfl, by decide +kernel, rfl, by decide +kernel, by decide +kernel⟩
abbrev s_Store_undo : Stmt := inClass (topS 57) 20
abbrev N_Store_undo : List Str := ["self", "step", "key", "replaced"]
theorem sc_Store_undo : FnScope N_Store_undo ["self"] (defScope s_Store_undo) := ⟨rfl, rfl, rfl, by decide +kernel, rfl, by decide +kernel, by decide +kernel⟩
abbrev s_Store___len__ : Stmt := inClass (topS 57) 23
abbrev N_Store___len__ : List Str := ["self"]
theorem sc_Store___len__ : FnScope N_Store___len__ ["self"] (defScope s_Store___len__) := ⟨rfl, rfl, rfl, by decide +kernel, rfl, by decide +kernel, by decide +kernel⟩
abbrev s_L_start_draws : Stmt := topS 59
abbrev N_L_start_draws : List Str := ["_law_script", "_law_nth", "_law_cell", "_law_great"]
theorem sc_L_start_draws : FnScope N_L_start_draws ["_law_script", "_law_nth"] (defScope s_L_start_draws) := ⟨rfl, rfl, rfl, by decide +kernel, rfl, by decide +kernel, by decide +kernel⟩
abbrev s_L_next : Stmt := topS 60
abbrev N_L_next : List Str := ["_law_deal", "_law_upto", "_law_digit", "_law_primes", "_law_prime", "_law_drawn"]
theorem sc_L_next : FnScope N_L_next ["_law_deal", "_law_upto"] (defScope s_L_next) := ⟨rfl, rfl, rfl, by decide +kernel, rfl, by decide +kernel, by decide +kernel⟩
abbrev s_L_pick : Stmt := topS 61
abbrev N_L_pick : List Str := ["_law_deal", "_law_some"]
theorem sc_L_pick : FnScope N_L_pick ["_law_deal", "_law_some"] (defScope s_L_pick) := ⟨rfl, rfl, rfl, by decide +kernel, rfl, by decide +kernel, by decide +kernel⟩
abbrev s_L_odd : Stmt := topS 62
abbrev N_L_odd : List Str := ["_law_deal", "_law_some", "_law_thing", "_law_turn"]
theorem sc_L_odd : FnScope N_L_odd ["_law_deal"] (defScope s_L_odd) := ⟨rfl, rfl, rfl, by decide +kernel, rfl, by decide +kernel, by decide +kernel⟩
abbrev s_L_refusal : Stmt := topS 63
abbrev N_L_refusal : List Str := ["_law_ask", "_law_caught", "e", "_law_names", "_law_some", "_law_found", "_law_name", "_law_good"]
theorem sc_L_refusal : FnScope N_L_refusal ["_law_ask"] (defScope s_L_refusal) := ⟨rfl, rfl, rfl, by decide +kernel, rfl, by decide +kernel, by decide +kernel⟩
abbrev s_L_is_policy : Stmt := topS 64
abbrev N_L_is_policy : List Str := ["_law_thing", "_law_one"]
theorem sc_L_is_policy : FnScope N_L_is_policy ["_law_thing"] (defScope s_L_is_policy) := ⟨rfl, rfl, rfl, by decide +kernel, rfl, by decide +kernel, by decide +kernel⟩
abbrev s_L_some_rule : Stmt := topS 65
abbrev N_L_some_rule : List Str := ["_law_deal", "_law_some", "_law_word", "_law_found", "_law_turn"]
theorem sc_L_some_rule : FnScope N_L_some_rule ["_law_deal"] (defScope s_L_some_rule) := ⟨rfl, rfl, rfl, by decide +kernel, rfl, by decide +kernel, by decide +kernel⟩
abbrev s_L_right : Stmt := topS 66
abbrev N_L_right : List Str := ["_law_thing", "_law_store", "_law_found", "_law_due"]
theorem sc_L_right : FnScope N_L_right ["_law_thing"] (defScope s_L_right) := ⟨rfl, rfl, rfl, by decide +kernel, rfl, by decide +kernel, by decide +kernel⟩
abbrev s_law : Stmt := topS 67
abbrev N_law : List Str := ["_law_script", "_law_known", "_law_nth", "_law_deal", "_law_turn", "_law_thing"]
theorem sc_law : FnScope N_law ["_law_script"] (defScope s_law) := ⟨rfl, rfl, rfl, by decide +kernel, rfl, by decide +kernel, by decide +kernel⟩
abbrev s_init_InvalidSchedule : Stmt := clsDef (topS 3)
abbrev N_init_InvalidSchedule : List Str := ["self", "value"]
theorem sc_init_InvalidSchedule : FnScope N_init_InvalidSchedule ["self", "value"] (defScope s_init_InvalidSchedule) := ⟨rfl, rfl, rfl, by decide +kernel, rfl, by decide +kernel, by decide +kernel⟩
abbrev s_init_InvalidCount : Stmt := clsDef (topS 4)
abbrev N_init_InvalidCount : List Str := ["self", "value"]
theorem sc_init_InvalidCount : FnScope N_init_InvalidCount ["self", "value"] (defScope s_init_InvalidCount) := ⟨rfl, rfl, rfl, by decide +kernel, rfl, by decide +kernel, by decide +kernel⟩
abbrev s_init_InvalidBudget : Stmt := clsDef (topS 5)
abbrev N_init_InvalidBudget : List Str := ["self", "value"]
theorem sc_init_InvalidBudget : FnScope N_init_InvalidBudget ["self", "value"] (defScope s_init_InvalidBudget) := ⟨rfl, rfl, rfl, by decide +kernel, rfl, by decide +kernel, by decide +kernel⟩
abbrev s_init_InvalidSizes : Stmt := clsDef (topS 6)
abbrev N_init_InvalidSizes : List Str := ["self", "value"]
theorem sc_init_InvalidSizes : FnScope N_init_InvalidSizes ["self", "value"] (defScope s_init_InvalidSizes) := ⟨rfl, rfl, rfl, by decide +kernel, rfl, by decide +kernel, by decide +kernel⟩
abbrev s_init_InvalidReads : Stmt := clsDef (topS 7)
abbrev N_init_InvalidReads : List Str := ["self", "value"]
theorem sc_init_InvalidReads : FnScope N_init_InvalidReads ["self", "value"] (defScope s_init_InvalidReads) := ⟨rfl, rfl, rfl, by decide +kernel, rfl, by decide +kernel, by decide +kernel⟩
abbrev s_init_InvalidState : Stmt := clsDef (topS 8)
abbrev N_init_InvalidState : List Str := ["self", "value"]
theorem sc_init_InvalidState : FnScope N_init_InvalidState ["self", "value"] (defScope s_init_InvalidState) := ⟨rfl, rfl, rfl, by decide +kernel, rfl, by decide +kernel, by decide +kernel⟩
abbrev s_init_InvalidMerge : Stmt := clsDef (topS 9)
abbrev N_init_InvalidMerge : List Str := ["self", "value"]
theorem sc_init_InvalidMerge : FnScope N_init_InvalidMerge ["self", "value"] (defScope s_init_InvalidMerge) := ⟨rfl, rfl, rfl, by decide +kernel, rfl, by decide +kernel, by decide +kernel⟩
abbrev s_init_InvalidPolicy : Stmt := clsDef (topS 10)
abbrev N_init_InvalidPolicy : List Str := ["self", "value"]
theorem sc_init_InvalidPolicy : FnScope N_init_InvalidPolicy ["self", "value"] (defScope s_init_InvalidPolicy) := ⟨rfl, rfl, rfl, by decide +kernel, rfl, by decide +kernel, by decide +kernel⟩
abbrev s_init_InvalidKey : Stmt := clsDef (topS 11)
abbrev N_init_InvalidKey : List Str := ["self", "value"]
theorem sc_init_InvalidKey : FnScope N_init_InvalidKey ["self", "value"] (defScope s_init_InvalidKey) := ⟨rfl, rfl, rfl, by decide +kernel, rfl, by decide +kernel, by decide +kernel⟩
abbrev s_init_InvalidValue : Stmt := clsDef (topS 12)
abbrev N_init_InvalidValue : List Str := ["self", "value"]
theorem sc_init_InvalidValue : FnScope N_init_InvalidValue ["self", "value"] (defScope s_init_InvalidValue) := ⟨rfl, rfl, rfl, by decide +kernel, rfl, by decide +kernel, by decide +kernel⟩
abbrev s_init_InvalidMoment : Stmt := clsDef (topS 13)
abbrev N_init_InvalidMoment : List Str := ["self", "value"]
theorem sc_init_InvalidMoment : FnScope N_init_InvalidMoment ["self", "value"] (defScope s_init_InvalidMoment) := ⟨rfl, rfl, rfl, by decide +kernel, rfl, by decide +kernel, by decide +kernel⟩
abbrev s_init_InvalidText : Stmt := clsDef (topS 14)
abbrev N_init_InvalidText : List Str := ["self", "value"]
theorem sc_init_InvalidText : FnScope N_init_InvalidText ["self", "value"] (defScope s_init_InvalidText) := ⟨rfl, rfl, rfl, by decide +kernel, rfl, by decide +kernel, by decide +kernel⟩
abbrev s_init_InvalidLine : Stmt := clsDef (topS 15)
abbrev N_init_InvalidLine : List Str := ["self", "value"]
theorem sc_init_InvalidLine : FnScope N_init_InvalidLine ["self", "value"] (defScope s_init_InvalidLine) := ⟨rfl, rfl, rfl, by decide +kernel, rfl, by decide +kernel, by decide +kernel⟩
set_option genInjectivity false in
set_option genSizeOfSpec false in
structure Tx (K : PySem.W.Frag) (mg : Str → Option Value) where
  C_Store : Addr
  gc_Store : mg "Store" = some (.ref C_Store)
  cl_Store : Cls K C_Store
  a_is_int : Addr
  fd_is_int : FuncData
  f_is_int : Fun K "is_int" "is_int" s_is_int a_is_int fd_is_int
  g_is_int : mg "is_int" = some (.ref a_is_int)
  bd_is_int : Binds K fd_is_int ["value"] []
  a_is_count : Addr
  fd_is_count : FuncData
  f_is_count : Fun K "is_count" "is_count" s_is_count a_is_count fd_is_count
  g_is_count : mg "is_count" = some (.ref a_is_count)
  bd_is_count : Binds K fd_is_count ["value"] []
  a_is_count_up_to : Addr
  fd_is_count_up_to : FuncData
  f_is_count_up_to : Fun K "is_count_up_to" "is_count_up_to" s_is_count_up_to a_is_count_up_to fd_is_count_up_to
  g_is_count_up_to : mg "is_count_up_to" = some (.ref a_is_count_up_to)
  bd_is_count_up_to : Binds K fd_is_count_up_to ["value", "most"] []
  a_are_loads : Addr
  fd_are_loads : FuncData
  f_are_loads : Fun K "are_loads" "are_loads" s_are_loads a_are_loads fd_are_loads
  g_are_loads : mg "are_loads" = some (.ref a_are_loads)
  bd_are_loads : Binds K fd_are_loads ["value", "fewest", "most"] []
  a_check_sizes : Addr
  fd_check_sizes : FuncData
  f_check_sizes : Fun K "check_sizes" "check_sizes" s_check_sizes a_check_sizes fd_check_sizes
  g_check_sizes : mg "check_sizes" = some (.ref a_check_sizes)
  bd_check_sizes : Binds K fd_check_sizes ["sizes", "fewest", "most"] []
  a_is_schedule : Addr
  fd_is_schedule : FuncData
  f_is_schedule : Fun K "is_schedule" "is_schedule" s_is_schedule a_is_schedule fd_is_schedule
  g_is_schedule : mg "is_schedule" = some (.ref a_is_schedule)
  bd_is_schedule : Binds K fd_is_schedule ["value"] []
  a_stacks : Addr
  fd_stacks : FuncData
  f_stacks : Fun K "stacks" "stacks" s_stacks a_stacks fd_stacks
  g_stacks : mg "stacks" = some (.ref a_stacks)
  bd_stacks : Binds K fd_stacks ["schedule"] []
  a_stack_after : Addr
  fd_stack_after : FuncData
  f_stack_after : Fun K "stack_after" "stack_after" s_stack_after a_stack_after fd_stack_after
  g_stack_after : mg "stack_after" = some (.ref a_stack_after)
  bd_stack_after : Binds K fd_stack_after ["stack", "flush", "merge"] []
  a_writes : Addr
  fd_writes : FuncData
  f_writes : Fun K "writes" "writes" s_writes a_writes fd_writes
  g_writes : mg "writes" = some (.ref a_writes)
  bd_writes : Binds K fd_writes ["schedule"] []
  a_state_of : Addr
  fd_state_of : FuncData
  f_state_of : Fun K "state_of" "state_of" s_state_of a_state_of fd_state_of
  g_state_of : mg "state_of" = some (.ref a_state_of)
  bd_state_of : Binds K fd_state_of ["schedule"] []
  a_state_after : Addr
  fd_state_after : FuncData
  f_state_after : Fun K "state_after" "state_after" s_state_after a_state_after fd_state_after
  g_state_after : mg "state_after" = some (.ref a_state_after)
  bd_state_after : Binds K fd_state_after ["state", "merge"] []
  a_write_work : Addr
  fd_write_work : FuncData
  f_write_work : Fun K "write_work" "write_work" s_write_work a_write_work fd_write_work
  g_write_work : mg "write_work" = some (.ref a_write_work)
  bd_write_work : Binds K fd_write_work ["schedule", "sizes"] []
  a_weighted : Addr
  fd_weighted : FuncData
  f_weighted : Fun K "weighted" "weighted" s_weighted a_weighted fd_weighted
  g_weighted : mg "weighted" = some (.ref a_weighted)
  bd_weighted : Binds K fd_weighted ["loads", "counts"] []
  a_is_key : Addr
  fd_is_key : FuncData
  f_is_key : Fun K "is_key" "is_key" s_is_key a_is_key fd_is_key
  g_is_key : mg "is_key" = some (.ref a_is_key)
  bd_is_key : Binds K fd_is_key ["value"] []
  a_check_key : Addr
  fd_check_key : FuncData
  f_check_key : Fun K "check_key" "check_key" s_check_key a_check_key fd_check_key
  g_check_key : mg "check_key" = some (.ref a_check_key)
  bd_check_key : Binds K fd_check_key ["key"] []
  a_is_policy : Addr
  fd_is_policy : FuncData
  f_is_policy : Fun K "is_policy" "is_policy" s_is_policy a_is_policy fd_is_policy
  g_is_policy : mg "is_policy" = some (.ref a_is_policy)
  bd_is_policy : Binds K fd_is_policy ["value"] []
  a_ascending_pairs : Addr
  fd_ascending_pairs : FuncData
  f_ascending_pairs : Fun K "ascending_pairs" "ascending_pairs" s_ascending_pairs a_ascending_pairs fd_ascending_pairs
  g_ascending_pairs : mg "ascending_pairs" = some (.ref a_ascending_pairs)
  bd_ascending_pairs : Binds K fd_ascending_pairs ["entries"] []
  a_Store___init__ : Addr
  fd_Store___init__ : FuncData
  f_Store___init__ : Fun K "__init__" "Store.__init__" s_Store___init__ a_Store___init__ fd_Store___init__
  bd_Store___init__ : Binds K fd_Store___init__ ["self", "policy"] []
  mk_Store : Mk K C_Store a_Store___init__
  a_Store_read : Addr
  fd_Store_read : FuncData
  f_Store_read : FunD K "read" "Store.read" (defArgs s_Store_read) (defBody s_Store_read) (defScope s_Store_read) [] [("moment", .non)] a_Store_read fd_Store_read
  ds_Store_read : List Value
  vd_Store_read : Vals [.non] ds_Store_read
  bd_Store_read : Binds K fd_Store_read ["self", "key", "moment"] ds_Store_read
  m_Store_read : Meth K C_Store "read" a_Store_read
  a_Store_flushes_until : Addr
  fd_Store_flushes_until : FuncData
  f_Store_flushes_until : Fun K "flushes_until" "Store.flushes_until" s_Store_flushes_until a_Store_flushes_until fd_Store_flushes_until
  bd_Store_flushes_until : Binds K fd_Store_flushes_until ["self", "moment"] []
  m_Store_flushes_until : Meth K C_Store "flushes_until" a_Store_flushes_until
  a_Store_check_moment : Addr
  fd_Store_check_moment : FuncData
  f_Store_check_moment : Fun K "check_moment" "Store.check_moment" s_Store_check_moment a_Store_check_moment fd_Store_check_moment
  bd_Store_check_moment : Binds K fd_Store_check_moment ["self", "moment"] []
  m_Store_check_moment : Meth K C_Store "check_moment" a_Store_check_moment
  a_Store_visited : Addr
  fd_Store_visited : FuncData
  f_Store_visited : Fun K "visited" "Store.visited" s_Store_visited a_Store_visited fd_Store_visited
  bd_Store_visited : Binds K fd_Store_visited ["self"] []
  m_Store_visited : Meth K C_Store "visited" a_Store_visited
  a_Store_present : Addr
  fd_Store_present : FuncData
  f_Store_present : FunD K "present" "Store.present" (defArgs s_Store_present) (defBody s_Store_present) (defScope s_Store_present) [] [("moment", .non)] a_Store_present fd_Store_present
  ds_Store_present : List Value
  vd_Store_present : Vals [.non] ds_Store_present
  bd_Store_present : Binds K fd_Store_present ["self", "moment"] ds_Store_present
  m_Store_present : Meth K C_Store "present" a_Store_present
  kb_Store_present_moment : KBn K fd_Store_present ["self", "moment"] 1 ["moment"] gA gA
  a_Store_stack : Addr
  fd_Store_stack : FuncData
  f_Store_stack : Fun K "stack" "Store.stack" s_Store_stack a_Store_stack fd_Store_stack
  bd_Store_stack : Binds K fd_Store_stack ["self"] []
  m_Store_stack : Meth K C_Store "stack" a_Store_stack
  a_Store_state : Addr
  fd_Store_state : FuncData
  f_Store_state : Fun K "state" "Store.state" s_Store_state a_Store_state fd_Store_state
  bd_Store_state : Binds K fd_Store_state ["self"] []
  m_Store_state : Meth K C_Store "state" a_Store_state
  a_Store_schedule : Addr
  fd_Store_schedule : FuncData
  f_Store_schedule : Fun K "schedule" "Store.schedule" s_Store_schedule a_Store_schedule fd_Store_schedule
  bd_Store_schedule : Binds K fd_Store_schedule ["self"] []
  m_Store_schedule : Meth K C_Store "schedule" a_Store_schedule
  a_Store_sizes : Addr
  fd_Store_sizes : FuncData
  f_Store_sizes : Fun K "sizes" "Store.sizes" s_Store_sizes a_Store_sizes fd_Store_sizes
  bd_Store_sizes : Binds K fd_Store_sizes ["self"] []
  m_Store_sizes : Meth K C_Store "sizes" a_Store_sizes
  a_Store_written : Addr
  fd_Store_written : FuncData
  f_Store_written : Fun K "written" "Store.written" s_Store_written a_Store_written fd_Store_written
  bd_Store_written : Binds K fd_Store_written ["self"] []
  m_Store_written : Meth K C_Store "written" a_Store_written
  a_Store_pending : Addr
  fd_Store_pending : FuncData
  f_Store_pending : Fun K "pending" "Store.pending" s_Store_pending a_Store_pending fd_Store_pending
  bd_Store_pending : Binds K fd_Store_pending ["self"] []
  m_Store_pending : Meth K C_Store "pending" a_Store_pending
  a_Store_policy : Addr
  fd_Store_policy : FuncData
  f_Store_policy : Fun K "policy" "Store.policy" s_Store_policy a_Store_policy fd_Store_policy
  bd_Store_policy : Binds K fd_Store_policy ["self"] []
  m_Store_policy : Meth K C_Store "policy" a_Store_policy
  a_Store_undo : Addr
  fd_Store_undo : FuncData
  f_Store_undo : Fun K "undo" "Store.undo" s_Store_undo a_Store_undo fd_Store_undo
  bd_Store_undo : Binds K fd_Store_undo ["self"] []
  m_Store_undo : Meth K C_Store "undo" a_Store_undo
  a_Store___len__ : Addr
  fd_Store___len__ : FuncData
  f_Store___len__ : Fun K "__len__" "Store.__len__" s_Store___len__ a_Store___len__ fd_Store___len__
  bd_Store___len__ : Binds K fd_Store___len__ ["self"] []
  m_Store___len__ : Meth K C_Store "__len__" a_Store___len__
  a_L_start_draws : Addr
  fd_L_start_draws : FuncData
  f_L_start_draws : Fun K "_law_start_draws" "_law_start_draws" s_L_start_draws a_L_start_draws fd_L_start_draws
  g_L_start_draws : mg "_law_start_draws" = some (.ref a_L_start_draws)
  bd_L_start_draws : Binds K fd_L_start_draws ["_law_script", "_law_nth"] []
  a_L_next : Addr
  fd_L_next : FuncData
  f_L_next : Fun K "_law_next" "_law_next" s_L_next a_L_next fd_L_next
  g_L_next : mg "_law_next" = some (.ref a_L_next)
  bd_L_next : Binds K fd_L_next ["_law_deal", "_law_upto"] []
  a_L_pick : Addr
  fd_L_pick : FuncData
  f_L_pick : Fun K "_law_pick" "_law_pick" s_L_pick a_L_pick fd_L_pick
  g_L_pick : mg "_law_pick" = some (.ref a_L_pick)
  bd_L_pick : Binds K fd_L_pick ["_law_deal", "_law_some"] []
  a_L_odd : Addr
  fd_L_odd : FuncData
  f_L_odd : Fun K "_law_odd" "_law_odd" s_L_odd a_L_odd fd_L_odd
  g_L_odd : mg "_law_odd" = some (.ref a_L_odd)
  bd_L_odd : Binds K fd_L_odd ["_law_deal"] []
  a_L_refusal : Addr
  fd_L_refusal : FuncData
  f_L_refusal : Fun K "_law_refusal" "_law_refusal" s_L_refusal a_L_refusal fd_L_refusal
  g_L_refusal : mg "_law_refusal" = some (.ref a_L_refusal)
  bd_L_refusal : Binds K fd_L_refusal ["_law_ask"] []
  a_L_is_policy : Addr
  fd_L_is_policy : FuncData
  f_L_is_policy : Fun K "_law_is_policy" "_law_is_policy" s_L_is_policy a_L_is_policy fd_L_is_policy
  g_L_is_policy : mg "_law_is_policy" = some (.ref a_L_is_policy)
  bd_L_is_policy : Binds K fd_L_is_policy ["_law_thing"] []
  a_L_some_rule : Addr
  fd_L_some_rule : FuncData
  f_L_some_rule : Fun K "_law_some_rule" "_law_some_rule" s_L_some_rule a_L_some_rule fd_L_some_rule
  g_L_some_rule : mg "_law_some_rule" = some (.ref a_L_some_rule)
  bd_L_some_rule : Binds K fd_L_some_rule ["_law_deal"] []
  a_L_right : Addr
  fd_L_right : FuncData
  f_L_right : Fun K "_law_right" "_law_right" s_L_right a_L_right fd_L_right
  g_L_right : mg "_law_right" = some (.ref a_L_right)
  bd_L_right : Binds K fd_L_right ["_law_thing"] []
  a_law : Addr
  fd_law : FuncData
  f_law : Fun K "law" "law" s_law a_law fd_law
  g_law : mg "law" = some (.ref a_law)
  bd_law : Binds K fd_law ["_law_script"] []
  na_Store_rule : NoAttr K C_Store "rule"
  na_Store_merges : NoAttr K C_Store "merges"
  na_Store_batches : NoAttr K C_Store "batches"
  na_Store_buffer : NoAttr K C_Store "buffer"
  na_Store_history : NoAttr K C_Store "history"
  na_Store_searched : NoAttr K C_Store "searched"
  wp : Params
  d_POLICIES : Addr
  gd_POLICIES : mg "POLICIES" = some (.ref d_POLICIES)
  es_POLICIES : Array DictEntry
  en_POLICIES : Nat
  kl_POLICIES : K.lookup d_POLICIES = some ⟨.type "dict", none, .dict es_POLICIES en_POLICIES, #[]⟩
  ks_POLICIES : PySem.W.KeysLit wp es_POLICIES.toList
  kn_POLICIES : (d_POLICIES == sysModules) = false
  ko_POLICIES_0 : PySem.W.nsIn K d_POLICIES "" = some none
  ko_POLICIES_1 : PySem.W.nsIn K d_POLICIES "a" = some none
  ko_POLICIES_2 : PySem.W.nsIn K d_POLICIES "1" = some none
  ko_POLICIES_3 : PySem.W.nsIn K d_POLICIES "run" = some none
  ke_POLICIES_manual : ∃ t, PySem.W.nsIn K d_POLICIES "manual" = some (some (.int 0 t))
  ke_POLICIES_runs : ∃ t, PySem.W.nsIn K d_POLICIES "runs" = some (some (.int 1 t))
  ke_POLICIES_budget : ∃ t, PySem.W.nsIn K d_POLICIES "budget" = some (some (.int 2 t))
  b_isinstance : mg "isinstance" = none
  b_int : mg "int" = none
  b_bool : mg "bool" = none
  b_all : mg "all" = none
  b_tuple : mg "tuple" = none
  b_len : mg "len" = none
  b_enumerate : mg "enumerate" = none
  b_range : mg "range" = none
  b_max : mg "max" = none
  b_sum : mg "sum" = none
  b_zip : mg "zip" = none
  b_str : mg "str" = none
  b_sorted : mg "sorted" = none
  b_list : mg "list" = none
  b_reversed : mg "reversed" = none
  b_min : mg "min" = none
  b_abs : mg "abs" = none
  b_ValueError : mg "ValueError" = none
  b_repr : mg "repr" = none
  c_MergeBudgetError : Addr
  gc_MergeBudgetError : mg "MergeBudgetError" = some (.ref c_MergeBudgetError)
  kc_MergeBudgetError : PySem.W.keepIn K (.ref c_MergeBudgetError) = true
  xe_MergeBudgetError : ExcC K c_MergeBudgetError
  xf_MergeBudgetError : XfC K c_MergeBudgetError
  xi_MergeBudgetError : PySem.W.excIn K c_MergeBudgetError PySem.HandSPX.veTail "ValueError.__new__" = true
  c_InvalidSchedule : Addr
  gc_InvalidSchedule : mg "InvalidSchedule" = some (.ref c_InvalidSchedule)
  kc_InvalidSchedule : PySem.W.keepIn K (.ref c_InvalidSchedule) = true
  xe_InvalidSchedule : ExcC K c_InvalidSchedule
  xf_InvalidSchedule : XfC K c_InvalidSchedule
  ox_InvalidSchedule : OexC K c_InvalidSchedule
  no_InvalidSchedule : PySem.W.findIn K (.ref c_InvalidSchedule) "value" = some none
  fi_InvalidSchedule : Addr
  fdi_InvalidSchedule : FuncData
  ic_InvalidSchedule : PySem.W.findIn K (.ref c_InvalidSchedule) "__init__" = some (some (.ref fi_InvalidSchedule))
  ti_InvalidSchedule : PySem.W.typeIn K (.ref fi_InvalidSchedule) = some (.type "function")
  ui_InvalidSchedule : L2.Fun K "__init__" "InvalidSchedule.__init__" s_init_InvalidSchedule fi_InvalidSchedule fdi_InvalidSchedule
  bi_InvalidSchedule : Binds K fdi_InvalidSchedule ["self", "value"] []
  c_InvalidCount : Addr
  gc_InvalidCount : mg "InvalidCount" = some (.ref c_InvalidCount)
  kc_InvalidCount : PySem.W.keepIn K (.ref c_InvalidCount) = true
  xe_InvalidCount : ExcC K c_InvalidCount
  xf_InvalidCount : XfC K c_InvalidCount
  ox_InvalidCount : OexC K c_InvalidCount
  no_InvalidCount : PySem.W.findIn K (.ref c_InvalidCount) "value" = some none
  fi_InvalidCount : Addr
  fdi_InvalidCount : FuncData
  ic_InvalidCount : PySem.W.findIn K (.ref c_InvalidCount) "__init__" = some (some (.ref fi_InvalidCount))
  ti_InvalidCount : PySem.W.typeIn K (.ref fi_InvalidCount) = some (.type "function")
  ui_InvalidCount : L2.Fun K "__init__" "InvalidCount.__init__" s_init_InvalidCount fi_InvalidCount fdi_InvalidCount
  bi_InvalidCount : Binds K fdi_InvalidCount ["self", "value"] []
  c_InvalidBudget : Addr
  gc_InvalidBudget : mg "InvalidBudget" = some (.ref c_InvalidBudget)
  kc_InvalidBudget : PySem.W.keepIn K (.ref c_InvalidBudget) = true
  xe_InvalidBudget : ExcC K c_InvalidBudget
  xf_InvalidBudget : XfC K c_InvalidBudget
  ox_InvalidBudget : OexC K c_InvalidBudget
  no_InvalidBudget : PySem.W.findIn K (.ref c_InvalidBudget) "value" = some none
  fi_InvalidBudget : Addr
  fdi_InvalidBudget : FuncData
  ic_InvalidBudget : PySem.W.findIn K (.ref c_InvalidBudget) "__init__" = some (some (.ref fi_InvalidBudget))
  ti_InvalidBudget : PySem.W.typeIn K (.ref fi_InvalidBudget) = some (.type "function")
  ui_InvalidBudget : L2.Fun K "__init__" "InvalidBudget.__init__" s_init_InvalidBudget fi_InvalidBudget fdi_InvalidBudget
  bi_InvalidBudget : Binds K fdi_InvalidBudget ["self", "value"] []
  c_InvalidSizes : Addr
  gc_InvalidSizes : mg "InvalidSizes" = some (.ref c_InvalidSizes)
  kc_InvalidSizes : PySem.W.keepIn K (.ref c_InvalidSizes) = true
  xe_InvalidSizes : ExcC K c_InvalidSizes
  xf_InvalidSizes : XfC K c_InvalidSizes
  ox_InvalidSizes : OexC K c_InvalidSizes
  no_InvalidSizes : PySem.W.findIn K (.ref c_InvalidSizes) "value" = some none
  fi_InvalidSizes : Addr
  fdi_InvalidSizes : FuncData
  ic_InvalidSizes : PySem.W.findIn K (.ref c_InvalidSizes) "__init__" = some (some (.ref fi_InvalidSizes))
  ti_InvalidSizes : PySem.W.typeIn K (.ref fi_InvalidSizes) = some (.type "function")
  ui_InvalidSizes : L2.Fun K "__init__" "InvalidSizes.__init__" s_init_InvalidSizes fi_InvalidSizes fdi_InvalidSizes
  bi_InvalidSizes : Binds K fdi_InvalidSizes ["self", "value"] []
  c_InvalidReads : Addr
  gc_InvalidReads : mg "InvalidReads" = some (.ref c_InvalidReads)
  kc_InvalidReads : PySem.W.keepIn K (.ref c_InvalidReads) = true
  xe_InvalidReads : ExcC K c_InvalidReads
  xf_InvalidReads : XfC K c_InvalidReads
  ox_InvalidReads : OexC K c_InvalidReads
  no_InvalidReads : PySem.W.findIn K (.ref c_InvalidReads) "value" = some none
  fi_InvalidReads : Addr
  fdi_InvalidReads : FuncData
  ic_InvalidReads : PySem.W.findIn K (.ref c_InvalidReads) "__init__" = some (some (.ref fi_InvalidReads))
  ti_InvalidReads : PySem.W.typeIn K (.ref fi_InvalidReads) = some (.type "function")
  ui_InvalidReads : L2.Fun K "__init__" "InvalidReads.__init__" s_init_InvalidReads fi_InvalidReads fdi_InvalidReads
  bi_InvalidReads : Binds K fdi_InvalidReads ["self", "value"] []
  c_InvalidState : Addr
  gc_InvalidState : mg "InvalidState" = some (.ref c_InvalidState)
  kc_InvalidState : PySem.W.keepIn K (.ref c_InvalidState) = true
  xe_InvalidState : ExcC K c_InvalidState
  xf_InvalidState : XfC K c_InvalidState
  ox_InvalidState : OexC K c_InvalidState
  no_InvalidState : PySem.W.findIn K (.ref c_InvalidState) "value" = some none
  fi_InvalidState : Addr
  fdi_InvalidState : FuncData
  ic_InvalidState : PySem.W.findIn K (.ref c_InvalidState) "__init__" = some (some (.ref fi_InvalidState))
  ti_InvalidState : PySem.W.typeIn K (.ref fi_InvalidState) = some (.type "function")
  ui_InvalidState : L2.Fun K "__init__" "InvalidState.__init__" s_init_InvalidState fi_InvalidState fdi_InvalidState
  bi_InvalidState : Binds K fdi_InvalidState ["self", "value"] []
  c_InvalidMerge : Addr
  gc_InvalidMerge : mg "InvalidMerge" = some (.ref c_InvalidMerge)
  kc_InvalidMerge : PySem.W.keepIn K (.ref c_InvalidMerge) = true
  xe_InvalidMerge : ExcC K c_InvalidMerge
  xf_InvalidMerge : XfC K c_InvalidMerge
  ox_InvalidMerge : OexC K c_InvalidMerge
  no_InvalidMerge : PySem.W.findIn K (.ref c_InvalidMerge) "value" = some none
  fi_InvalidMerge : Addr
  fdi_InvalidMerge : FuncData
  ic_InvalidMerge : PySem.W.findIn K (.ref c_InvalidMerge) "__init__" = some (some (.ref fi_InvalidMerge))
  ti_InvalidMerge : PySem.W.typeIn K (.ref fi_InvalidMerge) = some (.type "function")
  ui_InvalidMerge : L2.Fun K "__init__" "InvalidMerge.__init__" s_init_InvalidMerge fi_InvalidMerge fdi_InvalidMerge
  bi_InvalidMerge : Binds K fdi_InvalidMerge ["self", "value"] []
  c_InvalidPolicy : Addr
  gc_InvalidPolicy : mg "InvalidPolicy" = some (.ref c_InvalidPolicy)
  kc_InvalidPolicy : PySem.W.keepIn K (.ref c_InvalidPolicy) = true
  xe_InvalidPolicy : ExcC K c_InvalidPolicy
  xf_InvalidPolicy : XfC K c_InvalidPolicy
  ox_InvalidPolicy : OexC K c_InvalidPolicy
  no_InvalidPolicy : PySem.W.findIn K (.ref c_InvalidPolicy) "value" = some none
  fi_InvalidPolicy : Addr
  fdi_InvalidPolicy : FuncData
  ic_InvalidPolicy : PySem.W.findIn K (.ref c_InvalidPolicy) "__init__" = some (some (.ref fi_InvalidPolicy))
  ti_InvalidPolicy : PySem.W.typeIn K (.ref fi_InvalidPolicy) = some (.type "function")
  ui_InvalidPolicy : L2.Fun K "__init__" "InvalidPolicy.__init__" s_init_InvalidPolicy fi_InvalidPolicy fdi_InvalidPolicy
  bi_InvalidPolicy : Binds K fdi_InvalidPolicy ["self", "value"] []
  c_InvalidKey : Addr
  gc_InvalidKey : mg "InvalidKey" = some (.ref c_InvalidKey)
  kc_InvalidKey : PySem.W.keepIn K (.ref c_InvalidKey) = true
  xe_InvalidKey : ExcC K c_InvalidKey
  xf_InvalidKey : XfC K c_InvalidKey
  ox_InvalidKey : OexC K c_InvalidKey
  no_InvalidKey : PySem.W.findIn K (.ref c_InvalidKey) "value" = some none
  fi_InvalidKey : Addr
  fdi_InvalidKey : FuncData
  ic_InvalidKey : PySem.W.findIn K (.ref c_InvalidKey) "__init__" = some (some (.ref fi_InvalidKey))
  ti_InvalidKey : PySem.W.typeIn K (.ref fi_InvalidKey) = some (.type "function")
  ui_InvalidKey : L2.Fun K "__init__" "InvalidKey.__init__" s_init_InvalidKey fi_InvalidKey fdi_InvalidKey
  bi_InvalidKey : Binds K fdi_InvalidKey ["self", "value"] []
  c_InvalidValue : Addr
  gc_InvalidValue : mg "InvalidValue" = some (.ref c_InvalidValue)
  kc_InvalidValue : PySem.W.keepIn K (.ref c_InvalidValue) = true
  xe_InvalidValue : ExcC K c_InvalidValue
  xf_InvalidValue : XfC K c_InvalidValue
  ox_InvalidValue : OexC K c_InvalidValue
  no_InvalidValue : PySem.W.findIn K (.ref c_InvalidValue) "value" = some none
  fi_InvalidValue : Addr
  fdi_InvalidValue : FuncData
  ic_InvalidValue : PySem.W.findIn K (.ref c_InvalidValue) "__init__" = some (some (.ref fi_InvalidValue))
  ti_InvalidValue : PySem.W.typeIn K (.ref fi_InvalidValue) = some (.type "function")
  ui_InvalidValue : L2.Fun K "__init__" "InvalidValue.__init__" s_init_InvalidValue fi_InvalidValue fdi_InvalidValue
  bi_InvalidValue : Binds K fdi_InvalidValue ["self", "value"] []
  c_InvalidMoment : Addr
  gc_InvalidMoment : mg "InvalidMoment" = some (.ref c_InvalidMoment)
  kc_InvalidMoment : PySem.W.keepIn K (.ref c_InvalidMoment) = true
  xe_InvalidMoment : ExcC K c_InvalidMoment
  xf_InvalidMoment : XfC K c_InvalidMoment
  ox_InvalidMoment : OexC K c_InvalidMoment
  no_InvalidMoment : PySem.W.findIn K (.ref c_InvalidMoment) "value" = some none
  fi_InvalidMoment : Addr
  fdi_InvalidMoment : FuncData
  ic_InvalidMoment : PySem.W.findIn K (.ref c_InvalidMoment) "__init__" = some (some (.ref fi_InvalidMoment))
  ti_InvalidMoment : PySem.W.typeIn K (.ref fi_InvalidMoment) = some (.type "function")
  ui_InvalidMoment : L2.Fun K "__init__" "InvalidMoment.__init__" s_init_InvalidMoment fi_InvalidMoment fdi_InvalidMoment
  bi_InvalidMoment : Binds K fdi_InvalidMoment ["self", "value"] []
  c_InvalidText : Addr
  gc_InvalidText : mg "InvalidText" = some (.ref c_InvalidText)
  kc_InvalidText : PySem.W.keepIn K (.ref c_InvalidText) = true
  xe_InvalidText : ExcC K c_InvalidText
  xf_InvalidText : XfC K c_InvalidText
  ox_InvalidText : OexC K c_InvalidText
  no_InvalidText : PySem.W.findIn K (.ref c_InvalidText) "value" = some none
  fi_InvalidText : Addr
  fdi_InvalidText : FuncData
  ic_InvalidText : PySem.W.findIn K (.ref c_InvalidText) "__init__" = some (some (.ref fi_InvalidText))
  ti_InvalidText : PySem.W.typeIn K (.ref fi_InvalidText) = some (.type "function")
  ui_InvalidText : L2.Fun K "__init__" "InvalidText.__init__" s_init_InvalidText fi_InvalidText fdi_InvalidText
  bi_InvalidText : Binds K fdi_InvalidText ["self", "value"] []
  c_InvalidLine : Addr
  gc_InvalidLine : mg "InvalidLine" = some (.ref c_InvalidLine)
  kc_InvalidLine : PySem.W.keepIn K (.ref c_InvalidLine) = true
  xe_InvalidLine : ExcC K c_InvalidLine
  xf_InvalidLine : XfC K c_InvalidLine
  ox_InvalidLine : OexC K c_InvalidLine
  no_InvalidLine : PySem.W.findIn K (.ref c_InvalidLine) "value" = some none
  fi_InvalidLine : Addr
  fdi_InvalidLine : FuncData
  ic_InvalidLine : PySem.W.findIn K (.ref c_InvalidLine) "__init__" = some (some (.ref fi_InvalidLine))
  ti_InvalidLine : PySem.W.typeIn K (.ref fi_InvalidLine) = some (.type "function")
  ui_InvalidLine : L2.Fun K "__init__" "InvalidLine.__init__" s_init_InvalidLine fi_InvalidLine fdi_InvalidLine
  bi_InvalidLine : Binds K fdi_InvalidLine ["self", "value"] []
  c_Exhausted : Addr
  gc_Exhausted : mg "Exhausted" = some (.ref c_Exhausted)
  kc_Exhausted : PySem.W.keepIn K (.ref c_Exhausted) = true
  xe_Exhausted : ExcC K c_Exhausted
  xf_Exhausted : XfC K c_Exhausted
  xi_Exhausted : PySem.W.excIn K c_Exhausted PySem.HandSPX.veTail "ValueError.__new__" = true
  c_NothingToUndo : Addr
  gc_NothingToUndo : mg "NothingToUndo" = some (.ref c_NothingToUndo)
  kc_NothingToUndo : PySem.W.keepIn K (.ref c_NothingToUndo) = true
  xe_NothingToUndo : ExcC K c_NothingToUndo
  xf_NothingToUndo : XfC K c_NothingToUndo
  xi_NothingToUndo : PySem.W.excIn K c_NothingToUndo PySem.HandSPX.veTail "ValueError.__new__" = true
  kits : kitB K [c_InvalidSchedule, c_InvalidCount, c_InvalidBudget, c_InvalidSizes, c_InvalidReads, c_InvalidState, c_InvalidMerge, c_InvalidPolicy, c_InvalidKey, c_InvalidValue, c_InvalidMoment, c_InvalidText, c_InvalidLine, c_Exhausted, c_NothingToUndo] c_MergeBudgetError = true
  kitn : [c_InvalidSchedule, c_InvalidCount, c_InvalidBudget, c_InvalidSizes, c_InvalidReads, c_InvalidState, c_InvalidMerge, c_InvalidPolicy, c_InvalidKey, c_InvalidValue, c_InvalidMoment, c_InvalidText, c_InvalidLine, c_Exhausted, c_NothingToUndo].Nodup
  kitz : c_MergeBudgetError ∉ [c_InvalidSchedule, c_InvalidCount, c_InvalidBudget, c_InvalidSizes, c_InvalidReads, c_InvalidState, c_InvalidMerge, c_InvalidPolicy, c_InvalidKey, c_InvalidValue, c_InvalidMoment, c_InvalidText, c_InvalidLine, c_Exhausted, c_NothingToUndo]
  cdl_L_right : Addr
  ptl_L_right : Addr
  lawc_L_right : ∃ (oc : Value) (od : Option Addr) (kV doc pm : Value) (an : Option Addr) (ct : Value) (osl : Array (Option Value)), fd_L_right = PySem.W.fnOf "_law_right" "_law_right" (defArgs s_L_right) (defBody s_L_right) (defScope s_L_right) .none kV doc pm an (.ref cdl_L_right) ct ∧ K.lookup a_L_right = some ⟨oc, od, .func fd_L_right, osl⟩ ∧ PySem.W.codeIn K (.ref cdl_L_right) "_law_right" = true
  t_MOST_BUDGET : Tok
  c_MOST_BUDGET : mg "MOST_BUDGET" = some (.int (60) t_MOST_BUDGET)
  t_MOST_LOAD : Tok
  c_MOST_LOAD : mg "MOST_LOAD" = some (.int (1000000000) t_MOST_LOAD)
  t_MOST_FLUSHES : Tok
  c_MOST_FLUSHES : mg "MOST_FLUSHES" = some (.int (60) t_MOST_FLUSHES)
  t_MOST_POSITION : Tok
  c_MOST_POSITION : mg "MOST_POSITION" = some (.int (1000000000000000000) t_MOST_POSITION)
  t_MOST_LETTERS : Tok
  c_MOST_LETTERS : mg "MOST_LETTERS" = some (.int (8) t_MOST_LETTERS)
class WP {K : PySem.W.Frag} {mg : Str → Option Value} (w : World) (TX : Tx K mg) : Prop where
  eq : w.params = TX.wp
theorem kd_POLICIES {K : PySem.W.Frag} {mg : Str → Option Value} {w : World} (TX : Tx K mg) [h : WP w TX] : KDict K w TX.d_POLICIES TX.es_POLICIES TX.en_POLICIES := ⟨TX.kl_POLICIES, by rw [h.eq]; exact TX.ks_POLICIES, TX.kn_POLICIES⟩
theorem kv_POLICIES_manual {K : PySem.W.Frag} {mg : Str → Option Value} {w : World} (TX : Tx K mg) [h : WP w TX] : KDct K w TX.d_POLICIES "manual" (.int 0) := let ⟨t, e⟩ := TX.ke_POLICIES_manual; ⟨_, _, _, TX.kl_POLICIES, by rw [h.eq]; exact TX.ks_POLICIES, e, ⟨_, rfl⟩⟩
theorem kv_POLICIES_runs {K : PySem.W.Frag} {mg : Str → Option Value} {w : World} (TX : Tx K mg) [h : WP w TX] : KDct K w TX.d_POLICIES "runs" (.int 1) := let ⟨t, e⟩ := TX.ke_POLICIES_runs; ⟨_, _, _, TX.kl_POLICIES, by rw [h.eq]; exact TX.ks_POLICIES, e, ⟨_, rfl⟩⟩
theorem kv_POLICIES_budget {K : PySem.W.Frag} {mg : Str → Option Value} {w : World} (TX : Tx K mg) [h : WP w TX] : KDct K w TX.d_POLICIES "budget" (.int 2) := let ⟨t, e⟩ := TX.ke_POLICIES_budget; ⟨_, _, _, TX.kl_POLICIES, by rw [h.eq]; exact TX.ks_POLICIES, e, ⟨_, rfl⟩⟩
section
variable {P : Program} {w : World} {K : PySem.W.Frag} {mg : Str → Option Value} {base : Heap}
def sp_is_int (K : PySem.W.Frag) : Sp := fun vs H Q _ => ∃ i : Int, vs = [.int i] ∧ Q (.bl true) H
theorem ok_is_int (TX : Tx K mg) : FnOk P w K mg base CX0 1 TX.a_is_int TX.fd_is_int ["value"] (sp_is_int K) := by
  refine TX.f_is_int.ok sc_is_int (fun vs H Q E h => ?_) (fun cdv A outer s H vs Q E hr h => ?_)
  · obtain ⟨i, rfl, _⟩ := h; rfl
  · obtain ⟨i, rfl, q⟩ := h
    refine ⟨_, (pss_one (ps_ret (pe_and (pe_callB (id := "isinstance") (k_isi (K := K) rfl) (by rfl) TX.b_isinstance (by decide +kernel) (pa_cons (pv 0) (pa_cons (pe_bltn (v := .ty "int") (by rfl) TX.b_int (by decide +kernel) rfl) pa_nil))) (pe_one (pe_not (pe_callB (id := "isinstance") (k_isi (K := K) rfl) (by rfl) TX.b_isinstance (by decide +kernel) (pa_cons (pv 0) (pa_cons (pe_bltn (v := .ty "bool") (by rfl) TX.b_bool (by decide +kernel) rfl) pa_nil)))))))), ?_⟩
    refine ⟨.int i, rfl, .int i, .ty "int", .type "int", .type "int", true, rfl, .ty _, .base (.int i), kit_ty (by decide +kernel), true, rfl, ?_⟩
    exact iteT ⟨.int i, rfl, .int i, .ty "bool", .type "int", .type "bool", false, rfl, .ty _, .base (.int i), kit_ty (by decide +kernel), false, rfl, q⟩
def sp_is_count (K : PySem.W.Frag) : Sp := fun vs H Q _ => ∃ i : Int, vs = [.int i] ∧ Q (.bl (decide (0 ≤ i))) H
theorem ok_is_count (TX : Tx K mg) : FnOk P w K mg base CX0 2 TX.a_is_count TX.fd_is_count ["value"] (sp_is_count K) := by
  refine TX.f_is_count.ok sc_is_count (fun vs H Q E h => ?_) (fun cdv A outer s H vs Q E hr h => ?_)
  · obtain ⟨i, rfl, _⟩ := h; rfl
  · obtain ⟨i, rfl, q⟩ := h
    refine ⟨_, (pss_one (ps_ret (pe_and (pe_call (ok_is_int TX) (hr.mono (by decide)) (by rfl) TX.g_is_int TX.f_is_int.kp TX.bd_is_int .nil pass0 (pa_cons (pv 0) pa_nil)) (pe_one (pe_cmpR op_ge (pv 0) pe_int (nomark _)))))), ?_⟩
    exact ⟨.int i, rfl, i, rfl, true, rfl, iteT ⟨.int i, rfl, i, 0, rfl, rfl, q⟩⟩
def sp_is_count_up_to (K : PySem.W.Frag) : Sp := fun vs H Q _ => ∃ i m : Int, vs = [.int i, .int m] ∧ Q (.bl (decide (0 ≤ i) && decide (i ≤ m))) H
theorem ok_is_count_up_to (TX : Tx K mg) : FnOk P w K mg base CX0 3 TX.a_is_count_up_to TX.fd_is_count_up_to ["value", "most"] (sp_is_count_up_to K) := by
  refine TX.f_is_count_up_to.ok sc_is_count_up_to (fun vs H Q E h => ?_) (fun cdv A outer s H vs Q E hr h => ?_)
  · obtain ⟨i, m, rfl, _⟩ := h; rfl
  · obtain ⟨i, m, rfl, q⟩ := h
    refine ⟨_, (pss_one (ps_ret (pe_and (pe_call (ok_is_count TX) (hr.mono (by decide)) (by rfl) TX.g_is_count TX.f_is_count.kp TX.bd_is_count .nil pass0 (pa_cons (pv 0) pa_nil)) (pe_one (pe_cmpR op_le (pv 0) (pv 1) (nomark _)))))), ?_⟩
    refine ⟨.int i, rfl, i, rfl, _, rfl, ?_⟩
    by_cases h0 : 0 ≤ i
    · rw [decide_eq_true h0] at q ⊢
      exact iteT ⟨.int i, rfl, .int m, rfl, i, m, rfl, rfl, q⟩
    · rw [decide_eq_false h0] at q ⊢
      exact iteF q
def sp_is_schedule (K : PySem.W.Frag) : Sp := fun vs H Q _ => ∃ (a : Addr) (t : T), vs = [.ref a] ∧ SqT K H a (vi t.sch) ∧ t.size ≤ 60 ∧ Q (.bl true) H
theorem ok_is_schedule (TX : Tx K mg) : FnOk P w K mg base CX0 4 TX.a_is_schedule TX.fd_is_schedule ["value"] (sp_is_schedule K) := by
  refine TX.f_is_schedule.ok sc_is_schedule (fun vs H Q E h => ?_) (fun cdv A outer s H vs Q E hr h => ?_)
  · obtain ⟨a, t, rfl, _⟩ := h; rfl
  · obtain ⟨a, t, rfl, hS, hz, q⟩ := h
    have hlen : (vi t.sch).length = t.size := by rw [vi_len, T.sch_len]
    refine ⟨_, (pss_cons (ps_if (PW.pt (pw_or (pt_not (pt_val (pe_callB (id := "isinstance") (k_isi (K := K) rfl) (by rfl) TX.b_isinstance (by decide +kernel) (pa_cons (pv 0) (pa_cons (pe_bltn (v := .ty "tuple") (by rfl) TX.b_tuple (by decide +kernel) rfl) pa_nil))))) (pw_or1 (pt_cmpR op_gt (pe_callB (id := "len") (k_len (K := K) rfl) (by rfl) TX.b_len (by decide +kernel) (pa_cons (pv 0) pa_nil)) (pe_glob (v := .int (60)) (by rfl) TX.c_MOST_FLUSHES ⟨_, rfl⟩) (nomark _)))))
        (pss_one (ps_ret pe_bl))
        pss_nil)
      (pss_cons (ps_set (i := 1) sc_is_schedule.nd rfl (.inl rfl) pe_int)
      (pss_cons (ps_for PassesOwn.never rfl (k_piT (K := K) rfl (pv 0)) (pg_name (i := 2) sc_is_schedule.nd rfl (.inl rfl))
        (pss_cons (ps_if (pt_not (pt_val (pe_call (ok_is_count_up_to TX) (hr.mono (by decide)) (by rfl) TX.g_is_count_up_to TX.f_is_count_up_to.kp TX.bd_is_count_up_to .nil pass0 (pa_cons (pv 2) (pa_cons (pv 1) pa_nil)))))
          (pss_one (ps_ret pe_bl))
          pss_nil)
        (pss_one (ps_set (i := 1) sc_is_schedule.nd rfl (.inl rfl) (pe_op op_add (pe_op op_sub (pv 1) (pv 2)) pe_int)))))
      (pss_one (ps_ret pe_bl))))), ?_⟩
    refine ⟨.ref a, rfl, .ref a, .ty "tuple", .type "tuple", .type "tuple", true, rfl, .ty _, ty_tup hS, kit_ty (by decide +kernel), true, rfl, iteF ⟨.ref a, rfl, a, _, rfl, .inr hS, _, _, rfl, rfl, _, rfl, decF (by rw [hlen]; omega) ?_⟩⟩
    refine ⟨.ref a, rfl, a, rfl, ⟨_, hS⟩, for_tup (K := K) (xs := vi t.sch) (fun i σ H' => H' = H ∧ ∃ y2, σ = [some (.ref a), some (.int ((pre t i).runs : Int)), y2] ) ⟨rfl, none, rfl⟩ (fun i σ H' _ h => by rw [h.1]; exact hS) ?_ ?_⟩
    · rintro i x σ H' hx ⟨rfl, y2, rfl⟩
      have hi : i < t.sch.length := by
        have := (List.getElem?_eq_some_iff.mp hx).1
        rwa [vi_len] at this
      have hm := List.getElem?_eq_getElem hi
      rw [vi_get hm] at hx
      cases hx
      obtain ⟨e1, h1⟩ := pre_succ hm
      have e2 := T.push_runs _ _ h1
      refine ⟨_, rfl, _, rfl, _, _, rfl, true, ?_, iteF ⟨_, rfl, _, rfl, _, _, rfl, rfl, _, _, rfl, rfl, rfl, some (.int (t.sch[i] : Int)), ?_⟩⟩
      · rw [decide_eq_true (by omega), decide_eq_true (by omega)]; rfl
      · rw [e1, e2]
        show [_, _, _] = [_, _, _]
        simp only [Int.natCast_add, Int.natCast_sub h1]
        rfl
    · rintro σ H' ⟨rfl, y2, rfl⟩
      exact q
end
def dPr (p : Nat × Nat) : PyData := .tuple [.int (p.1 : Int), .int (p.2 : Int)]
def dStk (l : List (Nat × Nat)) : PyData := .tuple (l.map dPr)
theorem tf_pr (p : Nat × Nat) : Tf (dPr p) := .tup fun d h => by
  rcases List.mem_cons.mp h with rfl | h
  · exact .int _
  · rcases List.mem_cons.mp h with rfl | h
    · exact .int _
    · cases h
theorem tf_stk (l : List (Nat × Nat)) : Tf (dStk l) := .tup fun d h => by
  obtain ⟨p, _, rfl⟩ := List.mem_map.mp h
  exact tf_pr p
section
variable {P : Program} {w : World} {K : PySem.W.Frag} {mg : Str → Option Value} {base : Heap}
def sp_stack_after (K : PySem.W.Frag) : Sp := fun vs H Q _ => ∃ (a : Addr) (t : T) (m : Nat), vs = [.ref a, .int (t.size : Int), .int (m : Int)] ∧ Dp K H (.ref a) (dStk (t.stk 0)) ∧ m ≤ t.runs ∧ t.size ≤ 60 ∧
  ∀ H' p, Same H H' → Dp K H' (.ref p) (dStk ((t.push m).stk 0)) → Q (.ref p) H'
theorem ok_stack_after (TX : Tx K mg) : FnOk P w K mg base CX0 3 TX.a_stack_after TX.fd_stack_after ["stack", "flush", "merge"] (sp_stack_after K) := by
  refine TX.f_stack_after.ok sc_stack_after (fun vs H Q E h => ?_) (fun cdv A outer s H vs Q E hr h => ?_)
  · obtain ⟨a, t, m, rfl, _⟩ := h; rfl
  · obtain ⟨a, t, m, rfl, hS, hm, hz, q⟩ := h
    obtain ⟨a', xs, e, hS, hA⟩ := Dp.tupInv hS
    cases e
    have hl := DpAll.len hA
    rw [List.length_map, T.stk_len] at hl
    have hrs := T.runs_le t
    have hst := T.start_le t m hm
    have e2 : ((xs.length : Int) - (m : Int)) = ((t.runs - m : Nat) : Int) := by rw [hl]; omega
    refine ⟨_, (pss_cons (ps_set (i := 3) sc_stack_after.nd rfl (.inl rfl) (pe_op op_sub (pe_callB (id := "len") (k_len (K := K) rfl) (by rfl) TX.b_len (by decide +kernel) (pa_cons (pv 0) pa_nil)) (pv 2)))
      (pss_cons (ps_set (i := 4) sc_stack_after.nd rfl (.inl rfl) (pe_ifExp (pt_cmpR op_gt (pv 2) pe_int (nomark _)) (pe_ix (k_ixT (K := K) rfl) (pe_ix (k_ixT (K := K) rfl) (pv 0) (pv 3) (fun _ _ => rfl)) pe_int (fun _ _ => rfl)) (pv 1)))
      (pss_one (ps_ret (pe_op (k_catT (K := K) rfl) (pe_slice (k_slT (K := K) rfl) (pv 0) po_none (po_some (pv 3))) (pe_tup (pa_cons (pe_tup (pa_cons (pv 4) (pa_cons (pe_op op_add (pv 1) pe_int) pa_nil))) pa_nil))))))), ?_⟩
    refine ⟨.ref a, rfl, a, xs, rfl, .inr hS, .int m, rfl, _, _, rfl, rfl, ?_⟩
    refine ⟨.int m, rfl, m, 0, rfl, rfl, _, rfl, ?_⟩
    have pos : (0 < m → ∃ b e, xs[t.runs - m]? = some (.ref b) ∧ SqT K H b [.int (t.start m : Int), .int e]) := fun h0 => by
      obtain ⟨e, he⟩ := T.stk_at t m hm 0 h0
      have h1 : ((t.stk 0).map dPr)[t.runs - m]? = some (dPr (0 + t.start m, e)) := by rw [List.getElem?_map, he]; rfl
      obtain ⟨v, h2, h3⟩ := DpAll.get hA h1
      obtain ⟨b, ys, rfl, h4, h5⟩ := Dp.tupInv h3
      have h6 : ys = [V.int (t.start m : Int), V.int (e : Int)] := by
        have := dp_ints_inv (ns := [((0 + t.start m : Nat) : Int), (e : Int)]) h5
        rw [this, Nat.zero_add]; rfl
      rw [h6] at h4
      exact ⟨b, e, h2, h4⟩
    have fin : ∀ p1 H1 p2 p3, Same H H1 → SqT K H1 p1 (xs.take (t.runs - m)) → H1 p2 = none → (upd H1 p2 (.tup [.int (t.start m : Int), .int ((t.size : Int) + 1)])) p3 = none →
        rCatA K (.ref p1) (.ref p3) (upd (upd H1 p2 (.tup [.int (t.start m : Int), .int ((t.size : Int) + 1)])) p3 (.tup [.ref p2])) Q := fun p1 H1 p2 p3 s1 h1 n2 n3 => by
      have s2 : Same H1 (upd H1 p2 (.tup [.int (t.start m : Int), .int ((t.size : Int) + 1)])) := same_upd n2
      have s3 := same_upd (o := .tup [.ref p2]) n3
      refine cat_read (Same.tup (s2.trans s3) h1) (.inl (.inl upd_same)) (by rw [List.length_take]; simp; omega) fun p H' s4 h4 => q H' p (((s1.trans s2).trans s3).trans s4) ?_
      rw [T.stk_push t m hm 0]
      unfold dStk
      rw [List.map_append, List.map_take]
      refine .tup h4 (DpAll.append (DpAll.same (((s1.trans s2).trans s3).trans s4) (DpAll.take _ hA)) (.cons ?_ .nil))
      refine .tup (xs := [.int (t.start m : Int), .int ((t.size : Int) + 1)]) (Same.tup (s3.trans s4) (.inl (.inl upd_same))) ?_
      have := dp_ints (K := K) (H := H') [(t.start m : Int), ((t.size : Int) + 1)]
      simpa using this
    refine ite2 (fun h => ?_) (fun h => ?_)
    · have h0 : 0 < m := by simpa using h
      obtain ⟨b, e, h2, h4⟩ := pos h0
      refine ⟨.ref a, rfl, _, rfl, a, xs, _, .ref b, rfl, rfl, hS, (by rw [e2]; exact atI_nat h2), b, _, 0, .int (t.start m : Int), rfl, rfl, h4, rfl, ?_⟩
      refine ⟨.ref a, rfl, _, rfl, _, rfl, sl_read hS fun p1 H1 s1 h1 => ?_⟩
      refine ⟨_, rfl, _, rfl, _, _, rfl, rfl, sz60 (by simp), fun p2 n2 => ⟨sz60 (by simp), fun p3 n3 => ?_⟩⟩
      exact fin p1 H1 p2 p3 s1 (by rw [e2, cut_to (by omega)] at h1; exact h1) n2 n3
    · have h0 : m = 0 := by
        have : ¬ (0 < m) := by simpa using h
        omega
      refine ⟨.int (t.start m : Int), by rw [T.start_zero t m hm h0]; rfl, ?_⟩
      refine ⟨.ref a, rfl, _, rfl, _, rfl, sl_read hS fun p1 H1 s1 h1 => ?_⟩
      refine ⟨_, rfl, _, rfl, _, _, rfl, rfl, sz60 (by simp), fun p2 n2 => ⟨sz60 (by simp), fun p3 n3 => ?_⟩⟩
      exact fin p1 H1 p2 p3 s1 (by rw [e2, cut_to (by omega)] at h1; exact h1) n2 n3
def dStacks (t : T) : List PyData := (List.range t.size).map fun i => dStk ((pre t (i + 1)).stk 0)
theorem tf_stacks (t : T) : ∀ d, d ∈ dStacks t → Tf d := fun d h => by
  obtain ⟨i, _, rfl⟩ := List.mem_map.mp h
  exact tf_stk _
theorem dStacks_len (t : T) : (dStacks t).length = t.size := by simp [dStacks]
theorem dStacks_at {t : T} {i : Nat} (h : i < t.size) : (dStacks t)[i]? = some (dStk ((pre t (i + 1)).stk 0)) := by simp [dStacks, h]
theorem dStacks_take {t : T} {i : Nat} (h : i < t.size) : (dStacks t).take (i + 1) = (dStacks t).take i ++ [dStk ((pre t (i + 1)).stk 0)] := by
  rw [List.take_add_one, dStacks_at h]; rfl
def sp_stacks (K : PySem.W.Frag) : Sp := fun vs H Q _ => ∃ (a : Addr) (t : T), vs = [.ref a] ∧ SqT K H a (vi t.sch) ∧ t.size ≤ 60 ∧ ∀ H' p, Same H H' → Dp K H' (.ref p) (.tuple (dStacks t)) → Q (.ref p) H'
theorem ok_stacks (TX : Tx K mg) : FnOk P w K mg base CX0 5 TX.a_stacks TX.fd_stacks ["schedule"] (sp_stacks K) := by
  refine TX.f_stacks.ok sc_stacks (fun vs H Q E h => ?_) (fun cdv A outer s H vs Q E hr h => ?_)
  · obtain ⟨a, t, rfl, _⟩ := h; rfl
  · obtain ⟨a, t, rfl, hS, hz, q⟩ := h
    have hlen : (vi t.sch).length = t.size := by rw [vi_len, T.sch_len]
    refine ⟨_, (pss_cons (ps_if (pt_not (pt_val (pe_call (ok_is_schedule TX) (hr.mono (by decide)) (by rfl) TX.g_is_schedule TX.f_is_schedule.kp TX.bd_is_schedule .nil pass0 (pa_cons (pv 0) pa_nil))))
        (pss_one ps_never)
        pss_nil)
      (pss_cons (ps_set (i := 1) sc_stacks.nd rfl (.inl rfl) (pe_tup pa_nil))
      (pss_cons (ps_set (i := 2) sc_stacks.nd rfl (.inl rfl) (pe_lst pa_nil))
      (pss_cons (ps_for PassesOwn.never rfl (pi_enumT (by rfl) TX.b_enumerate (pa_cons (pv 0) pa_nil)) (pg_tup rfl (pgs_cons (pg_name (i := 3) sc_stacks.nd rfl (.inl rfl)) (pgs_cons (pg_name (i := 4) sc_stacks.nd rfl (.inl rfl)) pgs_nil)))
        (pss_cons (ps_set (i := 1) sc_stacks.nd rfl (.inl rfl) (pe_call (ok_stack_after TX) (hr.mono (by decide)) (by rfl) TX.g_stack_after TX.f_stack_after.kp TX.bd_stack_after .nil pass0 (pa_cons (pv 1) (pa_cons (pv 3) (pa_cons (pv 4) pa_nil)))))
        (pss_one (ps_expr (pe_bm PySem.F.plainAttrs_list PySem.F.slot_list_append PySem.F.type_list_append mt_append (pv 2) (pa_cons (pv 1) pa_nil))))))
      (pss_one (ps_ret (pe_callTy (T := "tuple") (k_tupOf (K := K) rfl) (by rfl) TX.b_tuple (by decide +kernel) (pa_cons (pv 2) pa_nil)))))))), ?_⟩
    refine ⟨.ref a, rfl, a, t, rfl, hS, hz, true, rfl, iteF ⟨sz60 (by simp), fun p0 n0 => ⟨sz60 (by simp), fun r nr => ?_⟩⟩⟩
    have s0 : Same H (upd H p0 (.tup [])) := same_upd n0
    have s1 : Same (upd H p0 (.tup [])) (upd (upd H p0 (.tup [])) r (.lst [])) := same_upd nr
    have nr0 : H r = none := s0.free nr
    refine ⟨.ref a, rfl, a, _, rfl, Same.tup (s0.trans s1) hS, for_it walk_enumT (fun i σ H' => ∃ p y3 y4 acc, σ = [some (.ref a), some (.ref p), some (.ref r), y3, y4] ∧ Same H H' ∧ Dp K H' (.ref p) (dStk ((pre t i).stk 0)) ∧ H' r = some (.lst acc) ∧ DpAll K H' acc ((dStacks t).take i))
      ⟨p0, none, none, [], rfl, s0.trans s1, .tup (Same.tup s1 (.inl (.inl upd_same))) .nil, upd_same, .nil⟩ (fun i σ H' _ ⟨_, _, _, _, _, h, _⟩ => Same.tup h hS) ?_ ?_⟩
    · rintro i x σ H1 H2 hi ⟨p, y3, y4, acc, rfl, sm, hp, hr', hA⟩ hy
      obtain ⟨Tp, x1, x2, rfl, nT, rfl, e1, e2⟩ := hy
      cases e1
      have hi' : i < t.sch.length := by rw [vi_len] at hi; exact hi
      have hm := List.getElem?_eq_getElem hi'
      replace e2 : (vi t.sch)[i]? = some x2 := e2
      rw [vi_get hm] at e2
      cases e2
      have hi2 : i < t.size := by rw [← T.sch_len]; exact hi'
      obtain ⟨f1, f2⟩ := pre_succ hm
      have sT : Same H1 (upd H1 Tp (.tup [.int (i : Nat), .int (t.sch[i] : Int)])) := same_upd nT
      refine ⟨Tp, _, rfl, .inl (.inl upd_same), rfl, _, _, rfl, _, [], rfl, rfl, ?_⟩
      refine ⟨.ref p, rfl, .int (i : Nat), rfl, .int (t.sch[i] : Int), rfl, p, pre t i, t.sch[i], ?_, Dp.same sT hp, f2, by rw [pre_size (by omega)]; omega, fun H3 p3 s3 h3 => ?_⟩
      · rw [pre_size (by omega)]; rfl
      · rw [← f1] at h3
        have hr3 := s3 _ _ (sT _ _ hr')
        have hlA := DpAll.len hA
        rw [List.length_take, dStacks_len] at hlA
        refine ⟨.ref r, rfl, .inl ⟨rfl, _, .inl (.inl hr3)⟩, .ref p3, rfl, r, _, _, rfl, rfl, hr3, sz61 (by omega), ?_⟩
        have kp : Keep K H3 (upd H3 r (.lst (acc ++ [.ref p3]))) := But.keep But.upd hr3
        refine ⟨p3, some (.int (i : Nat)), some (.int (t.sch[i] : Int)), acc ++ [.ref p3], rfl, Same.mut ((sm.trans sT).trans s3) nr0, Dp.keep kp (tf_stk _) h3, upd_same, ?_⟩
        rw [dStacks_take hi2]
        refine DpAll.keep kp (fun d h => ?_) (DpAll.append (DpAll.same (sT.trans s3) hA) (.cons h3 .nil))
        rw [← dStacks_take hi2] at h
        exact tf_stacks t d (List.mem_of_mem_take h)
    · rintro σ H' ⟨p, y3, y4, acc, rfl, sm, hp, hr', hA⟩
      rw [hlen, List.take_of_length_le (by rw [dStacks_len]; omega)] at hA
      refine ⟨.ref r, rfl, r, acc, rfl, .inl ⟨.inl (.inl hr'), fun l nl => ?_⟩⟩
      exact q _ l (sm.trans (same_upd nl)) (.tup (.inl (.inl upd_same)) (DpAll.same (same_upd nl) hA))
end
section
variable {P : Program} {w : World} {K : PySem.W.Frag} {mg : Str → Option Value} {base : Heap}
def sp_writes (K : PySem.W.Frag) : Sp := fun vs H Q _ => ∃ (a : Addr) (t : T), vs = [.ref a] ∧ SqT K H a (vi t.sch) ∧ t.size ≤ 60 ∧ ∀ H' p, Same H H' → SqT K H' p (vi t.wr) → Q (.ref p) H'
theorem ok_writes (TX : Tx K mg) : FnOk P w K mg base CX0 6 TX.a_writes TX.fd_writes ["schedule"] (sp_writes K) := by
  refine TX.f_writes.ok sc_writes (fun vs H Q E h => ?_) (fun cdv A outer s H vs Q E hr h => ?_)
  · obtain ⟨a, t, rfl, _⟩ := h; rfl
  · obtain ⟨a, t, rfl, hS, hz, q⟩ := h
    refine ⟨_, (pss_cons (ps_set (i := 1) sc_writes.nd rfl (.inl rfl) (pe_call (ok_stacks TX) (hr.mono (by decide)) (by rfl) TX.g_stacks TX.f_stacks.kp TX.bd_stacks .nil pass0 (pa_cons (pv 0) pa_nil)))
      (pss_cons (ps_set (i := 2) sc_writes.nd rfl (.inl rfl) (pe_op op_rep (pe_lst (pa_cons pe_int pa_nil)) (pe_callB (id := "len") (k_len (K := K) rfl) (by rfl) TX.b_len (by decide +kernel) (pa_cons (pv 1) pa_nil))))
      (pss_cons (ps_for PassesOwn.never rfl (k_piT (K := K) rfl (pv 1)) (pg_name (i := 3) sc_writes.nd rfl (.inl rfl))
        (pss_cons (ps_asg (pe_ix (k_ixT (K := K) rfl) (pv 3) (pe_un un_neg pe_int) (fun _ _ => rfl)) (pg_tup rfl (pgs_cons (pg_name (i := 4) sc_writes.nd rfl (.inl rfl)) (pgs_cons (pg_name (i := 5) sc_writes.nd rfl (.inl rfl)) pgs_nil))))
        (pss_one (ps_for PassesOwn.never rfl (pi_range2 (by rfl) TX.b_range (pa_cons (pv 4) (pa_cons (pv 5) pa_nil))) (pg_name (i := 6) sc_writes.nd rfl (.inl rfl))
          (pss_one (ps_augS (pv 2) (pv 6) get_list pe_int ip_add set_list))))))
      (pss_one (ps_ret (pe_callTy (T := "tuple") (k_tupOf (K := K) rfl) (by rfl) TX.b_tuple (by decide +kernel) (pa_cons (pv 2) pa_nil))))))), ?_⟩
    refine ⟨.ref a, rfl, a, t, rfl, hS, hz, fun H1 p1 s1 h1 => ?_⟩
    obtain ⟨p1', xs, e, hX, hA⟩ := Dp.tupInv h1
    cases e
    have hl := DpAll.len hA
    rw [dStacks_len] at hl
    refine ⟨sz60 (by simp), fun z nz => ?_⟩
    have s2 : Same H1 (upd H1 z (.lst [.int 0])) := same_upd nz
    refine ⟨.ref p1, rfl, p1, xs, rfl, .inr (Same.tup s2 hX), z, _, _, rfl, rfl, upd_same, by omega, by omega, sz60 (by simp; omega), fun l nl => ?_⟩
    have s3 := same_upd (o := .lst (List.replicate ((xs.length : Int)).toNat [V.int 0]).flatten) nl
    have ec : (List.replicate ((xs.length : Int)).toNat [V.int 0]).flatten = vi (List.replicate t.size 0) := by
      rw [vi_rep, Int.toNat_natCast, hl, List.flatten_replicate_singleton]; rfl
    rw [ec] at s3 ⊢
    have hX3 := Same.tup (s2.trans s3) hX
    have hA3 := DpAll.same (s2.trans s3) hA
    have nl1 : H1 l = none := s2.free nl
    generalize hH3 : upd (upd H1 z (HO.lst [V.int 0])) l (HO.lst (vi (List.replicate t.size 0))) = H3 at s3 hX3 hA3 ⊢
    have hl3 : H3 l = some (.lst (vi (List.replicate t.size 0))) := by rw [← hH3]; exact upd_same
    have s13 : Same H1 H3 := s2.trans s3
    refine ⟨.ref p1, rfl, p1, rfl, ⟨_, hX3⟩, for_tup (K := K) (xs := xs) (fun i σ H' => ∃ y3 y4 y5 y6 c, σ = [some (.ref a), some (.ref p1), some (.ref l), y3, y4, y5, y6] ∧ Same H1 H' ∧ H' l = some (.lst (vi c)) ∧ c.length = t.size ∧ ∀ k, k < t.size → c[k]? = some ((pre t i).wr.getD k 0))
      ⟨none, none, none, none, List.replicate t.size 0, rfl, s13, hl3, by simp, fun k hk => by rw [List.getElem?_replicate, if_pos hk]; rfl⟩ (fun i σ H' _ ⟨_, _, _, _, _, _, h, _⟩ => Same.tup h hX) ?_ ?_⟩
    · rintro i x σ H4 hx ⟨y3, y4, y5, y6, c, rfl, s4, hc, hcl, hcv⟩
      have hi : i < t.size := by rw [← hl]; exact (List.getElem?_eq_some_iff.mp hx).1
      obtain ⟨m, hm⟩ : ∃ m, t.sch[i]? = some m := ⟨_, List.getElem?_eq_getElem (show i < t.sch.length by rw [T.sch_len]; exact hi)⟩
      obtain ⟨f1, f2⟩ := pre_succ hm
      have fs := T.start_le _ _ f2
      rw [pre_size (by omega)] at fs
      obtain ⟨v, g1, g2⟩ := DpAll.get (DpAll.same s4 hA) (dStacks_at hi)
      rw [hx] at g1
      cases g1
      obtain ⟨b, us, rfl, g3, g4⟩ := Dp.tupInv g2
      rw [stk_last hm, List.map_append] at g4
      obtain ⟨us', v', rfl, _, g5⟩ := DpAll.snoc g4
      obtain ⟨b', e5, g6⟩ := Dp.intsInv (ns := [((pre t i).start m : Int), ((i + 1 : Nat) : Int)]) g5
      cases e5
      refine ⟨.ref b, rfl, _, rfl, b, _, -1, _, rfl, rfl, g3, atI_last _ _, b', _, rfl, g6, rfl, _, _, rfl, _, [], rfl, rfl, ?_⟩
      refine ⟨_, rfl, _, rfl, _, _, rfl, ⟨by omega, by omega, by omega, by omega⟩, for_range (lo := ((pre t i).start m : Int)) (n := (((i + 1 : Nat) : Int) - ((pre t i).start m : Int)).toNat)
        (fun j σ H' => ∃ y6 c, σ = [some (.ref a), some (.ref p1), some (.ref l), some (.ref b), some (.int ((pre t i).start m : Int)), some (.int ((i + 1 : Nat) : Int)), y6] ∧ Same H1 H' ∧ H' l = some (.lst (vi c)) ∧ c.length = t.size ∧ ∀ k, k < t.size → c[k]? = some (if (pre t i).start m ≤ k ∧ k < (pre t i).start m + j then (pre t i).wr.getD k 0 + 1 else (pre t i).wr.getD k 0))
        ⟨y6, c, rfl, s4, hc, hcl, fun k hk => by rw [if_neg (by omega)]; exact hcv k hk⟩ ?_ ?_⟩
      · rintro j σ H5 hj ⟨y6, c, rfl, s5, hc, hcl, hcv⟩
        have hj2 : (pre t i).start m + j < t.size := by omega
        have e1 : ((pre t i).start m : Int) + (j : Int) = (((pre t i).start m + j : Nat) : Int) := by omega
        have h6 := hcv _ hj2
        rw [if_neg (by omega)] at h6
        rw [e1]
        refine ⟨.ref l, rfl, _, rfl, l, _, _, _, rfl, rfl, .inl (.inl hc), at_vi h6, _, _, rfl, rfl, l, _, _, _, rfl, rfl, hc, ixN_of (by rw [vi_len]; omega), ?_⟩
        have e2 : (((pre t i).wr.getD ((pre t i).start m + j) 0 : Nat) : Int) + 1 = (((pre t i).wr.getD ((pre t i).start m + j) 0 + 1 : Nat) : Int) := by omega
        refine ⟨_, c.set ((pre t i).start m + j) ((pre t i).wr.getD ((pre t i).start m + j) 0 + 1), rfl, Same.mut s5 nl1, ?_, by rw [List.length_set]; exact hcl, fun k hk => ?_⟩
        · rw [← vi_set, ← e2]; exact upd_same
        · by_cases hk2 : (pre t i).start m + j = k
          · rw [← hk2, List.getElem?_set_self (by omega), if_pos (by omega)]
          · rw [List.getElem?_set_ne hk2, hcv k hk]
            by_cases hk3 : (pre t i).start m ≤ k ∧ k < (pre t i).start m + j
            · rw [if_pos hk3, if_pos (by omega)]
            · rw [if_neg hk3, if_neg (by omega)]
      · rintro σ H5 ⟨y6, c, rfl, s5, hc, hcl, hcv⟩
        refine ⟨_, _, _, y6, c, rfl, s5, hc, hcl, fun k hk => ?_⟩
        rw [hcv k hk, f1, wr_step f2, pre_size (by omega)]
        by_cases hk3 : (pre t i).start m ≤ k ∧ k < i + 1
        · rw [if_pos (by omega), if_pos hk3]
        · rw [if_neg (by omega), if_neg hk3]
    · rintro σ H4 ⟨y3, y4, y5, y6, c, rfl, s4, hc, hcl, hcv⟩
      rw [hl, pre_all] at hcv
      have ecw : c = t.wr := list_by (by rw [hcl, T.wr_len]) fun k hk => hcv k (by omega)
      rw [ecw] at hc
      refine ⟨.ref l, rfl, l, _, rfl, .inl ⟨.inl (.inl hc), fun o no => ?_⟩⟩
      exact q _ o ((s1.trans s4).trans (same_upd no)) (.inl (.inl upd_same))
end
/-- the deal: a number not below 0, a seed, a count of at most n -/
def Deal (H : Hp) (a : Addr) (n : Int) : Prop := ∃ d s m : Int, H a = some (.lst [.int d, .int s, .int m]) ∧ 0 ≤ d ∧ 0 ≤ s ∧ s < 2 ^ 62 ∧ 0 ≤ m ∧ m ≤ n
theorem Deal.mono {H : Hp} {a : Addr} {n k : Int} (h : Deal H a n) (e : n ≤ k) : Deal H a k := by
  obtain ⟨d, s, m, h1, h2, h3, h4, h5, h6⟩ := h
  exact ⟨d, s, m, h1, h2, h3, h4, h5, by omega⟩
theorem Deal.same {H H' : Hp} {a : Addr} {n : Int} (h : Deal H a n) (e : Same H H') : Deal H' a n := by
  obtain ⟨d, s, m, h1, r⟩ := h
  exact ⟨d, s, m, e _ _ h1, r⟩
theorem Deal.ne {H : Hp} {a b : Addr} {n : Int} (h : Deal H a n) (e : H b = none) : b ≠ a := fun z => by
  obtain ⟨d, s, m, h1, r⟩ := h
  rw [z, h1] at e; cases e
theorem dl_nat {x : Int} {n : Nat} (h0 : 0 ≤ x) (h1 : x < ((2 ^ n : Nat) : Int)) : x.natAbs < 2 ^ n := by omega
theorem dl_bit (b : Bool) : (if b = true then (1 : Int) else 0).natAbs < 2 ^ 2 ∧ (0 : Int) ≤ (if b = true then (1 : Int) else 0) := by cases b <;> exact ⟨by decide, by decide⟩
theorem dl_prime {m : Int} (h0 : 0 ≤ m) : ∃ v : Int, atI [V.int 2147483647, V.int 2147483629, V.int 2147483587, V.int 2147483579, V.int 2147483563, V.int 2147483549, V.int 2147483543, V.int 2147483497] (m % 8) = some (.int v) ∧ 0 < v ∧ v < 2 ^ 31 := by
  have h : m % 8 = 0 ∨ m % 8 = 1 ∨ m % 8 = 2 ∨ m % 8 = 3 ∨ m % 8 = 4 ∨ m % 8 = 5 ∨ m % 8 = 6 ∨ m % 8 = 7 := by omega
  rcases h with h | h | h | h | h | h | h | h <;> rw [h] <;> exact ⟨_, rfl, by decide, by decide⟩
set_option exponentiation.threshold 2000
section
variable {P : Program} {w : World} {K : PySem.W.Frag} {mg : Str → Option Value} {base : Heap}
def sp_L_start_draws (K : PySem.W.Frag) : Sp := fun vs H Q _ => ∃ (a : Addr) (ns : List Int) (pl : Nat), vs = [.ref a, .int (pl : Int)] ∧ SqL K H a (ns.map V.int) ∧ pl ≤ 62 ∧ ∀ H' p, Same H H' → H p = none → Deal H' p 0 → Q (.ref p) H'
theorem ok_L_start_draws (TX : Tx K mg) : FnOk P w K mg base CX0 3 TX.a_L_start_draws TX.fd_L_start_draws ["_law_script", "_law_nth"] (sp_L_start_draws K) := by
  refine TX.f_L_start_draws.ok sc_L_start_draws (fun vs H Q E h => ?_) (fun cdv A outer s H vs Q E hr h => ?_)
  · obtain ⟨a, ns, pl, rfl, _⟩ := h; rfl
  · obtain ⟨a, ns, pl, rfl, hS, hpl, q⟩ := h
    refine ⟨_, (pss_cons (ps_set (i := 2) sc_L_start_draws.nd rfl (.inl rfl) (pe_ifExp (pt_cmpR op_lt (pv 1) (pe_callB (id := "len") (k_len (K := K) rfl) (by rfl) TX.b_len (by decide +kernel) (pa_cons (pv 0) pa_nil)) (nomark _)) (pe_ix (k_ixL (K := K) rfl) (pv 0) (pv 1) (fun _ _ => rfl)) pe_int))
      (pss_cons (ps_set (i := 3) sc_L_start_draws.nd rfl (.inl rfl) (pe_op op_mulW (pe_op op_mod (pe_callB (id := "abs") call_abs (by rfl) TX.b_abs (by decide +kernel) (pa_cons (pv 2) pa_nil)) (pe_op op_powW (pe_op op_powW pe_int pe_int) pe_int)) (pe_callTy (T := "int") call_int1 (by rfl) TX.b_int (by decide +kernel) (pa_cons (pe_cmpR op_ge (pe_callB (id := "abs") call_abs (by rfl) TX.b_abs (by decide +kernel) (pa_cons (pv 2) pa_nil)) (pe_op op_powW pe_int pe_int) (nomark _)) pa_nil))))
      (pss_one (ps_ret (pe_lst (pa_cons (pv 3) (pa_cons (pe_op op_add (pe_op op_add (pe_op op_mod (pv 2) pe_int) (pe_op op_mulW pe_int (pv 1))) pe_int) (pa_cons pe_int pa_nil)))))))), ?_⟩
    have P0 : (0 : Int) < (10 ^ (60 : Int).toNat) ^ (5 : Int).toNat := by decide +kernel
    have P1 : ((10 ^ (60 : Int).toNat) ^ (5 : Int).toNat : Int) < ((2 ^ 1000 : Nat) : Int) := by decide +kernel
    refine ⟨_, rfl, .ref a, rfl, a, _, rfl, .inl hS, _, _, rfl, rfl, _, rfl, ite2 (fun h => ?_) (fun h => ?_)⟩
    · have hlt : pl < ns.length := by
        have := of_decide_eq_true h
        rw [List.length_map] at this
        omega
      refine ⟨.ref a, rfl, _, rfl, a, _, _, .int ns[pl], rfl, rfl, hS, atI_nat (by rw [List.getElem?_map, List.getElem?_eq_getElem hlt]; rfl), ?_⟩
      have c0 := Int.emod_nonneg (ns[pl]) (show (2305843009213693951 : Int) ≠ 0 by decide)
      have c1 := Int.emod_lt_of_pos (ns[pl]) (show (0 : Int) < 2305843009213693951 by decide)
      refine ⟨_, rfl, _, rfl, _, _, rfl, rfl, ⟨by decide, by decide +kernel⟩, _, _, rfl, rfl, ⟨by decide, by decide +kernel⟩, _, _, rfl, rfl, P0, _, rfl, _, rfl, _, _, rfl, rfl, ⟨by decide, by decide +kernel⟩, _, _, rfl, rfl, .inr ⟨_, rfl, _, _, rfl, rfl, ?_, ?_⟩⟩
      · exact wide_mul (a := 1000) (b := 2) (dl_nat (Int.emod_nonneg _ (Int.ne_of_gt P0)) (Int.lt_trans (Int.emod_lt_of_pos _ P0) P1)) (dl_bit _).1 (by decide) (by decide) (by decide)
      · refine ⟨_, rfl, _, rfl, _, _, rfl, rfl, (show (0 : Int) < 2305843009213693951 by decide), _, rfl, _, _, rfl, rfl, wide_mul (a := 17) (b := 7) (by decide) (by omega) (by decide) (by decide) (by decide), _, _, rfl, rfl, _, _, rfl, rfl, sz60 (by simp), fun p np => q _ p (same_upd np) np ⟨_, _, _, upd_same, Int.mul_nonneg (Int.emod_nonneg _ (Int.ne_of_gt P0)) (dl_bit _).2, by omega, by omega, by decide, by decide⟩⟩
    · show tSeq _ _ _ _ _
      have c0 := Int.emod_nonneg (0) (show (2305843009213693951 : Int) ≠ 0 by decide)
      refine ⟨_, rfl, _, rfl, _, _, rfl, rfl, ⟨by decide, by decide +kernel⟩, _, _, rfl, rfl, ⟨by decide, by decide +kernel⟩, _, _, rfl, rfl, P0, _, rfl, _, rfl, _, _, rfl, rfl, ⟨by decide, by decide +kernel⟩, _, _, rfl, rfl, .inr ⟨_, rfl, _, _, rfl, rfl, ?_, ?_⟩⟩
      · exact wide_mul (a := 1000) (b := 2) (dl_nat (Int.emod_nonneg _ (Int.ne_of_gt P0)) (Int.lt_trans (Int.emod_lt_of_pos _ P0) P1)) (dl_bit _).1 (by decide) (by decide) (by decide)
      · refine ⟨_, rfl, _, rfl, _, _, rfl, rfl, (show (0 : Int) < 2305843009213693951 by decide), _, rfl, _, _, rfl, rfl, wide_mul (a := 17) (b := 7) (by decide) (by omega) (by decide) (by decide) (by decide), _, _, rfl, rfl, _, _, rfl, rfl, sz60 (by simp), fun p np => q _ p (same_upd np) np ⟨_, _, _, upd_same, Int.mul_nonneg (Int.emod_nonneg _ (Int.ne_of_gt P0)) (dl_bit _).2, by omega, by omega, by decide, by decide⟩⟩
def sp_L_next (K : PySem.W.Frag) : Sp := fun vs H Q _ => ∃ (a : Addr) (z n : Int), vs = [.ref a, .int z] ∧ Deal H a n ∧ n ≤ 100000 ∧ 1 ≤ z ∧ z ≤ 1000000 ∧ ∀ H' r, But a H H' → Deal H' a (n + 1) → 0 ≤ r → r < z → Q (.int r) H'
theorem ok_L_next (TX : Tx K mg) : FnOk P w K mg base CX0 1 TX.a_L_next TX.fd_L_next ["_law_deal", "_law_upto"] (sp_L_next K) := by
  refine TX.f_L_next.ok sc_L_next (fun vs H Q E h => ?_) (fun cdv A outer s H vs Q E hr h => ?_)
  · obtain ⟨a, z, n, rfl, _⟩ := h; rfl
  · obtain ⟨a, z, n, rfl, ⟨d, sd, m, hp, hd, hs0, hs1, hm0, hm1⟩, hn, hz1, hz2, q⟩ := h
    refine ⟨_, (pss_cons (ps_if (pt_cmpR op_gt (pe_ix (k_ixL (K := K) rfl) (pv 0) pe_int (fun _ _ => rfl)) pe_int (nomark _))
        (pss_cons (ps_set (i := 2) sc_L_next.nd rfl (.inl rfl) (pe_op op_mod (pe_ix (k_ixL (K := K) rfl) (pv 0) pe_int (fun _ _ => rfl)) (pv 1)))
        (pss_cons (ps_asg (pe_op op_fdivW (pe_ix (k_ixL (K := K) rfl) (pv 0) pe_int (fun _ _ => rfl)) (pv 1)) (pg_sub (pv 0) pe_int set_list))
        (pss_one (ps_ret (pv 2)))))
        pss_nil)
      (pss_cons (ps_asg (pe_op op_add (pe_ix (k_ixL (K := K) rfl) (pv 0) pe_int (fun _ _ => rfl)) pe_int) (pg_sub (pv 0) pe_int set_list))
      (pss_cons (ps_set (i := 3) sc_L_next.nd rfl (.inl rfl) (pe_lst (pa_cons pe_int (pa_cons pe_int (pa_cons pe_int (pa_cons pe_int (pa_cons pe_int (pa_cons pe_int (pa_cons pe_int (pa_cons pe_int pa_nil))))))))))
      (pss_cons (ps_set (i := 4) sc_L_next.nd rfl (.inl rfl) (pe_ix (k_ixL (K := K) rfl) (pv 3) (pe_op op_mod (pe_ix (k_ixL (K := K) rfl) (pv 0) pe_int (fun _ _ => rfl)) pe_int) (fun _ _ => rfl)))
      (pss_cons (ps_set (i := 5) sc_L_next.nd rfl (.inl rfl) (pe_op op_add (pe_op op_mod (pe_op op_mod (pe_op op_add (pe_ix (k_ixL (K := K) rfl) (pv 0) pe_int (fun _ _ => rfl)) (pe_op op_mulW (pe_op op_mulW pe_int (pe_ix (k_ixL (K := K) rfl) (pv 0) pe_int (fun _ _ => rfl))) (pe_ix (k_ixL (K := K) rfl) (pv 0) pe_int (fun _ _ => rfl)))) (pe_op op_pow (pv 4) pe_int)) (pv 4)) pe_int))
      (pss_one (ps_ret (pe_op op_mod (pe_op op_fdivW (pe_op op_mod (pe_op op_mulW (pv 5) (pe_op op_add (pe_op op_mod (pv 5) pe_int) (pe_ix (k_ixL (K := K) rfl) (pv 0) pe_int (fun _ _ => rfl)))) (pv 4)) pe_int) (pv 1))))))))), ?_⟩
    refine ⟨.ref a, rfl, a, _, _, .int d, rfl, rfl, .inl (.inl hp), rfl, _, _, rfl, rfl, _, rfl, ite2 (fun h => ?_) (fun h => ?_)⟩
    · refine ⟨.ref a, rfl, a, _, _, .int d, rfl, rfl, .inl (.inl hp), rfl, _, rfl, _, _, rfl, rfl, (show 0 < z by omega), ?_⟩
      refine ⟨.ref a, rfl, a, _, _, .int d, rfl, rfl, .inl (.inl hp), rfl, _, rfl, _, _, rfl, rfl, wide_div (b := 20) (by omega) (by omega) (by decide) (by decide), .ref a, rfl, a, _, 0, 0, rfl, rfl, hp, rfl, ?_⟩
      refine ⟨_, rfl, q _ _ But.upd ⟨d / z, sd, m, upd_same, Int.ediv_nonneg hd (by omega), hs0, hs1, hm0, by omega⟩ (Int.emod_nonneg _ (by omega)) (Int.emod_lt_of_pos _ (by omega))⟩
    · refine ⟨.ref a, rfl, a, _, _, .int m, rfl, rfl, .inl (.inl hp), rfl, _, _, rfl, rfl, .ref a, rfl, a, _, 2, 2, rfl, rfl, hp, rfl, ?_⟩
      have hp1 : (upd H a (.lst (List.set [V.int d, V.int sd, V.int m] 2 (V.int (m + 1))))) a = some (.lst [V.int d, V.int sd, V.int (m + 1)]) := upd_same
      have b1 : But a H (upd H a (.lst (List.set [V.int d, V.int sd, V.int m] 2 (V.int (m + 1))))) := But.upd
      generalize upd H a (.lst (List.set [V.int d, V.int sd, V.int m] 2 (V.int (m + 1)))) = H1 at hp1 b1 ⊢
      refine ⟨sz60 (by simp), fun pl npl => ?_⟩
      have s2 := same_upd (o := .lst [V.int 2147483647, V.int 2147483629, V.int 2147483587, V.int 2147483579, V.int 2147483563, V.int 2147483549, V.int 2147483543, V.int 2147483497]) npl
      have hp2 := s2 _ _ hp1
      obtain ⟨pr, hpr, pr0, pr1⟩ := dl_prime (m := m + 1) (by omega)
      refine ⟨_, rfl, .ref a, rfl, a, _, _, .int (m + 1), rfl, rfl, .inl (.inl hp2), rfl, _, _, rfl, rfl, (show (0 : Int) < 8 by decide), pl, _, _, .int pr, rfl, rfl, .inl (.inl upd_same), hpr, ?_⟩
      have k1 : (m + 1) * (m + 1) ≤ 100001 * 100001 := Int.mul_le_mul (by omega) (by omega) (by omega) (by omega)
      have k2 : (0 : Int) ≤ (m + 1) * (m + 1) := Int.mul_nonneg (by omega) (by omega)
      have p20 : (0 : Int) < pr ^ (2 : Int).toNat := Int.pow_pos pr0
      refine ⟨.ref a, rfl, a, _, _, .int sd, rfl, rfl, .inl (.inl hp2), rfl, .ref a, rfl, a, _, _, .int (m + 1), rfl, rfl, .inl (.inl hp2), rfl, _, _, rfl, rfl, wide_mul (a := 17) (b := 18) (by decide) (by omega) (by decide) (by decide) (by decide), .ref a, rfl, a, _, _, .int (m + 1), rfl, rfl, .inl (.inl hp2), rfl, _, _, rfl, rfl, wide_mul (a := 36) (b := 18) (by omega) (by omega) (by decide) (by decide) (by decide), _, _, rfl, rfl, _, rfl, _, _, rfl, rfl, ⟨by decide, by decide, by omega⟩, _, _, rfl, rfl, p20, _, rfl, _, _, rfl, rfl, pr0, _, _, rfl, rfl, ?_⟩
      generalize hmx : (sd + 69621 * (m + 1) * (m + 1)) % pr ^ (2 : Int).toNat % pr + 1 = mx
      have mx0 : 0 ≤ mx := by
        have := Int.emod_nonneg ((sd + 69621 * (m + 1) * (m + 1)) % pr ^ (2 : Int).toNat) (show pr ≠ 0 by omega)
        omega
      have mx1 : mx ≤ pr := by
        have := Int.emod_lt_of_pos ((sd + 69621 * (m + 1) * (m + 1)) % pr ^ (2 : Int).toNat) pr0
        omega
      refine ⟨_, rfl, _, rfl, _, _, rfl, rfl, (show (0 : Int) < 1009 by decide), .ref a, rfl, a, _, _, .int (m + 1), rfl, rfl, .inl (.inl hp2), rfl, _, _, rfl, rfl, _, _, rfl, rfl, wide_mul (a := 32) (b := 18) (by omega) (by omega) (by decide) (by decide) (by decide), _, rfl, _, _, rfl, rfl, pr0, _, _, rfl, rfl, wide_div (b := 3) (by decide) (by decide) (by decide) (by decide), _, rfl, _, _, rfl, rfl, (show 0 < z by omega), ?_⟩
      exact q _ _ (b1.trans (But.of s2)) ⟨d, sd, m + 1, hp2, hd, hs0, hs1, by omega, by omega⟩ (Int.emod_nonneg _ (by omega)) (Int.emod_lt_of_pos _ (by omega))
def sp_L_pick (K : PySem.W.Frag) : Sp := fun vs H Q _ => ∃ (a l : Addr) (xs : List V) (n : Int), vs = [.ref a, .ref l] ∧ Deal H a n ∧ n ≤ 100000 ∧ H l = some (.lst xs) ∧ l ≠ a ∧ xs ≠ [] ∧ xs.length ≤ 1000 ∧ ∀ H' v, But a H H' → Deal H' a (n + 1) → v ∈ xs → Q v H'
theorem ok_L_pick (TX : Tx K mg) : FnOk P w K mg base CX0 3 TX.a_L_pick TX.fd_L_pick ["_law_deal", "_law_some"] (sp_L_pick K) := by
  refine TX.f_L_pick.ok sc_L_pick (fun vs H Q E h => ?_) (fun cdv A outer s H vs Q E hr h => ?_)
  · obtain ⟨a, l, xs, n, rfl, _⟩ := h; rfl
  · obtain ⟨a, l, xs, n, rfl, hp, hn, hl, nla, hne, hlen, q⟩ := h
    refine ⟨_, (pss_one (ps_ret (pe_ix (k_ixL (K := K) rfl) (pv 1) (pe_call (ok_L_next TX) (hr.mono (by decide)) (by rfl) TX.g_L_next TX.f_L_next.kp TX.bd_L_next .nil pass0 (pa_cons (pv 0) (pa_cons (pe_callB (id := "len") (k_len (K := K) rfl) (by rfl) TX.b_len (by decide +kernel) (pa_cons (pv 1) pa_nil)) pa_nil))) (fun _ _ => rfl)))), ?_⟩
    have h0 : 0 < xs.length := List.length_pos_iff.mpr hne
    refine ⟨.ref l, rfl, .ref a, rfl, .ref l, rfl, l, _, rfl, .inl (.inl (.inl hl)), a, _, n, rfl, hp, hn, by omega, by omega, fun H' r b1 p1 r0 r1 => ?_⟩
    have er : r = ((r.toNat : Nat) : Int) := by omega
    have hr1 : r.toNat < xs.length := by omega
    have hat : atI xs r = some xs[r.toNat] := by
      have := atI_nat (List.getElem?_eq_getElem hr1)
      rwa [← er] at this
    exact ⟨l, xs, r, xs[r.toNat], rfl, rfl, .inl (.inl (b1 _ _ nla hl)), hat, q _ _ b1 p1 (List.getElem_mem ..)⟩
end
theorem Deal.keep {K : PySem.W.Frag} {H H' : Hp} {a : Addr} {n : Int} (h : Deal H a n) (e : But a H H') : Keep K H H' := by
  obtain ⟨d, s, m, h1, r⟩ := h
  exact But.keep e h1
theorem Deal.upd {H : Hp} {a l : Addr} {n : Int} {o : HO} (h : Deal H a n) (e : l ≠ a) : Deal (L2.upd H l o) a n := by
  obtain ⟨d, s, m, h1, r⟩ := h
  exact ⟨d, s, m, by rw [upd_ne e.symm]; exact h1, r⟩
theorem But.mut {a l : Addr} {H H' : Hp} {o : HO} (b : But a H H') (h : H l = none) : But a H (L2.upd H' l o) := fun c u n e => by
  rw [upd_ne (ne_of_none e h)]; exact b _ _ n e
/-- numbers drawn, each below z -/
theorem lc_drawn {lo : Int} {n j : Nat} {vs : List Nat} {σ : L2.St} {H1 : Hp} {D a : Addr} {Qd : Hp → Prop} {te : TE} {n0 : Int} {z : Nat} (hn : n ≤ 60) (hD : H1 D = none) (hp : Deal H1 a n0)
    (hw : ∀ x, wipe ((wipe σ vs).set j (some x)) vs = wipe σ vs)
    (ht : ∀ x H' m (R : V → Hp → Prop), m < n0 + n → But a H1 (H') → Deal H' a m → (∀ H'' (r : Nat), But a H' H'' → Deal H'' a (m + 1) → r < z → R (.int (r : Int)) H'') → te ((wipe σ vs).set j (some x)) H' R)
    (hd : ∀ H xs, But a H1 H → Deal H a (n0 + n) → H D = some (.lst (vi xs)) → xs.length = n → (∀ x, x ∈ xs → x < z) → Qd H) :
    ∃ W : Nat → Nat → Hp → Prop, (∃ m, W 0 m (upd H1 D (.lst []))) ∧ ∀ i m H, W i m H →
      ((Itr lo n).stop i H ∧ Qd H) ∨ ((Itr lo n).go i H ∧ ∃ Nx : Hp → Prop, (∀ H', Nx H' → ∃ m', m' < m ∧ W (i + 1) m' H') ∧ ∀ x H', (Itr lo n).yld i H x H' → gName j x (wipe σ vs) H' fun σ2 H2 => wipe σ2 vs = wipe σ vs ∧ tYes σ2 H2 fun b H3 =>
        if b = true then te σ2 H3 fun y H4 => ∃ acc, H4 D = some (.lst acc) ∧ acc.length < sizeLine ∧ Nx (upd H4 D (.lst (acc ++ [y]))) else Nx H3) := by
  have nDa : D ≠ a := hp.ne hD
  refine lc_it walk_range (fun i H => ∃ xs : List Nat, But a H1 H ∧ Deal H a (n0 + (i : Int)) ∧ H D = some (.lst (vi xs)) ∧ xs.length = i ∧ ∀ x, x ∈ xs → x < z)
    ⟨[], .of (same_upd hD), (hp.upd nDa).mono (by omega), upd_same, rfl, fun x h => nomatch h⟩ (fun _ _ _ _ => trivial) ?_ ?_
  · rintro i x H H' hi ⟨xs, b, p, hx, hl, hz⟩ ⟨rfl, rfl⟩
    refine ⟨hw _, ?_⟩
    simp only [tYes, if_true]
    refine ht _ _ _ _ (by omega) b p fun H2 r b2 p2 hr => ?_
    have hx2 := b2 _ _ nDa hx
    refine ⟨_, hx2, sz61 (by rw [vi_len]; omega), xs ++ [r], (b.trans b2).mut hD, (p2.upd nDa).mono (by omega), by rw [upd_same, vi_app]; rfl, by rw [List.length_append, hl]; rfl, fun y hy => ?_⟩
    rcases List.mem_append.mp hy with h | h
    · exact hz y h
    · rw [List.mem_singleton.mp h]; exact hr
  · rintro H ⟨xs, b, p, hx, hl, hz⟩
    exact hd H xs b p hx hl hz
/-- data whose repr is short -/
structure Sm (k n : Nat) (d : PyData) : Prop where
  dep : d.depth ≤ k
  shw : d.showable = true
  short : d.leavesShort 40 = true
  bulk : d.bulk ≤ n
  sok : PyData.strOk d.shown = true
theorem Sm.mono {k n k' n' : Nat} {d : PyData} (h : Sm k n d) (e : k ≤ k') (e' : n ≤ n') : Sm k' n' d := ⟨Nat.le_trans h.dep e, h.shw, h.short, Nat.le_trans h.bulk e', h.sok⟩
theorem Sm.t1 {k n : Nat} {d : PyData} (h : Sm k n d) : Sm (k + 1) (n + 4) (.tuple [d]) := by
  obtain ⟨a, b, c, e, zz⟩ := h
  refine ⟨?_, ?_, ?_, ?_, ?_⟩
  · simp [PyData.depth, PyData.depthAll]; omega
  · simp [PyData.showable, PyData.showableAll, b]
  · simp [PyData.leavesShort, PyData.leavesShortAll, c]
  · simp [PyData.bulk, PyData.bulkAll]; omega
  · exact SOk.tup fun y hy => by rw [List.mem_singleton.mp hy]; exact zz
theorem Sm.l1 {k n : Nat} {d : PyData} (h : Sm k n d) : Sm (k + 1) (n + 4) (.list [d]) := by
  obtain ⟨a, b, c, e, zz⟩ := h
  refine ⟨?_, ?_, ?_, ?_, ?_⟩
  · simp [PyData.depth, PyData.depthAll]; omega
  · simp [PyData.showable, PyData.showableAll, b]
  · simp [PyData.leavesShort, PyData.leavesShortAll, c]
  · simp [PyData.bulk, PyData.bulkAll]; omega
  · exact SOk.lst fun y hy => by rw [List.mem_singleton.mp hy]; exact zz
theorem Sm.d1 {k n : Nat} {d : PyData} (h : Sm k n d) : Sm (k + 1) (n + 4) (.dict [(.str "a", d)]) := by
  obtain ⟨a, b, c, e, zz⟩ := h
  have z : (Str.ofString "a").cps.size = 1 := by decide +kernel
  refine ⟨?_, ?_, ?_, ?_, ?_⟩
  · simp [PyData.depth, PyData.depthKv]; omega
  · simp [PyData.showable, PyData.showableKv, b]
  · simp only [PyData.leavesShort, PyData.leavesShortKv, c, Bool.and_true]
    decide +kernel
  · simp [PyData.bulk, PyData.bulkKv]; omega
  · exact SOk.dic1 (SOk.str (strOk_of "a")) zz
theorem But.free {a l : Addr} {H H' : Hp} (b : But a H H') (h : H' l = none) (n : l ≠ a) : H l = none := by
  cases e : H l with
  | none => rfl
  | some o => rw [b _ _ n e] at h; cases h
/-- what is new behind H -/
def nw (H G : Hp) : Hp := fun b => match H b with
  | none => G b
  | some _ => none
theorem nw_at {H G : Hp} {b : Addr} (h : H b = none) : nw H G b = G b := by unfold nw; rw [h]
theorem nw_old {H G : Hp} {b : Addr} {o : HO} (h : H b = some o) : nw H G b = none := by unfold nw; rw [h]
theorem nw_but {a : Addr} {H G G' : Hp} {o : HO} (ha : H a = some o) (b : But a G G') : Same (nw H G) (nw H G') := fun c u e => by
  cases h : H c with
  | some x => rw [nw_old h] at e; cases e
  | none =>
    rw [nw_at h] at e ⊢
    exact b _ _ (fun z => by rw [z, ha] at h; cases h) e
theorem nw_sub {H G : Hp} : Same (nw H G) G := fun c u e => by
  cases h : H c with
  | some x => rw [nw_old h] at e; cases e
  | none => rwa [nw_at h] at e
/-- what texts and numbers there are, where nothing is nested; what stands first in a tuple -/
def plB : PyData → Bool
  | .str z => z == Str.ofString "" || z == Str.ofString "a" || z == Str.ofString "1"
  | .int i => decide (i.natAbs ≤ 10 ^ 30)
  | .tuple (.str z :: ds) => (z == Str.ofString "" || z == Str.ofString "a" || z == Str.ofString "1" || z == Str.ofString "runs" || z == Str.ofString "manual") && decide (ds.length ≤ 1)
  | .tuple ds => decide (ds.length ≤ 1)
  | _ => true
theorem plB_t1 {d : PyData} (h : plB d = true) : plB (.tuple [d]) = true := by
  cases d with
  | str z =>
    have h2 : (z == Str.ofString "" || z == Str.ofString "a" || z == Str.ofString "1") = true := h
    show ((z == Str.ofString "" || z == Str.ofString "a" || z == Str.ofString "1" || z == Str.ofString "runs" || z == Str.ofString "manual") && decide (([] : List PyData).length ≤ 1)) = true
    rw [h2]; rfl
  | _ => rfl
section
variable {P : Program} {w : World} {K : PySem.W.Frag} {mg : Str → Option Value} {base : Heap}
def sp_L_odd (K : PySem.W.Frag) : Sp := fun vs H Q _ => ∃ (a : Addr) (n : Int) (o : HO), vs = [.ref a] ∧ Deal H a n ∧ n ≤ 90000 ∧ H sysModules = some o ∧ a ≠ sysModules ∧ ∀ H' x d, But a H H' → Deal H' a (n + 30) → Dq K (nw H H') x d → Sm 30 200 d → plB d = true → Q x H'
theorem ok_L_odd (TX : Tx K mg) : FnOk P w K mg base CX0 4 TX.a_L_odd TX.fd_L_odd ["_law_deal"] (sp_L_odd K) := by
  refine TX.f_L_odd.ok sc_L_odd (fun vs H Q E h => ?_) (fun cdv A outer s H vs Q E hr h => ?_)
  · obtain ⟨a, n, o, rfl, _⟩ := h; rfl
  · obtain ⟨a, n, o, rfl, hd, hn, hsys, nas, q⟩ := h
    refine ⟨_, (pss_cons (ps_set (i := 1) sc_L_odd.nd rfl (.inl rfl) (pe_lst (pa_cons pe_non (pa_cons pe_bl (pa_cons pe_bl (pa_cons pe_str (pa_cons pe_str (pa_cons pe_str (pa_cons (pe_tup pa_nil) (pa_cons (pe_lst pa_nil) (pa_cons pe_dnewK (pa_cons (pe_tup (pa_cons pe_int pa_nil)) (pa_cons (pe_lst (pa_cons pe_int pa_nil)) (pa_cons (pe_un un_neg pe_int) (pa_cons (pe_op op_powW pe_int pe_int) (pa_cons (pe_tup (pa_cons pe_str (pa_cons pe_int pa_nil))) (pa_cons (pe_tup (pa_cons pe_str pa_nil)) (pa_cons (pe_tup (pa_cons pe_str (pa_cons pe_int pa_nil))) pa_nil))))))))))))))))))
      (pss_cons (ps_set (i := 2) sc_L_odd.nd rfl (.inl rfl) (pe_call (ok_L_pick TX) (hr.mono (by decide)) (by rfl) TX.g_L_pick TX.f_L_pick.kp TX.bd_L_pick .nil pass0 (pa_cons (pv 0) (pa_cons (pv 1) pa_nil))))
      (pss_cons (ps_for PassesOwn.never rfl (pi_range1 (by rfl) TX.b_range (pa_cons (pe_ix (k_ixL (K := K) rfl) (pe_lst (pa_cons pe_int (pa_cons pe_int (pa_cons pe_int (pa_cons pe_int pa_nil))))) (pe_call (ok_L_next TX) (hr.mono (by decide)) (by rfl) TX.g_L_next TX.f_L_next.kp TX.bd_L_next .nil pass0 (pa_cons (pv 0) (pa_cons pe_int pa_nil))) (fun _ _ => rfl)) pa_nil)) (pg_name (i := 3) sc_L_odd.nd rfl (.inl rfl))
        (pss_one (ps_set (i := 2) sc_L_odd.nd rfl (.inl rfl) (pe_ix (k_ixL (K := K) rfl) (pe_lst (pa_cons (pe_tup (pa_cons (pv 2) pa_nil)) (pa_cons (pe_lst (pa_cons (pv 2) pa_nil)) (pa_cons (pe_disp (pps_cons pe_str (pv 2) pps_nil) (by rfl) (by rfl) (by simp) (by decide)) pa_nil)))) (pe_call (ok_L_next TX) (hr.mono (by decide)) (by rfl) TX.g_L_next TX.f_L_next.kp TX.bd_L_next .nil pass0 (pa_cons (pv 0) (pa_cons pe_int pa_nil))) (fun _ _ => rfl)))))
      (pss_one (ps_ret (pv 2)))))), ?_⟩
    refine ⟨sz60 (by simp), fun p1 n1 => ⟨sz60 (by simp), fun p2 n2 p3 n3 => ⟨sz60 (by simp), fun p4 n4 => ⟨sz60 (by simp), fun p5 n5 => ⟨1, rfl, _, _, rfl, rfl, ⟨by decide, by decide +kernel⟩, sz60 (by simp), fun p6 n6 => ⟨sz60 (by simp), fun p7 n7 => ⟨sz60 (by simp), fun p8 n8 => ⟨sz60 (by simp), fun l nl => ?_⟩⟩⟩⟩⟩⟩⟩⟩
    have s1 := same_upd (o := .tup []) n1
    have s2 := same_upd (o := .lst []) n2
    have s3 := same_upd (o := .dK []) n3
    have s4 := same_upd (o := .tup [V.int 0]) n4
    have s5 := same_upd (o := .lst [V.int 0]) n5
    have s6 := same_upd (o := .tup [V.str "a", V.int 1]) n6
    have s7 := same_upd (o := .tup [V.str "runs"]) n7
    have s8 := same_upd (o := .tup [V.str "manual", V.int 1]) n8
    have s9 := same_upd (o := .lst [V.non, V.bl true, V.bl false, V.str "", V.str "a", V.str "1", V.ref p1, V.ref p2, V.ref p3, V.ref p4, V.ref p5, V.int (-1), V.int (10 ^ (30 : Int).toNat), V.ref p6, V.ref p7, V.ref p8]) nl
    have t8 := s8.trans s9
    have t7 := s7.trans t8
    have t6 := s6.trans t7
    have t5 := s5.trans t6
    have t4 := s4.trans t5
    have t3 := s3.trans t4
    have t2 := s2.trans t3
    have sH := s1.trans t2
    have e1 := t2 _ _ (upd_same (H := H) (a := p1) (o := .tup []))
    have e2 := t3 _ _ (upd_same (a := p2) (o := .lst []))
    have e3 := t4 _ _ (upd_same (a := p3) (o := .dK []))
    have e4 := t5 _ _ (upd_same (a := p4) (o := .tup [V.int 0]))
    have e5 := t6 _ _ (upd_same (a := p5) (o := .lst [V.int 0]))
    have e6 := t7 _ _ (upd_same (a := p6) (o := .tup [V.str "a", V.int 1]))
    have e7 := t8 _ _ (upd_same (a := p7) (o := .tup [V.str "runs"]))
    have e8 := s9 _ _ (upd_same (a := p8) (o := .tup [V.str "manual", V.int 1]))
    have el := upd_same (H := upd (upd (upd (upd (upd (upd (upd (upd H p1 (.tup [])) p2 (.lst [])) p3 (.dK [])) p4 (.tup [V.int 0])) p5 (.lst [V.int 0])) p6 (.tup [V.str "a", V.int 1])) p7 (.tup [V.str "runs"])) p8 (.tup [V.str "manual", V.int 1])) (a := l) (o := .lst [V.non, V.bl true, V.bl false, V.str "", V.str "a", V.str "1", V.ref p1, V.ref p2, V.ref p3, V.ref p4, V.ref p5, V.int (-1), V.int (10 ^ (30 : Int).toNat), V.ref p6, V.ref p7, V.ref p8])
    have hda := hd
    obtain ⟨dd, ds, dm, hda', _⟩ := hda
    have fa : ∀ {b : Addr} {G : Hp}, Same H G → G b = none → b ≠ a := fun {b G} sg nb z => by rw [z, sg _ _ hda'] at nb; cases nb
    have fs : ∀ {b : Addr} {G : Hp}, Same H G → G b = none → b ≠ sysModules := fun {b G} sg nb z => by rw [z, sg _ _ hsys] at nb; cases nb
    have g1 : p1 ≠ a := fa (Same.refl H) n1
    have f1 : H p1 = none := n1
    have u2 := s1
    have g2 : p2 ≠ a := fa u2 n2
    have f2 : H p2 = none := u2.free n2
    have y2 : p2 ≠ sysModules := fs u2 n2
    have u3 := u2.trans s2
    have g3 : p3 ≠ a := fa u3 n3
    have f3 : H p3 = none := u3.free n3
    have u4 := u3.trans s3
    have g4 : p4 ≠ a := fa u4 n4
    have f4 : H p4 = none := u4.free n4
    have u5 := u4.trans s4
    have g5 : p5 ≠ a := fa u5 n5
    have f5 : H p5 = none := u5.free n5
    have y5 : p5 ≠ sysModules := fs u5 n5
    have u6 := u5.trans s5
    have g6 : p6 ≠ a := fa u6 n6
    have f6 : H p6 = none := u6.free n6
    have u7 := u6.trans s6
    have g7 : p7 ≠ a := fa u7 n7
    have f7 : H p7 = none := u7.free n7
    have u8 := u7.trans s7
    have g8 : p8 ≠ a := fa u8 n8
    have f8 : H p8 = none := u8.free n8
    have u9 := u8.trans s8
    have gl : l ≠ a := fa u9 nl
    generalize upd (upd (upd (upd (upd (upd (upd (upd (upd H p1 (.tup [])) p2 (.lst [])) p3 (.dK [])) p4 (.tup [V.int 0])) p5 (.lst [V.int 0])) p6 (.tup [V.str "a", V.int 1])) p7 (.tup [V.str "runs"])) p8 (.tup [V.str "manual", V.int 1])) l (.lst [V.non, V.bl true, V.bl false, V.str "", V.str "a", V.str "1", V.ref p1, V.ref p2, V.ref p3, V.ref p4, V.ref p5, V.int (-1), V.int (10 ^ (30 : Int).toNat), V.ref p6, V.ref p7, V.ref p8]) = H9 at sH e1 e2 e3 e4 e5 e6 e7 e8 el ⊢
    have hall : ∀ v, v ∈ [V.non, V.bl true, V.bl false, V.str "", V.str "a", V.str "1", V.ref p1, V.ref p2, V.ref p3, V.ref p4, V.ref p5, V.int (-1), V.int (10 ^ (30 : Int).toNat), V.ref p6, V.ref p7, V.ref p8] → ∃ d, Dq K (nw H H9) v d ∧ Sm 1 20 d ∧ plB d = true := by
      intro v hv
      simp only [List.mem_cons, List.not_mem_nil, or_false] at hv
      rcases hv with rfl | rfl | rfl | rfl | rfl | rfl | rfl | rfl | rfl | rfl | rfl | rfl | rfl | rfl | rfl | rfl
      · exact ⟨_, .nonq, by constructor <;> decide +kernel, by decide +kernel⟩
      · exact ⟨_, .blq _, by constructor <;> decide +kernel, by decide +kernel⟩
      · exact ⟨_, .blq _, by constructor <;> decide +kernel, by decide +kernel⟩
      · exact ⟨_, .strq _, by constructor <;> decide +kernel, by decide +kernel⟩
      · exact ⟨_, .strq _, by constructor <;> decide +kernel, by decide +kernel⟩
      · exact ⟨_, .strq _, by constructor <;> decide +kernel, by decide +kernel⟩
      · exact ⟨.tuple [], .tupq (.inl (.inl (by rw [nw_at f1]; exact e1))) .nil, by constructor <;> decide +kernel, by decide +kernel⟩
      · exact ⟨.list [], .lstq (.inl (.inl (by rw [nw_at f2]; exact e2))) y2 .nil, by constructor <;> decide +kernel, by decide +kernel⟩
      · exact ⟨.dict [], .dctq (kvs := []) (by rw [nw_at f3]; exact e3) rfl .nil, by constructor <;> decide +kernel, by decide +kernel⟩
      · exact ⟨.tuple [.int 0], .tupq (.inl (.inl (by rw [nw_at f4]; exact e4))) (.cons (.intq _) .nil), by constructor <;> decide +kernel, by decide +kernel⟩
      · exact ⟨.list [.int 0], .lstq (.inl (.inl (by rw [nw_at f5]; exact e5))) y5 (.cons (.intq _) .nil), by constructor <;> decide +kernel, by decide +kernel⟩
      · exact ⟨_, .intq _, by constructor <;> decide +kernel, by decide +kernel⟩
      · exact ⟨_, .intq _, by constructor <;> decide +kernel, by decide +kernel⟩
      · exact ⟨.tuple [.str "a", .int 1], .tupq (.inl (.inl (by rw [nw_at f6]; exact e6))) (.cons (.strq _) (.cons (.intq _) .nil)), by constructor <;> decide +kernel, by decide +kernel⟩
      · exact ⟨.tuple [.str "runs"], .tupq (.inl (.inl (by rw [nw_at f7]; exact e7))) (.cons (.strq _) .nil), by constructor <;> decide +kernel, by decide +kernel⟩
      · exact ⟨.tuple [.str "manual", .int 1], .tupq (.inl (.inl (by rw [nw_at f8]; exact e8))) (.cons (.strq _) (.cons (.intq _) .nil)), by constructor <;> decide +kernel, by decide +kernel⟩
    refine ⟨.ref a, rfl, .ref l, rfl, a, l, _, n, rfl, hd.same sH, by omega, el, gl, by simp, by simp, fun H10 v b10 d10 hv => ?_⟩
    obtain ⟨d0, hq0, hs0, hp0⟩ := hall v hv
    have b1 : But a H H10 := (But.of sH).trans b10
    have hq1 := Dq.same (nw_but hda' b10) hq0
    clear e1 e2 e3 e4 e5 e6 e7 e8 el s1 s2 s3 s4 s5 s6 s7 s8 s9 t2 t3 t4 t5 t6 t7 t8 u2 u3 u4 u5 u6 u7 u8 u9 hall hq0 hv
    refine ⟨sz60 (by simp), fun z nz => ⟨.ref a, rfl, a, 4, n + 1, rfl, d10.same (same_upd nz), by omega, by decide, by decide, fun H11 r b11 d11 r0 r1 => ?_⟩⟩
    have sz := same_upd (o := .lst [V.int 0, V.int 0, V.int 1, V.int 20]) nz
    have nza : z ≠ a := d10.ne nz
    obtain ⟨k, hk, hk2⟩ : ∃ k : Nat, atI [V.int 0, V.int 0, V.int 1, V.int 20] r = some (.int (k : Int)) ∧ k ≤ 20 := by
      have h : r = 0 ∨ r = 1 ∨ r = 2 ∨ r = 3 := by omega
      rcases h with rfl | rfl | rfl | rfl
      · exact ⟨0, rfl, by decide⟩
      · exact ⟨0, rfl, by decide⟩
      · exact ⟨1, rfl, by decide⟩
      · exact ⟨20, rfl, by decide⟩
    have b2 : But a H H11 := (b1.trans (But.of sz)).trans b11
    have hq2 := Dq.same (nw_but hda' ((But.of sz).trans b11)) hq1
    refine ⟨z, _, r, .int (k : Int), rfl, rfl, .inl (.inl (b11 _ _ nza upd_same)), hk, _, rfl, by omega, by omega, ?_⟩
    rw [show ((k : Int)).toNat = k by omega]
    refine for_range (lo := 0) (n := k) (fun i σ H' => ∃ x d y3, σ = [some (.ref a), some (.ref l), some x, y3] ∧ But a H H' ∧ Deal H' a (n + 2 + (i : Int)) ∧ Dq K (nw H H') x d ∧ Sm (1 + i) (20 + 4 * i) d ∧ plB d = true) ⟨v, d0, none, rfl, b2, d11.mono (by omega), hq2, hs0, hp0⟩ ?_ ?_
    · rintro i σ H1 hi ⟨x, d, y3, rfl, b3, d3, hq3, hs3, hp3⟩
      have hi' : i < k := hi
      have hsys1 : H1 sysModules = some o := b3 _ _ (Ne.symm nas) hsys
      refine ⟨x, rfl, sz60 (by simp), fun q1 m1 => ⟨x, rfl, sz60 (by simp), fun q2 m2 q3 m3 => ⟨x, rfl, upd_same, [(.inr "a", x)], rfl, by simp, ?_⟩⟩⟩
      rw [upd_upd]
      refine ⟨sz60 (by simp), fun q4 m4 => ?_⟩
      have w1 := same_upd (o := .tup [x]) m1
      have w2 := same_upd (o := .lst [x]) m2
      have w3 := same_upd (o := .dK [(.inr "a", x)]) m3
      have w4 := same_upd (o := .lst [V.ref q1, V.ref q2, V.ref q3]) m4
      have v3 := w3.trans w4
      have v2 := w2.trans v3
      have v1 := w1.trans v2
      have e1 := v2 _ _ (upd_same (a := q1) (o := .tup [x]))
      have e2 := v3 _ _ (upd_same (a := q2) (o := .lst [x]))
      have e3 := w4 _ _ (upd_same (a := q3) (o := .dK [(.inr "a", x)]))
      have g1 : q1 ≠ a := d3.ne m1
      have k1 : H q1 = none := b3.free m1 g1
      have g2 : q2 ≠ a := (d3.same w1).ne m2
      have k2 : H q2 = none := b3.free (w1.free m2) g2
      have y2 : q2 ≠ sysModules := fun z => by rw [z, w1 _ _ hsys1] at m2; cases m2
      have g3 : q3 ≠ a := (d3.same (w1.trans w2)).ne m3
      have k3 : H q3 = none := b3.free ((w1.trans w2).free m3) g3
      have g4 : q4 ≠ a := (d3.same ((w1.trans w2).trans w3)).ne m4
      refine ⟨.ref a, rfl, a, 3, _, rfl, d3.same v1, by omega, by decide, by decide, fun H5 r5 b5 d5 r50 r51 => ?_⟩
      have bb : But a H1 H5 := (But.of v1).trans b5
      have hx := Dq.same (nw_but hda' bb) hq3
      have hat : ∃ y d', atI [V.ref q1, V.ref q2, V.ref q3] r5 = some y ∧ Dq K (nw H H5) y d' ∧ Sm (1 + (i + 1)) (20 + 4 * (i + 1)) d' ∧ plB d' = true := by
        have h : r5 = 0 ∨ r5 = 1 ∨ r5 = 2 := by omega
        rcases h with rfl | rfl | rfl
        · exact ⟨_, .tuple [d], rfl, .tupq (.inl (.inl (by rw [nw_at k1]; exact b5 _ _ g1 e1))) (.cons hx .nil), hs3.t1, plB_t1 hp3⟩
        · exact ⟨_, .list [d], rfl, .lstq (.inl (.inl (by rw [nw_at k2]; exact b5 _ _ g2 e2))) y2 (.cons hx .nil), hs3.l1, rfl⟩
        · exact ⟨_, .dict [(.str "a", d)], rfl, .dctq (kvs := [(.inr "a", x)]) (by rw [nw_at k3]; exact b5 _ _ g3 e3) rfl (.cons hx .nil), hs3.d1, rfl⟩
      obtain ⟨y, d', hy, hyq, hys, hyp⟩ := hat
      refine ⟨q4, _, r5, y, rfl, rfl, .inl (.inl (b5 _ _ g4 upd_same)), hy, y, d', _, rfl, b3.trans bb, d5.mono ?_, hyq, hys, hyp⟩
      omega
    · rintro σ H1 ⟨x, d, y3, rfl, b3, d3, hq3, hs3, hp3⟩
      exact ⟨x, rfl, q _ x d b3 (d3.mono (by omega)) hq3 (hs3.mono (by omega) (by omega)) hp3⟩
end
def keyOkS (z : Str) : Bool := (decide (1 ≤ z.length) && decide (z.length ≤ 8)) && z.cps.toList.all fun c => (!decide ([c] < ("a" : Str).cps.toList)) && !decide (("z" : Str).cps.toList < [c])
theorem walk_str {z : Str} : Walk (Its z) z.cps.size (fun _ => True) (fun i H x H' => H' = H ∧ ∃ c, z.cps[i]? = some c ∧ x = .str ⟨#[c]⟩) :=
  ⟨fun _ _ h _ => h, fun _ _ => Nat.le_refl _, fun _ _ _ _ _ _ y => y⟩
theorem boolsI {K : PySem.W.Frag} {H : Hp} : ∀ {vs : List V} {bs : List Bool}, DpAll K H vs (bs.map PyData.bool) → vs = bs.map V.bl
  | _, [], .nil => rfl
  | _, _ :: _, .cons a b => by
    cases a
    rw [boolsI b]; rfl
theorem rep_all (n : Nat) : (List.replicate n true).all id = true := by simp
section
variable {P : Program} {w : World} {K : PySem.W.Frag} {mg : Str → Option Value} {base : Heap}
def sp_is_key (K : PySem.W.Frag) : Sp := fun vs H Q _ => ∃ z : Str, vs = [.str z] ∧ keyOkS z = true ∧ ∀ H', Same H H' → Q (.bl true) H'
theorem ok_is_key (TX : Tx K mg) : FnOk P w K mg base CX0 3 TX.a_is_key TX.fd_is_key ["value"] (sp_is_key K) := by
  refine TX.f_is_key.ok sc_is_key (fun vs H Q E h => ?_) (fun cdv A outer s H vs Q E hr h => ?_)
  · obtain ⟨z, rfl, _⟩ := h; rfl
  · obtain ⟨z, rfl, hk, q⟩ := h
    refine ⟨_, (pss_cons (ps_if (PW.pt (pw_or (pt_not (pt_val (pe_callB (id := "isinstance") (k_isi (K := K) rfl) (by rfl) TX.b_isinstance (by decide +kernel) (pa_cons (pv 0) (pa_cons (pe_bltn (v := .ty "str") (by rfl) TX.b_str (by decide +kernel) rfl) pa_nil))))) (pw_or1 (pt_not (pt_chain op_le op_le pe_int (pe_callB (id := "len") call_len_str (by rfl) TX.b_len (by decide +kernel) (pa_cons (pv 0) pa_nil)) (pe_glob (v := .int (8)) (by rfl) TX.c_MOST_LETTERS ⟨_, rfl⟩))))))
        (pss_one (ps_ret pe_bl))
        pss_nil)
      (pss_one (ps_ret (pe_callB (id := "all") (cr_all rfl) (by rfl) TX.b_all (by decide +kernel) (pa_cons (pe_lc (own := [("letter", 1)]) (by rfl) sc_is_key.nd (pi_str (pv 0)) (blkOk_by (own := [("letter", 1)]) (N := N_is_key) (sc := defScope s_is_key) (by decide +kernel)) (fun _ _ _ _ _ => (pg_name (i := 1) sc_is_key.nd rfl (Or.inl rfl))) (fun _ _ _ _ _ => pts_nil) (fun _ _ _ _ _ => (pe_chain op_le_str op_le_str pe_str (pv 1) pe_str))) pa_nil))))), ?_⟩
    unfold keyOkS at hk
    simp only [Bool.and_eq_true, decide_eq_true_eq] at hk
    obtain ⟨⟨h1, h2⟩, h3⟩ := hk
    have h4 : z.cps.size = z.length := rfl
    refine ⟨.str z, rfl, .str z, .ty "str", .type "str", .type "str", true, rfl, .ty _, .base (.str z), kit_ty (by decide +kernel), true, rfl, iteF ?_⟩
    refine ⟨.str z, rfl, z, rfl, Nat.le_trans h2 (by decide), 1, _, rfl, rfl, _, rfl, decT (by omega) ⟨_, _, rfl, rfl, _, rfl, ?_⟩⟩
    refine iteB0 (by rw [decide_eq_true (by omega)]; rfl) ?_
    refine ⟨.str z, rfl, z, rfl, fun D nD => ?_⟩
    refine lc_all (K := K) walk_str ((List.replicate z.length true).map PyData.bool) (by simp [h4]) (fun d h => by obtain ⟨b, _, rfl⟩ := List.mem_map.mp h; exact .bl b) (by omega) nD (fun _ _ => trivial) ?_ ?_ (fun x σ' H' Q Q' h => h _ _) (fun σ' H' Q Q' h => h _ _)
    · rintro i x Hx Hx' hi sx ⟨rfl, c, hc, rfl⟩ d hd R hR
      have hmem : c ∈ z.cps.toList := by
        rw [Array.mem_toList_iff]
        exact Array.mem_of_getElem? hc
      have h5 := List.all_eq_true.mp h3 c hmem
      simp only [Bool.and_eq_true] at h5
      have hd2 : d = .bool true := by
        rw [List.getElem?_map, List.getElem?_replicate, if_pos (by omega)] at hd
        exact (Option.some.inj hd).symm
      subst hd2
      refine ⟨rfl, rfl, _, rfl, _, _, rfl, rfl, _, rfl, iteB1 h5.1 ⟨_, _, rfl, rfl, ?_⟩⟩
      have e2 : (!decide (("z" : Str).cps.toList < (⟨#[c]⟩ : Str).cps.toList)) = true := h5.2
      rw [e2]
      exact hR _ _ (Same.refl _) (.bl true)
    intro H2 acc s2 ha hAcc
    rw [boolsI hAcc] at ha
    refine ⟨D, List.replicate z.length true, rfl, .inl (.inl ha), ?_⟩
    rw [rep_all]
    exact q _ s2
def sp_check_key (K : PySem.W.Frag) : Sp := fun vs H Q _ => ∃ z : Str, vs = [.str z] ∧ keyOkS z = true ∧ ∀ H', Same H H' → Q .non H'
theorem ok_check_key (TX : Tx K mg) : FnOk P w K mg base CX0 4 TX.a_check_key TX.fd_check_key ["key"] (sp_check_key K) := by
  refine TX.f_check_key.ok sc_check_key (fun vs H Q E h => ?_) (fun cdv A outer s H vs Q E hr h => ?_)
  · obtain ⟨z, rfl, _⟩ := h; rfl
  · obtain ⟨z, rfl, hk, q⟩ := h
    refine ⟨_, (pss_one (ps_if (pt_not (pt_val (pe_call (ok_is_key TX) (hr.mono (by decide)) (by rfl) TX.g_is_key TX.f_is_key.kp TX.bd_is_key .nil pass0 (pa_cons (pv 0) pa_nil))))
        (pss_one ps_never)
        pss_nil)), ?_⟩
    exact ⟨.str z, rfl, z, rfl, hk, fun H' s' => ⟨true, rfl, iteF (q _ s')⟩⟩
theorem pol_kd (TX : Tx K mg) [h : WP w TX] {nm : Str} {ks : List Int} (hp : PolN nm ks) : ∃ r, PySem.W.nsIn K TX.d_POLICIES nm = some r ∧ r.isSome = true ∧ KDct K w TX.d_POLICIES nm (.int (ks.length : Int)) := by
  obtain ⟨hp, _⟩ := hp
  rcases hp with ⟨rfl, e⟩ | ⟨rfl, e⟩ | ⟨rfl, e⟩
  · obtain ⟨t, ht⟩ := TX.ke_POLICIES_manual
    refine ⟨_, ht, rfl, ?_⟩
    rw [e]; exact kv_POLICIES_manual TX
  · obtain ⟨t, ht⟩ := TX.ke_POLICIES_runs
    refine ⟨_, ht, rfl, ?_⟩
    rw [e]; exact kv_POLICIES_runs TX
  · obtain ⟨t, ht⟩ := TX.ke_POLICIES_budget
    refine ⟨_, ht, rfl, ?_⟩
    rw [e]; exact kv_POLICIES_budget TX
def sp_is_policy (K : PySem.W.Frag) : Sp := fun vs H Q _ => ∃ (a : Addr) (nm : Str) (ks : List Int), vs = [.ref a] ∧ SqT K H a (polV nm ks) ∧ PolN nm ks ∧ ∀ H', Same H H' → Q (.bl true) H'
theorem ok_is_policy (TX : Tx K mg) [WP w TX] : FnOk P w K mg base CX0 4 TX.a_is_policy TX.fd_is_policy ["value"] (sp_is_policy K) := by
  refine TX.f_is_policy.ok sc_is_policy (fun vs H Q E h => ?_) (fun cdv A outer s H vs Q E hr h => ?_)
  · obtain ⟨a, nm, ks, rfl, _⟩ := h; rfl
  · obtain ⟨a, nm, ks, rfl, hS, hp, q⟩ := h
    refine ⟨_, (pss_cons (ps_if (PW.pt (pw_or (pt_not (pt_val (pe_callB (id := "isinstance") (k_isi (K := K) rfl) (by rfl) TX.b_isinstance (by decide +kernel) (pa_cons (pv 0) (pa_cons (pe_bltn (v := .ty "tuple") (by rfl) TX.b_tuple (by decide +kernel) rfl) pa_nil))))) (pw_or (pt_cmpR op_eq (pe_callB (id := "len") (k_len (K := K) rfl) (by rfl) TX.b_len (by decide +kernel) (pa_cons (pv 0) pa_nil)) pe_int (nomark _)) (pw_or1 (pt_not (pt_val (pe_callB (id := "isinstance") (k_isi (K := K) rfl) (by rfl) TX.b_isinstance (by decide +kernel) (pa_cons (pe_ix (k_ixT (K := K) rfl) (pv 0) pe_int (fun _ _ => rfl)) (pa_cons (pe_bltn (v := .ty "str") (by rfl) TX.b_str (by decide +kernel) rfl) pa_nil)))))))))
        (pss_one (ps_ret pe_bl))
        pss_nil)
      (pss_cons (ps_if (PW.pt (pw_or (pt_cmpR (op_notIn_kd (kd_POLICIES (w := w) TX)) (pe_ix (k_ixT (K := K) rfl) (pv 0) pe_int (fun _ _ => rfl)) (pe_glob (v := .ref TX.d_POLICIES) (by rfl) TX.gd_POLICIES rfl) (by rfl)) (pw_or1 (pt_cmpR op_ne (pe_callB (id := "len") (k_len (K := K) rfl) (by rfl) TX.b_len (by decide +kernel) (pa_cons (pv 0) pa_nil)) (pe_op op_add pe_int (pe_ix ix_kdict (pe_glob (v := .ref TX.d_POLICIES) (by rfl) TX.gd_POLICIES rfl) (pe_ix (k_ixT (K := K) rfl) (pv 0) pe_int (fun _ _ => rfl)) (fun _ _ => rfl))) (nomark _)))))
        (pss_one (ps_ret pe_bl))
        pss_nil)
      (pss_one (ps_ret (pe_callB (id := "all") (cr_all rfl) (by rfl) TX.b_all (by decide +kernel) (pa_cons (pe_lc (own := [("budget", 1)]) (by rfl) sc_is_policy.nd (k_piT (K := K) rfl (pe_slice (k_slT (K := K) rfl) (pv 0) (po_some pe_int) po_none)) (blkOk_by (own := [("budget", 1)]) (N := N_is_policy) (sc := defScope s_is_policy) (by decide +kernel)) (fun _ _ _ _ _ => (pg_name (i := 1) sc_is_policy.nd rfl (Or.inl rfl))) (fun _ _ _ _ _ => pts_nil) (fun _ _ _ _ _ => (pe_and (pe_call (ok_is_count_up_to TX) (hr.mono (by decide)) (by rfl) TX.g_is_count_up_to TX.f_is_count_up_to.kp TX.bd_is_count_up_to .nil pass0 (pa_cons (pv 1) (pa_cons (pe_glob (v := .int (60)) (by rfl) TX.c_MOST_BUDGET ⟨_, rfl⟩) pa_nil))) (pe_one (pe_cmpR op_gt (pv 1) pe_int (nomark _)))))) pa_nil)))))), ?_⟩
    obtain ⟨r, hr1, hr2, hr3⟩ := pol_kd (w := w) TX hp
    have hl : (polV nm ks).length = ks.length + 1 := by simp [polV]
    have h0 : atI (polV nm ks) 0 = some (.str nm) := atI_nat (j := 0) rfl
    have hk2 : ks.length ≤ 2 := by rcases hp.1 with ⟨_, e⟩ | ⟨_, e⟩ | ⟨_, e⟩ <;> omega
    refine ⟨.ref a, rfl, .ref a, .ty "tuple", .type "tuple", .type "tuple", true, rfl, .ty _, ty_tup hS, kit_ty (by decide +kernel), true, rfl, iteF ?_⟩
    refine ⟨.ref a, rfl, a, _, rfl, .inr hS, rfl, _, rfl, decF (fun z => by have := V.int.inj z; rw [hl] at this; omega) ?_⟩
    refine ⟨.ref a, rfl, a, _, 0, _, rfl, rfl, hS, h0, .str nm, .ty "str", .type "str", .type "str", true, rfl, .ty _, .base (.str nm), kit_ty (by decide +kernel), true, rfl, iteF ?_⟩
    refine ⟨.ref a, rfl, a, _, 0, _, rfl, rfl, hS, h0, nm, r, rfl, rfl, hr1, _, rfl, iteB0 (by rw [hr2]; rfl) ?_⟩
    refine ⟨.ref a, rfl, a, _, rfl, .inr hS, .ref a, rfl, a, _, 0, _, rfl, rfl, hS, h0, TX.d_POLICIES, nm, .int (ks.length : Int), rfl, rfl, hr3, _, _, rfl, rfl, rfl, _, rfl, ?_⟩
    have e1 : V.int ((polV nm ks).length : Int) = V.int (1 + (ks.length : Int)) := by rw [hl]; congr 1; omega
    refine iteB0 (by rw [decide_eq_true e1]; rfl) ?_
    refine ⟨.ref a, rfl, _, rfl, ?_⟩
    dsimp only [tNoPart]
    refine sl_read hS fun c H1 s1 hc => ?_
    have ec : cutV (polV nm ks) (some 1) none = ks.map V.int := by
      have := cut_from (xs := polV nm ks) (k := 1) (by rw [hl]; omega)
      rw [show (some (1 : Int) : Option Int) = some ((1 : Nat) : Int) from rfl, this]
      rfl
    rw [ec] at hc
    refine ⟨c, rfl, ⟨_, hc⟩, fun D nD => ?_⟩
    refine lc_all (K := K) walk_tup ((List.replicate ks.length true).map PyData.bool) (by simp) (fun d h => by obtain ⟨b, _, rfl⟩ := List.mem_map.mp h; exact .bl b) (by simp; omega) nD (fun H' s' => Same.tup s' hc) ?_ ?_ (fun x σ' H' Q Q' h => h _ _) (fun σ' H' Q Q' h => h _ _)
    · rintro i x Hx Hx' hi sx ⟨rfl, hx⟩ d hd R hR
      rw [List.getElem?_map] at hx
      cases hk : ks[i]? with
      | none => rw [hk] at hx; cases hx
      | some v =>
        rw [hk] at hx
        cases hx
        have hb := hp.2 v (List.mem_of_getElem? hk)
        have hd2 : d = .bool true := by
          rw [List.getElem?_map, List.getElem?_replicate, if_pos (by rw [List.length_map] at hi; exact hi)] at hd
          exact (Option.some.inj hd).symm
        subst hd2
        refine ⟨rfl, rfl, _, rfl, v, 60, rfl, true, ?_⟩
        refine ⟨by rw [decide_eq_true (show 0 ≤ v by omega), decide_eq_true hb.2]; rfl, iteT ⟨_, rfl, _, _, rfl, rfl, ?_⟩⟩
        have e0 : decide ((0 : Int) < v) = true := decide_eq_true (by omega)
        show R (V.bl (decide ((0 : Int) < v))) Hx'
        rw [e0]
        exact hR _ _ (Same.refl _) (.bl true)
    intro H2 acc s2 ha hAcc
    rw [boolsI hAcc] at ha
    refine ⟨D, List.replicate ks.length true, rfl, .inl (.inl ha), ?_⟩
    rw [rep_all]
    exact q _ (s1.trans s2)
end
/-- no int, or a bool -/
def NotJ (K : PySem.W.Frag) (H : Hp) (x : V) : Prop := ∃ T b1 b2, TyX K H x (.type T) ∧ L2.kitB T "int" = some b1 ∧ L2.kitB T "bool" = some b2 ∧ (b1 && !b2) = false
theorem tyx_same {K : PySem.W.Frag} {H H' : Hp} (s : Same H H') {x : V} {t : Value} (h : TyX K H x t) : TyX K H' x t := by
  cases h with
  | base h =>
    cases h with
    | non => exact .base .non
    | bl x => exact .base (.bl x)
    | int i => exact .base (.int i)
    | str x => exact .base (.str x)
    | flt x => exact .base (.flt x)
    | lst e => exact .base (.lst (s _ _ e))
    | frz e => exact .base (.frz (s _ _ e))
    | tup e => exact .base (.tup (s _ _ e))
    | dK e => exact .base (.dK (s _ _ e))
    | dT e => exact .base (.dT (s _ _ e))
    | ins e c1 c2 c3 c4 c5 => exact .base (.ins (s _ _ e) c1 c2 c3 c4 c5)
  | byt b => exact .byt b
  | set e => exact .set (s _ _ e)
  | kList e c => exact .kList e c
  | kTuple e c => exact .kTuple e c
  | kDict e c => exact .kDict e c
  | fTuple e => exact .fTuple (s _ _ e)
  | fDict e => exact .fDict (s _ _ e)
section
variable {P : Program} {w : World} {K : PySem.W.Frag} {mg : Str → Option Value} {base : Heap}
def sp_is_intX (K : PySem.W.Frag) : Sp := fun vs H Q _ => ∃ x T b1 b2, vs = [x] ∧ TyX K H x (.type T) ∧ L2.kitB T "int" = some b1 ∧ L2.kitB T "bool" = some b2 ∧ Q (.bl (b1 && !b2)) H
theorem ok_is_intX (TX : Tx K mg) : FnOk P w K mg base CX0 1 TX.a_is_int TX.fd_is_int ["value"] (sp_is_intX K) := by
  refine TX.f_is_int.ok sc_is_int (fun vs H Q E h => ?_) (fun cdv A outer s H vs Q E hr h => ?_)
  · obtain ⟨x, T, b1, b2, rfl, _⟩ := h; rfl
  · obtain ⟨x, T, b1, b2, rfl, hT, h1, h2, q⟩ := h
    refine ⟨_, (pss_one (ps_ret (pe_and (pe_callB (id := "isinstance") (k_isi (K := K) rfl) (by rfl) TX.b_isinstance (by decide +kernel) (pa_cons (pv 0) (pa_cons (pe_bltn (v := .ty "int") (by rfl) TX.b_int (by decide +kernel) rfl) pa_nil))) (pe_one (pe_not (pe_callB (id := "isinstance") (k_isi (K := K) rfl) (by rfl) TX.b_isinstance (by decide +kernel) (pa_cons (pv 0) (pa_cons (pe_bltn (v := .ty "bool") (by rfl) TX.b_bool (by decide +kernel) rfl) pa_nil)))))))), ?_⟩
    refine ⟨x, rfl, x, .ty "int", .type T, .type "int", b1, rfl, .ty _, hT, kit_ty h1, b1, rfl, ?_⟩
    cases b1 with
    | false => exact iteF q
    | true => exact iteT ⟨x, rfl, x, .ty "bool", .type T, .type "bool", b2, rfl, .ty _, hT, kit_ty h2, b2, rfl, q⟩
def sp_is_countX (K : PySem.W.Frag) : Sp := fun vs H Q _ => ∃ x, vs = [x] ∧ ((∃ i, x = .int i ∧ Q (.bl (decide (0 ≤ i))) H) ∨ (NotJ K H x ∧ Q (.bl false) H))
theorem ok_is_countX (TX : Tx K mg) : FnOk P w K mg base CX0 2 TX.a_is_count TX.fd_is_count ["value"] (sp_is_countX K) := by
  refine TX.f_is_count.ok sc_is_count (fun vs H Q E h => ?_) (fun cdv A outer s H vs Q E hr h => ?_)
  · obtain ⟨x, rfl, _⟩ := h; rfl
  · obtain ⟨x, rfl, hx⟩ := h
    refine ⟨_, (pss_one (ps_ret (pe_and (pe_call (ok_is_intX TX) (hr.mono (by decide)) (by rfl) TX.g_is_int TX.f_is_int.kp TX.bd_is_int .nil pass0 (pa_cons (pv 0) pa_nil)) (pe_one (pe_cmpR op_ge (pv 0) pe_int (nomark _)))))), ?_⟩
    rcases hx with ⟨i, rfl, q⟩ | ⟨⟨T, b1, b2, hT, h1, h2, hb⟩, q⟩
    · exact ⟨_, rfl, .int i, "int", true, false, rfl, .base (.int i), by decide +kernel, by decide +kernel, true, rfl, iteT ⟨_, rfl, _, _, rfl, rfl, q⟩⟩
    · refine ⟨_, rfl, x, T, b1, b2, rfl, hT, h1, h2, ?_⟩
      rw [hb]
      exact ⟨false, rfl, iteF q⟩
def sp_is_count_up_toX (K : PySem.W.Frag) : Sp := fun vs H Q _ => ∃ x m, vs = [x, .int m] ∧ ((∃ i, x = .int i ∧ Q (.bl (decide (0 ≤ i) && decide (i ≤ m))) H) ∨ (NotJ K H x ∧ Q (.bl false) H))
theorem ok_is_count_up_toX (TX : Tx K mg) : FnOk P w K mg base CX0 3 TX.a_is_count_up_to TX.fd_is_count_up_to ["value", "most"] (sp_is_count_up_toX K) := by
  refine TX.f_is_count_up_to.ok sc_is_count_up_to (fun vs H Q E h => ?_) (fun cdv A outer s H vs Q E hr h => ?_)
  · obtain ⟨x, m, rfl, _⟩ := h; rfl
  · obtain ⟨x, m, rfl, hx⟩ := h
    refine ⟨_, (pss_one (ps_ret (pe_and (pe_call (ok_is_countX TX) (hr.mono (by decide)) (by rfl) TX.g_is_count TX.f_is_count.kp TX.bd_is_count .nil pass0 (pa_cons (pv 0) pa_nil)) (pe_one (pe_cmpR op_le (pv 0) (pv 1) (nomark _)))))), ?_⟩
    rcases hx with ⟨i, rfl, q⟩ | ⟨hN, q⟩
    · refine ⟨_, rfl, _, rfl, .inl ⟨i, rfl, _, rfl, ?_⟩⟩
      by_cases h0 : 0 ≤ i
      · rw [decide_eq_true h0] at q ⊢
        exact iteT ⟨_, rfl, _, rfl, _, _, rfl, rfl, q⟩
      · rw [decide_eq_false h0] at q ⊢
        exact iteF q
    · exact ⟨_, rfl, _, rfl, .inr ⟨hN, _, rfl, iteF q⟩⟩
theorem ok_init_InvalidSchedule (TX : Tx K mg) : FnOk P w K mg base CX0 1 TX.fi_InvalidSchedule TX.fdi_InvalidSchedule ["self", "value"] (sp_init K TX.c_InvalidSchedule "value") := by
  refine TX.ui_InvalidSchedule.ok sc_init_InvalidSchedule (fun vs H Q E h => ?_) (fun cdv A outer s H vs Q E hr h => ?_)
  · obtain ⟨a, y, rfl, _⟩ := h; rfl
  · obtain ⟨a, y, rfl, ha, q⟩ := h
    exact ⟨_, (pss_one (ps_ost (pv 0) (pv 1))), y, rfl, .ref a, rfl, a, TX.c_InvalidSchedule, rfl, TX.ox_InvalidSchedule, TX.no_InvalidSchedule, .inl ⟨ha, fun dx n ne => q dx n ne⟩⟩
theorem ok_init_InvalidCount (TX : Tx K mg) : FnOk P w K mg base CX0 1 TX.fi_InvalidCount TX.fdi_InvalidCount ["self", "value"] (sp_init K TX.c_InvalidCount "value") := by
  refine TX.ui_InvalidCount.ok sc_init_InvalidCount (fun vs H Q E h => ?_) (fun cdv A outer s H vs Q E hr h => ?_)
  · obtain ⟨a, y, rfl, _⟩ := h; rfl
  · obtain ⟨a, y, rfl, ha, q⟩ := h
    exact ⟨_, (pss_one (ps_ost (pv 0) (pv 1))), y, rfl, .ref a, rfl, a, TX.c_InvalidCount, rfl, TX.ox_InvalidCount, TX.no_InvalidCount, .inl ⟨ha, fun dx n ne => q dx n ne⟩⟩
theorem ok_init_InvalidBudget (TX : Tx K mg) : FnOk P w K mg base CX0 1 TX.fi_InvalidBudget TX.fdi_InvalidBudget ["self", "value"] (sp_init K TX.c_InvalidBudget "value") := by
  refine TX.ui_InvalidBudget.ok sc_init_InvalidBudget (fun vs H Q E h => ?_) (fun cdv A outer s H vs Q E hr h => ?_)
  · obtain ⟨a, y, rfl, _⟩ := h; rfl
  · obtain ⟨a, y, rfl, ha, q⟩ := h
    exact ⟨_, (pss_one (ps_ost (pv 0) (pv 1))), y, rfl, .ref a, rfl, a, TX.c_InvalidBudget, rfl, TX.ox_InvalidBudget, TX.no_InvalidBudget, .inl ⟨ha, fun dx n ne => q dx n ne⟩⟩
theorem ok_init_InvalidSizes (TX : Tx K mg) : FnOk P w K mg base CX0 1 TX.fi_InvalidSizes TX.fdi_InvalidSizes ["self", "value"] (sp_init K TX.c_InvalidSizes "value") := by
  refine TX.ui_InvalidSizes.ok sc_init_InvalidSizes (fun vs H Q E h => ?_) (fun cdv A outer s H vs Q E hr h => ?_)
  · obtain ⟨a, y, rfl, _⟩ := h; rfl
  · obtain ⟨a, y, rfl, ha, q⟩ := h
    exact ⟨_, (pss_one (ps_ost (pv 0) (pv 1))), y, rfl, .ref a, rfl, a, TX.c_InvalidSizes, rfl, TX.ox_InvalidSizes, TX.no_InvalidSizes, .inl ⟨ha, fun dx n ne => q dx n ne⟩⟩
theorem ok_init_InvalidReads (TX : Tx K mg) : FnOk P w K mg base CX0 1 TX.fi_InvalidReads TX.fdi_InvalidReads ["self", "value"] (sp_init K TX.c_InvalidReads "value") := by
  refine TX.ui_InvalidReads.ok sc_init_InvalidReads (fun vs H Q E h => ?_) (fun cdv A outer s H vs Q E hr h => ?_)
  · obtain ⟨a, y, rfl, _⟩ := h; rfl
  · obtain ⟨a, y, rfl, ha, q⟩ := h
    exact ⟨_, (pss_one (ps_ost (pv 0) (pv 1))), y, rfl, .ref a, rfl, a, TX.c_InvalidReads, rfl, TX.ox_InvalidReads, TX.no_InvalidReads, .inl ⟨ha, fun dx n ne => q dx n ne⟩⟩
theorem ok_init_InvalidState (TX : Tx K mg) : FnOk P w K mg base CX0 1 TX.fi_InvalidState TX.fdi_InvalidState ["self", "value"] (sp_init K TX.c_InvalidState "value") := by
  refine TX.ui_InvalidState.ok sc_init_InvalidState (fun vs H Q E h => ?_) (fun cdv A outer s H vs Q E hr h => ?_)
  · obtain ⟨a, y, rfl, _⟩ := h; rfl
  · obtain ⟨a, y, rfl, ha, q⟩ := h
    exact ⟨_, (pss_one (ps_ost (pv 0) (pv 1))), y, rfl, .ref a, rfl, a, TX.c_InvalidState, rfl, TX.ox_InvalidState, TX.no_InvalidState, .inl ⟨ha, fun dx n ne => q dx n ne⟩⟩
theorem ok_init_InvalidMerge (TX : Tx K mg) : FnOk P w K mg base CX0 1 TX.fi_InvalidMerge TX.fdi_InvalidMerge ["self", "value"] (sp_init K TX.c_InvalidMerge "value") := by
  refine TX.ui_InvalidMerge.ok sc_init_InvalidMerge (fun vs H Q E h => ?_) (fun cdv A outer s H vs Q E hr h => ?_)
  · obtain ⟨a, y, rfl, _⟩ := h; rfl
  · obtain ⟨a, y, rfl, ha, q⟩ := h
    exact ⟨_, (pss_one (ps_ost (pv 0) (pv 1))), y, rfl, .ref a, rfl, a, TX.c_InvalidMerge, rfl, TX.ox_InvalidMerge, TX.no_InvalidMerge, .inl ⟨ha, fun dx n ne => q dx n ne⟩⟩
theorem ok_init_InvalidPolicy (TX : Tx K mg) : FnOk P w K mg base CX0 1 TX.fi_InvalidPolicy TX.fdi_InvalidPolicy ["self", "value"] (sp_init K TX.c_InvalidPolicy "value") := by
  refine TX.ui_InvalidPolicy.ok sc_init_InvalidPolicy (fun vs H Q E h => ?_) (fun cdv A outer s H vs Q E hr h => ?_)
  · obtain ⟨a, y, rfl, _⟩ := h; rfl
  · obtain ⟨a, y, rfl, ha, q⟩ := h
    exact ⟨_, (pss_one (ps_ost (pv 0) (pv 1))), y, rfl, .ref a, rfl, a, TX.c_InvalidPolicy, rfl, TX.ox_InvalidPolicy, TX.no_InvalidPolicy, .inl ⟨ha, fun dx n ne => q dx n ne⟩⟩
theorem ok_init_InvalidKey (TX : Tx K mg) : FnOk P w K mg base CX0 1 TX.fi_InvalidKey TX.fdi_InvalidKey ["self", "value"] (sp_init K TX.c_InvalidKey "value") := by
  refine TX.ui_InvalidKey.ok sc_init_InvalidKey (fun vs H Q E h => ?_) (fun cdv A outer s H vs Q E hr h => ?_)
  · obtain ⟨a, y, rfl, _⟩ := h; rfl
  · obtain ⟨a, y, rfl, ha, q⟩ := h
    exact ⟨_, (pss_one (ps_ost (pv 0) (pv 1))), y, rfl, .ref a, rfl, a, TX.c_InvalidKey, rfl, TX.ox_InvalidKey, TX.no_InvalidKey, .inl ⟨ha, fun dx n ne => q dx n ne⟩⟩
theorem ok_init_InvalidValue (TX : Tx K mg) : FnOk P w K mg base CX0 1 TX.fi_InvalidValue TX.fdi_InvalidValue ["self", "value"] (sp_init K TX.c_InvalidValue "value") := by
  refine TX.ui_InvalidValue.ok sc_init_InvalidValue (fun vs H Q E h => ?_) (fun cdv A outer s H vs Q E hr h => ?_)
  · obtain ⟨a, y, rfl, _⟩ := h; rfl
  · obtain ⟨a, y, rfl, ha, q⟩ := h
    exact ⟨_, (pss_one (ps_ost (pv 0) (pv 1))), y, rfl, .ref a, rfl, a, TX.c_InvalidValue, rfl, TX.ox_InvalidValue, TX.no_InvalidValue, .inl ⟨ha, fun dx n ne => q dx n ne⟩⟩
theorem ok_init_InvalidMoment (TX : Tx K mg) : FnOk P w K mg base CX0 1 TX.fi_InvalidMoment TX.fdi_InvalidMoment ["self", "value"] (sp_init K TX.c_InvalidMoment "value") := by
  refine TX.ui_InvalidMoment.ok sc_init_InvalidMoment (fun vs H Q E h => ?_) (fun cdv A outer s H vs Q E hr h => ?_)
  · obtain ⟨a, y, rfl, _⟩ := h; rfl
  · obtain ⟨a, y, rfl, ha, q⟩ := h
    exact ⟨_, (pss_one (ps_ost (pv 0) (pv 1))), y, rfl, .ref a, rfl, a, TX.c_InvalidMoment, rfl, TX.ox_InvalidMoment, TX.no_InvalidMoment, .inl ⟨ha, fun dx n ne => q dx n ne⟩⟩
theorem ok_init_InvalidText (TX : Tx K mg) : FnOk P w K mg base CX0 1 TX.fi_InvalidText TX.fdi_InvalidText ["self", "value"] (sp_init K TX.c_InvalidText "value") := by
  refine TX.ui_InvalidText.ok sc_init_InvalidText (fun vs H Q E h => ?_) (fun cdv A outer s H vs Q E hr h => ?_)
  · obtain ⟨a, y, rfl, _⟩ := h; rfl
  · obtain ⟨a, y, rfl, ha, q⟩ := h
    exact ⟨_, (pss_one (ps_ost (pv 0) (pv 1))), y, rfl, .ref a, rfl, a, TX.c_InvalidText, rfl, TX.ox_InvalidText, TX.no_InvalidText, .inl ⟨ha, fun dx n ne => q dx n ne⟩⟩
theorem ok_init_InvalidLine (TX : Tx K mg) : FnOk P w K mg base CX0 1 TX.fi_InvalidLine TX.fdi_InvalidLine ["self", "value"] (sp_init K TX.c_InvalidLine "value") := by
  refine TX.ui_InvalidLine.ok sc_init_InvalidLine (fun vs H Q E h => ?_) (fun cdv A outer s H vs Q E hr h => ?_)
  · obtain ⟨a, y, rfl, _⟩ := h; rfl
  · obtain ⟨a, y, rfl, ha, q⟩ := h
    exact ⟨_, (pss_one (ps_ost (pv 0) (pv 1))), y, rfl, .ref a, rfl, a, TX.c_InvalidLine, rfl, TX.ox_InvalidLine, TX.no_InvalidLine, .inl ⟨ha, fun dx n ne => q dx n ne⟩⟩
end
section
variable {P : Program} {w : World} {K : PySem.W.Frag} {mg : Str → Option Value} {base : Heap}
theorem min_nat (a b : Nat) : (if (b : Int) < (a : Int) then (b : Int) else (a : Int)) = ((min a b : Nat) : Int) := by
  by_cases h : b < a
  · rw [if_pos (by omega), Nat.min_eq_right (by omega)]
  · rw [if_neg (by omega), Nat.min_eq_left (by omega)]
theorem max_nat (a b : Nat) : (if (b : Int) > (a : Int) then (b : Int) else (a : Int)) = ((max a b : Nat) : Int) := by
  by_cases h : b > a
  · rw [if_pos (by omega), Nat.max_eq_right (by omega)]
  · rw [if_neg (by omega), Nat.max_eq_left (by omega)]
theorem bin_turn {n j : Nat} (h : j < n) : (bin n j : Int) * ((n : Int) - (j : Int)) / ((j : Int) + 1) = (bin n (j + 1) : Int) := by
  rw [← bin_div (n := n) (j := j) (by omega)]
  have e : ((n : Int) - (j : Int)) = ((n - j : Nat) : Int) := by omega
  rw [e]; norm_cast
end
section
variable {P : Program} {w : World} {K : PySem.W.Frag} {mg : Str → Option Value} {base : Heap}
end
section
variable {P : Program} {w : World} {K : PySem.W.Frag} {mg : Str → Option Value} {base : Heap}
end
section
variable {P : Program} {w : World} {K : PySem.W.Frag} {mg : Str → Option Value} {base : Heap}
def isSta (k c : Nat) (st : List Nat) : Bool := decide (st.length ≤ k) && st.all fun x => decide (1 ≤ x) && decide (x ≤ c)
theorem isSta_iff {k c : Nat} {st : List Nat} : isSta k c st = true ↔ Sta k c st := by
  unfold isSta Sta
  simp only [Bool.and_eq_true, decide_eq_true_eq, List.all_eq_true]
end
section
variable {P : Program} {w : World} {K : PySem.W.Frag} {mg : Str → Option Value} {base : Heap}
theorem mxdef_read {K : PySem.W.Frag} {H : Hp} {p : Addr} {xs : List Nat} {Q : VK} (h : SqT K H p (vi xs)) (q : Q (.int ((mx xs : Nat) : Int)) H) : rMaxDef K [.ref p] [.int 0] H Q := by
  refine ⟨p, 0, ci xs, rfl, rfl, by rw [← vi_ci]; exact h, fun e => ?_, fun m r e => ?_⟩
  · have : xs = [] := by simpa [ci] using e
    subst this; exact q
  · cases xs with
    | nil => simp [ci] at e
    | cons x t =>
      simp only [ci, List.map_cons, List.cons.injEq] at e
      obtain ⟨rfl, rfl⟩ := e
      rw [mx_fold]; exact q
def sp_state_after (K : PySem.W.Frag) : Sp := fun vs H Q _ => ∃ (a : Addr) (st : List Nat) (m : Nat), vs = [.ref a, .int (m : Int)] ∧ SqT K H a (vi st) ∧ m ≤ st.length ∧ st.length ≤ 1000 ∧ ∀ H' p, Same H H' → SqT K H' p (vi (sa st m)) → Q (.ref p) H'
theorem ok_state_after (TX : Tx K mg) : FnOk P w K mg base CX0 3 TX.a_state_after TX.fd_state_after ["state", "merge"] (sp_state_after K) := by
  refine TX.f_state_after.ok sc_state_after (fun vs H Q E h => ?_) (fun cdv A outer s H vs Q E hr h => ?_)
  · obtain ⟨a, st, m, rfl, _⟩ := h; rfl
  · obtain ⟨a, st, m, rfl, hS, hm, hl, q⟩ := h
    refine ⟨_, (pss_cons (ps_set (i := 2) sc_state_after.nd rfl (.inl rfl) (pe_op op_sub (pe_callB (id := "len") (k_len (K := K) rfl) (by rfl) TX.b_len (by decide +kernel) (pa_cons (pv 0) pa_nil)) (pv 1)))
      (pss_one (ps_ret (pe_op (k_catT (K := K) rfl) (pe_slice (k_slT (K := K) rfl) (pv 0) po_none (po_some (pv 2))) (pe_tup (pa_cons (pe_op op_add pe_int (pe_callBK (id := "max") (cr_maxDef (K := K) rfl rfl hr.units) (by rfl) TX.b_max (by decide +kernel) (pa_cons (pe_slice (k_slT (K := K) rfl) (pv 0) (po_some (pv 2)) po_none) pa_nil) (pk_cons pe_int pk_nil))) pa_nil)))))), ?_⟩
    refine ⟨.ref a, rfl, a, _, rfl, .inr hS, _, rfl, _, _, rfl, rfl, ?_⟩
    have eK : ((vi st).length : Int) - (m : Int) = ((st.length - m : Nat) : Int) := by rw [vi_len]; omega
    dsimp only
    rw [eK]
    refine ⟨.ref a, rfl, _, rfl, _, rfl, sl_read hS fun c1 H1 s1 h1 => ?_⟩
    rw [cutV_to (by omega)] at h1
    refine ⟨.ref a, rfl, _, rfl, _, rfl, ?_⟩
    dsimp only [tNoPart]
    refine sl_read (Same.tup s1 hS) fun c2 H2 s2 h2 => ?_
    rw [cutV_from (by omega)] at h2
    dsimp only [tNil, tCons, tC]
    refine mxdef_read h2 ?_
    refine ⟨_, _, rfl, rfl, sz60 (by simp), fun t nt => ?_⟩
    have s3 := same_upd (o := .tup [V.int (1 + ((mx (st.drop (st.length - m)) : Nat) : Int))]) nt
    refine cat_read (Same.tup (s2.trans s3) h1) (.inl (.inl upd_same)) (by simp [vi]; omega) fun p H4 s4 h4 => q H4 p (s1.trans (s2.trans (s3.trans s4))) ?_
    unfold sa
    rw [vi_app]
    have e : vi [1 + mx (st.drop (st.length - m))] = [V.int (1 + ((mx (st.drop (st.length - m)) : Nat) : Int))] := by
      simp [vi]
    rw [e]; exact h4
end
theorem dpBoolsI {K : PySem.W.Frag} {H : Hp} : ∀ {vs : List V} {bs : List Bool}, DpAll K H vs (bs.map PyData.bool) → vs = bs.map V.bl
  | _, [], .nil => rfl
  | _, _ :: _, .cons a b => by
    cases a
    rw [dpBoolsI b]; rfl
section
variable {P : Program} {w : World} {K : PySem.W.Frag} {mg : Str → Option Value} {base : Heap}
/-- sizes or reads -/
def Lds (ns : List Int) : Prop := ∀ x, x ∈ ns → 0 ≤ x ∧ x ≤ 1000000000
def sp_are_loads (K : PySem.W.Frag) : Sp := fun vs H Q _ => ∃ (a : Addr) (ns : List Int) (lo hi : Int), vs = [.ref a, .int lo, .int hi] ∧ SqT K H a (ns.map V.int) ∧ Lds ns ∧ lo ≤ (ns.length : Int) ∧ (ns.length : Int) ≤ hi ∧ ns.length ≤ 1000 ∧ ∀ H', Same H H' → Q (.bl true) H'
theorem ok_are_loads (TX : Tx K mg) : FnOk P w K mg base CX0 4 TX.a_are_loads TX.fd_are_loads ["value", "fewest", "most"] (sp_are_loads K) := by
  refine TX.f_are_loads.ok sc_are_loads (fun vs H Q E h => ?_) (fun cdv A outer s H vs Q E hr h => ?_)
  · obtain ⟨a, ns, lo, hi, rfl, _⟩ := h; rfl
  · obtain ⟨a, ns, lo, hi, rfl, hS, hL, h1, h2, h3, q⟩ := h
    have hlen : ((ns.map V.int).length : Int) = (ns.length : Int) := by rw [List.length_map]
    refine ⟨_, (pss_cons (ps_if (PW.pt (pw_or (pt_not (pt_val (pe_callB (id := "isinstance") (k_isi (K := K) rfl) (by rfl) TX.b_isinstance (by decide +kernel) (pa_cons (pv 0) (pa_cons (pe_bltn (v := .ty "tuple") (by rfl) TX.b_tuple (by decide +kernel) rfl) pa_nil))))) (pw_or1 (pt_not (pt_chain op_le op_le (pv 1) (pe_callB (id := "len") (k_len (K := K) rfl) (by rfl) TX.b_len (by decide +kernel) (pa_cons (pv 0) pa_nil)) (pv 2))))))
        (pss_one (ps_ret pe_bl))
        pss_nil)
      (pss_one (ps_ret (pe_callB (id := "all") (cr_all rfl) (by rfl) TX.b_all (by decide +kernel) (pa_cons (pe_lc (own := [("load", 3)]) (by rfl) sc_are_loads.nd (k_piT (K := K) rfl (pv 0)) (blkOk_by (own := [("load", 3)]) (N := N_are_loads) (sc := defScope s_are_loads) (by decide +kernel)) (fun _ _ _ _ _ => (pg_name (i := 3) sc_are_loads.nd rfl (Or.inl rfl))) (fun _ _ _ _ _ => pts_nil) (fun _ _ _ _ _ => (pe_call (ok_is_count_up_to TX) (hr.mono (by decide)) (by rfl) TX.g_is_count_up_to TX.f_is_count_up_to.kp TX.bd_is_count_up_to .nil pass0 (pa_cons (pv 3) (pa_cons (pe_glob (v := .int (1000000000)) (by rfl) TX.c_MOST_LOAD ⟨_, rfl⟩) pa_nil))))) pa_nil))))), ?_⟩
    refine ⟨.ref a, rfl, .ref a, .ty "tuple", .type "tuple", .type "tuple", true, rfl, .ty _, ty_tup hS, kit_ty (by decide +kernel), true, rfl, iteF ⟨_, rfl, .ref a, rfl, a, _, rfl, .inr hS, _, _, rfl, rfl, _, rfl, ?_⟩⟩
    refine decT (by rw [hlen]; exact h1) ⟨_, rfl, _, _, rfl, rfl, _, rfl, iteB0 (by rw [hlen, decide_eq_true h2]; rfl) ?_⟩
    refine ⟨.ref a, rfl, a, rfl, ⟨_, hS⟩, fun D nD => ?_⟩
    refine lc_all (K := K) (walk_tup (xs := ns.map V.int)) ((List.replicate ns.length true).map PyData.bool) (by rw [List.length_map, List.length_replicate, List.length_map]) (fun d h => by obtain ⟨b, _, rfl⟩ := List.mem_map.mp h; exact .bl b) (by rw [List.length_map]; exact h3) nD (fun H' s' => Same.tup s' hS) ?_ ?_ (fun x σ' H' Q Q' h => h _ _) (fun σ' H' Q Q' h => h _ _)
    · rintro i x Hx Hx' hi sx ⟨rfl, hx⟩ d hd R hR
      rw [List.getElem?_map, Option.map_eq_some_iff] at hx
      obtain ⟨z, hz, rfl⟩ := hx
      have hz2 := hL z (List.mem_of_getElem? hz)
      refine ⟨rfl, rfl, _, rfl, z, 1000000000, rfl, hR _ _ (Same.refl _) ?_⟩
      rw [decide_eq_true hz2.1, decide_eq_true hz2.2]
      rw [List.getElem?_map, List.getElem?_replicate, if_pos (by rw [List.length_map] at hi; exact hi)] at hd
      cases hd
      exact .bl true
    · intro H2 acc s2 ha hA
      rw [dpBoolsI hA] at ha
      refine ⟨D, List.replicate ns.length true, rfl, .inl (.inl ha), ?_⟩
      have e : (List.replicate ns.length true).all id = true := by simp
      rw [e]
      exact q _ s2
def sp_check_sizes (K : PySem.W.Frag) : Sp := fun vs H Q _ => ∃ (a : Addr) (ns : List Int) (lo hi : Int), vs = [.ref a, .int lo, .int hi] ∧ SqT K H a (ns.map V.int) ∧ Lds ns ∧ lo ≤ (ns.length : Int) ∧ (ns.length : Int) ≤ hi ∧ ns.length ≤ 1000 ∧ ∀ H', Same H H' → Q .non H'
theorem ok_check_sizes (TX : Tx K mg) : FnOk P w K mg base CX0 5 TX.a_check_sizes TX.fd_check_sizes ["sizes", "fewest", "most"] (sp_check_sizes K) := by
  refine TX.f_check_sizes.ok sc_check_sizes (fun vs H Q E h => ?_) (fun cdv A outer s H vs Q E hr h => ?_)
  · obtain ⟨a, ns, lo, hi, rfl, _⟩ := h; rfl
  · obtain ⟨a, ns, lo, hi, rfl, hS, hL, h1, h2, h3, q⟩ := h
    refine ⟨_, (pss_one (ps_if (pt_not (pt_val (pe_call (ok_are_loads TX) (hr.mono (by decide)) (by rfl) TX.g_are_loads TX.f_are_loads.kp TX.bd_are_loads .nil pass0 (pa_cons (pv 0) (pa_cons (pv 1) (pa_cons (pv 2) pa_nil))))))
        (pss_one ps_never)
        pss_nil)), ?_⟩
    exact ⟨.ref a, rfl, .int lo, rfl, .int hi, rfl, a, ns, lo, hi, rfl, hS, hL, h1, h2, h3, fun H' s' => ⟨true, rfl, iteF (q H' s')⟩⟩
end
/-- the sum of the loads, each times its count -/
def dot (xs : List Int) (ns : List Nat) : Int := (List.zipWith (fun (x : Int) (n : Nat) => x * (n : Int)) xs ns).sum
theorem wr_le : ∀ (t : T) (n : Nat), n ∈ t.wr → n ≤ t.size
  | .nil, n, h => by cases h
  | .node l r, n, h => by
    simp only [T.wr, List.mem_append, List.mem_map, List.mem_cons] at h
    simp only [T.size]
    rcases h with ⟨m, hm, rfl⟩ | rfl | hm
    · have := wr_le l m hm; omega
    · omega
    · have := wr_le r n hm; omega
theorem rc_le : ∀ (t : T) (n : Nat), n ∈ t.rc → n ≤ t.size
  | .nil, n, h => by cases h
  | .node l r, n, h => by
    simp only [T.rc, List.mem_append, List.mem_map, List.mem_cons] at h
    simp only [T.size]
    rcases h with hm | rfl | ⟨m, hm, rfl⟩
    · have := rc_le l n hm; omega
    · omega
    · have := rc_le r m hm; omega
theorem dot_bd : ∀ {xs : List Int} {ns : List Nat}, Lds xs → (∀ n, n ∈ ns → n ≤ 60) → 0 ≤ dot xs ns ∧ dot xs ns ≤ (xs.length : Int) * 60000000000
  | [], _, _, _ => by simp [dot]
  | _ :: _, [], _, _ => by simp [dot]; omega
  | x :: xs, n :: ns, h1, h2 => by
    have ih := dot_bd (xs := xs) (ns := ns) (fun y hy => h1 y (List.mem_cons_of_mem _ hy)) fun m hm => h2 m (List.mem_cons_of_mem _ hm)
    have a := h1 x (List.mem_cons_self ..)
    have b := h2 n (List.mem_cons_self ..)
    have c : x * (n : Int) ≤ 1000000000 * 60 := Int.mul_le_mul a.2 (by omega) (by omega) (by omega)
    have d : 0 ≤ x * (n : Int) := Int.mul_nonneg a.1 (by omega)
    have e : dot (x :: xs) (n :: ns) = x * (n : Int) + dot xs ns := by simp [dot]
    rw [e, List.length_cons]
    omega
section
variable {P : Program} {w : World} {K : PySem.W.Frag} {mg : Str → Option Value} {base : Heap}
def sp_weighted (K : PySem.W.Frag) : Sp := fun vs H Q _ => ∃ (a b : Addr) (xs : List Int) (ns : List Nat), vs = [.ref a, .ref b] ∧ SqT K H a (xs.map V.int) ∧ SqT K H b (vi ns) ∧ xs.length = ns.length ∧ xs.length ≤ 60 ∧ Lds xs ∧ (∀ n, n ∈ ns → n ≤ 60) ∧ ∀ H', Same H H' → Q (.int (dot xs ns)) H'
theorem ok_weighted (TX : Tx K mg) : FnOk P w K mg base CX0 1 TX.a_weighted TX.fd_weighted ["loads", "counts"] (sp_weighted K) := by
  refine TX.f_weighted.ok sc_weighted (fun vs H Q E h => ?_) (fun cdv A outer s H vs Q E hr h => ?_)
  · obtain ⟨a, b, xs, ns, rfl, _⟩ := h; rfl
  · obtain ⟨a, b, xs, ns, rfl, hA, hB, he, hz, hL, hn, q⟩ := h
    refine ⟨_, (pss_one (ps_ret (pe_callB (id := "sum") (cr_sum rfl) (by rfl) TX.b_sum (by decide +kernel) (pa_cons (pe_lc (own := [("load", 2), ("count", 3)]) (by rfl) sc_weighted.nd (RZ.pi_zipA (by rfl) TX.b_zip (pa_cons (pv 0) (pa_cons (pv 1) pa_nil))) (blkOk_by (own := [("load", 2), ("count", 3)]) (N := N_weighted) (sc := defScope s_weighted) (by decide +kernel)) (fun _ _ _ _ _ => (k_pgT2 (K := K) rfl rfl (pg_name (i := 2) sc_weighted.nd rfl (Or.inl rfl)) (pg_name (i := 3) sc_weighted.nd rfl (Or.inl rfl)))) (fun _ _ _ _ _ => pts_nil) (fun _ _ _ _ _ => (pe_op op_mulW (pv 2) (pv 3)))) pa_nil)))), ?_⟩
    refine ⟨.ref a, rfl, .ref b, rfl, a, b, _, _, rfl, .inr ⟨hA, hB, fun D nD => ?_⟩⟩
    refine lc_all (K := K) (walk_zipT (xs := xs.map V.int) (ys := vi ns) rfl) ((List.zipWith (fun (x : Int) (n : Nat) => x * (n : Int)) xs ns).map PyData.int) (by simp [vi]) (tf_ints _) (by simp [vi]; omega) nD (fun H' s' => ⟨Same.tup s' hA, Same.tup s' hB⟩) ?_ ?_ mono_pair (fun σ' H' Q Q' h => h _ _)
    · rintro i x Hx Hx' hi sx ⟨T, x1, x2, rfl, nT, rfl, e1, e2⟩ d hd R hR
      dsimp only at e1 e2
      have hix : i < xs.length := by simp [vi] at hi; omega
      have hiy : i < ns.length := by omega
      rw [List.getElem?_map, List.getElem?_eq_getElem hix] at e1
      rw [vi_get (List.getElem?_eq_getElem hiy)] at e2
      cases e1; cases e2
      rw [List.getElem?_map, List.getElem?_zipWith, List.getElem?_eq_getElem hix, List.getElem?_eq_getElem hiy] at hd
      cases hd
      have b1 := hL _ (List.getElem_mem hix)
      have b2 := hn _ (List.getElem_mem hiy)
      exact ⟨T, _, rfl, .inl (.inl upd_same), rfl, _, _, rfl, _, _, rfl, rfl, rfl, rfl, _, rfl, _, rfl, _, _, rfl, rfl, wide_mul (a := 31) (b := 8) (by omega) (by omega) (by decide) (by decide) (by decide), hR _ _ (same_upd nT) (.int _)⟩
    · intro H5 acc s5 ha hA5
      rw [dp_ints_inv hA5] at ha
      exact ⟨D, _, rfl, .inl (.inl ha), q _ s5⟩
def sp_write_work (K : PySem.W.Frag) : Sp := fun vs H Q _ => ∃ (a b : Addr) (t : T) (ss : List Int), vs = [.ref a, .ref b] ∧ SqT K H a (vi t.sch) ∧ SqT K H b (ss.map V.int) ∧ ss.length = t.size ∧ t.size ≤ 60 ∧ Lds ss ∧ ∀ H', Same H H' → Q (.int (dot ss t.wr)) H'
theorem ok_write_work (TX : Tx K mg) : FnOk P w K mg base CX0 7 TX.a_write_work TX.fd_write_work ["schedule", "sizes"] (sp_write_work K) := by
  refine TX.f_write_work.ok sc_write_work (fun vs H Q E h => ?_) (fun cdv A outer s H vs Q E hr h => ?_)
  · obtain ⟨a, b, t, ss, rfl, _⟩ := h; rfl
  · obtain ⟨a, b, t, ss, rfl, hA, hB, he, hz, hL, q⟩ := h
    refine ⟨_, (pss_cons (ps_set (i := 2) sc_write_work.nd rfl (.inl rfl) (pe_call (ok_writes TX) (hr.mono (by decide)) (by rfl) TX.g_writes TX.f_writes.kp TX.bd_writes .nil pass0 (pa_cons (pv 0) pa_nil)))
      (pss_cons (ps_expr (pe_call (ok_check_sizes TX) (hr.mono (by decide)) (by rfl) TX.g_check_sizes TX.f_check_sizes.kp TX.bd_check_sizes .nil pass0 (pa_cons (pv 1) (pa_cons (pe_callB (id := "len") (k_len (K := K) rfl) (by rfl) TX.b_len (by decide +kernel) (pa_cons (pv 2) pa_nil)) (pa_cons (pe_callB (id := "len") (k_len (K := K) rfl) (by rfl) TX.b_len (by decide +kernel) (pa_cons (pv 2) pa_nil)) pa_nil)))))
      (pss_one (ps_ret (pe_call (ok_weighted TX) (hr.mono (by decide)) (by rfl) TX.g_weighted TX.f_weighted.kp TX.bd_weighted .nil pass0 (pa_cons (pv 1) (pa_cons (pv 2) pa_nil))))))), ?_⟩
    refine ⟨.ref a, rfl, a, t, rfl, hA, hz, fun H1 p1 s1 h1 => ?_⟩
    have hwl : ((vi t.wr).length : Int) = (ss.length : Int) := by rw [vi_len, T.wr_len, he]
    refine ⟨.ref b, rfl, .ref p1, rfl, p1, _, rfl, .inr h1, .ref p1, rfl, p1, _, rfl, .inr h1, b, ss, _, _, rfl, Same.tup s1 hB, hL, by omega, by omega, by omega, fun H2 s2 => ?_⟩
    exact ⟨.ref b, rfl, .ref p1, rfl, b, p1, ss, t.wr, rfl, Same.tup (s1.trans s2) hB, Same.tup s2 h1, by rw [T.wr_len, he], by omega, hL, fun n hn => by have := wr_le t n hn; omega, fun H3 s3 => q _ ((s1.trans s2).trans s3)⟩
end
section
variable {K : PySem.W.Frag} {C : Addr} {H : Hp} {s : St} {pol : List V} {t : T} {L : List (List (Key × V))} {kvs : List (Key × V)} {hs : List V} {n : Int}
theorem f_rule (a : StAt K C H s pol t L kvs hs n) (c : Cls K C) (na : NoAttr K C "rule") {Q : V → Prop} (q : ∀ r, SqT K H r pol → Q (.ref r)) : ∃ a' C' dx fs v, V.ref s.p = V.ref a' ∧ H a' = some (.ins C' dx fs) ∧ Cls K C' ∧ NoAttr K C' "rule" ∧ fs.lookup ("rule" : Str) = some v ∧ Q v := by
  obtain ⟨dx, r, e1, e2⟩ := a.ex
  exact ⟨_, _, _, _, _, rfl, e1, c, na, lk_rule .., q r e2⟩
theorem f_merges (a : StAt K C H s pol t L kvs hs n) (c : Cls K C) (na : NoAttr K C "merges") {Q : V → Prop} (q : Q (.ref s.m)) : ∃ a' C' dx fs v, V.ref s.p = V.ref a' ∧ H a' = some (.ins C' dx fs) ∧ Cls K C' ∧ NoAttr K C' "merges" ∧ fs.lookup ("merges" : Str) = some v ∧ Q v := by
  obtain ⟨dx, r, e1, e2⟩ := a.ex
  exact ⟨_, _, _, _, _, rfl, e1, c, na, lk_merges .., q⟩
theorem f_batches (a : StAt K C H s pol t L kvs hs n) (c : Cls K C) (na : NoAttr K C "batches") {Q : V → Prop} (q : Q (.ref s.b)) : ∃ a' C' dx fs v, V.ref s.p = V.ref a' ∧ H a' = some (.ins C' dx fs) ∧ Cls K C' ∧ NoAttr K C' "batches" ∧ fs.lookup ("batches" : Str) = some v ∧ Q v := by
  obtain ⟨dx, r, e1, e2⟩ := a.ex
  exact ⟨_, _, _, _, _, rfl, e1, c, na, lk_batches .., q⟩
theorem f_buffer (a : StAt K C H s pol t L kvs hs n) (c : Cls K C) (na : NoAttr K C "buffer") {Q : V → Prop} (q : Q (.ref s.d)) : ∃ a' C' dx fs v, V.ref s.p = V.ref a' ∧ H a' = some (.ins C' dx fs) ∧ Cls K C' ∧ NoAttr K C' "buffer" ∧ fs.lookup ("buffer" : Str) = some v ∧ Q v := by
  obtain ⟨dx, r, e1, e2⟩ := a.ex
  exact ⟨_, _, _, _, _, rfl, e1, c, na, lk_buffer .., q⟩
theorem f_history (a : StAt K C H s pol t L kvs hs n) (c : Cls K C) (na : NoAttr K C "history") {Q : V → Prop} (q : Q (.ref s.h)) : ∃ a' C' dx fs v, V.ref s.p = V.ref a' ∧ H a' = some (.ins C' dx fs) ∧ Cls K C' ∧ NoAttr K C' "history" ∧ fs.lookup ("history" : Str) = some v ∧ Q v := by
  obtain ⟨dx, r, e1, e2⟩ := a.ex
  exact ⟨_, _, _, _, _, rfl, e1, c, na, lk_history .., q⟩
theorem f_searched (a : StAt K C H s pol t L kvs hs n) (c : Cls K C) (na : NoAttr K C "searched") {Q : V → Prop} (q : Q (.int n)) : ∃ a' C' dx fs v, V.ref s.p = V.ref a' ∧ H a' = some (.ins C' dx fs) ∧ Cls K C' ∧ NoAttr K C' "searched" ∧ fs.lookup ("searched" : Str) = some v ∧ Q v := by
  obtain ⟨dx, r, e1, e2⟩ := a.ex
  exact ⟨_, _, _, _, _, rfl, e1, c, na, lk_searched .., q⟩
/-- a method is found -/
theorem f_meth (a : StAt K C H s pol t L kvs hs n) {m : Str} (e : (["rule", "merges", "batches", "buffer", "history", "searched"] : List Str).contains m = false) {Q : Prop} (q : Q) : ∃ a' dx fs, V.ref s.p = V.ref a' ∧ H a' = some (.ins C dx fs) ∧ fs.lookup m = none ∧ Q := by
  obtain ⟨dx, r, e1, e2⟩ := a.ex
  exact ⟨_, _, _, rfl, e1, lk_no _ _ _ _ _ _ e, q⟩
end
section
variable {P : Program} {w : World} {K : PySem.W.Frag} {mg : Str → Option Value} {base : Heap}
/-- a store made -/
def sp_Store___init__ (TX : Tx K mg) : Sp := fun vs H Q _ => ∃ (p dx r : Addr) (nm : Str) (ks : List Int), vs = [.ref p, .ref r] ∧ H p = some (.ins TX.C_Store dx []) ∧ SqT K H r (polV nm ks) ∧ PolN nm ks ∧
  ∀ H' s, s.p = p → s.ds = [] → H s.m = none → H s.b = none → H s.h = none → H s.d = none → ButL [p] H H' → StAt K TX.C_Store H' s (polV nm ks) .nil [] [] [] 0 → Q .non H'
theorem ok_Store___init__ (TX : Tx K mg) [WP w TX] : FnOk P w K mg base CX0 5 TX.a_Store___init__ TX.fd_Store___init__ ["self", "policy"] (sp_Store___init__ TX) := by
  refine TX.f_Store___init__.ok sc_Store___init__ (fun vs H Q E h => ?_) (fun cdv A outer s H vs Q E hr h => ?_)
  · obtain ⟨p, dx, r, nm, ks, rfl, _⟩ := h; rfl
  · obtain ⟨p, dx, r, nm, ks, rfl, hp, hS, hpol, q⟩ := h
    refine ⟨_, (pss_cons (ps_if (pt_not (pt_val (pe_call (ok_is_policy (w := w) TX) (hr.mono (by decide)) (by rfl) TX.g_is_policy TX.f_is_policy.kp TX.bd_is_policy .nil pass0 (pa_cons (pv 1) pa_nil))))
        (pss_one ps_never)
        pss_nil)
      (pss_cons (ps_fld (pv 0) (pv 1) rfl)
      (pss_cons (ps_fld (pv 0) (pe_lst pa_nil) rfl)
      (pss_cons (ps_fld (pv 0) (pe_lst pa_nil) rfl)
      (pss_cons (ps_fld (pv 0) pe_dnewK rfl)
      (pss_cons (ps_fld (pv 0) (pe_lst pa_nil) rfl)
      (pss_one (ps_fld (pv 0) pe_int rfl)))))))), ?_⟩
    refine ⟨.ref r, rfl, r, nm, ks, rfl, hS, hpol, fun H1 s1 => ⟨true, rfl, iteF ?_⟩⟩
    have hp1 := s1 _ _ hp
    have hS1 := Same.tup s1 hS
    refine ⟨_, rfl, _, rfl, p, TX.C_Store, dx, [], rfl, hp1, TX.cl_Store, TX.na_Store_rule, by show 0 < 1000; decide, ?_⟩
    rw [pp1]
    have g1 := upd_same (H := H1) (a := p) (o := .ins TX.C_Store dx (pf1 r))
    have b1 : ButL [p] H1 (upd H1 p (.ins TX.C_Store dx (pf1 r))) := .upd (by simp)
    generalize upd H1 p _ = G1 at g1 b1 ⊢
    refine ⟨sz60 (by simp), fun m hm0 => ?_⟩
    have w1 := same_upd (o := .lst []) hm0
    have m1 := upd_same (H := G1) (a := m) (o := .lst [])
    have npm : m ≠ p := fun e => by rw [e, g1] at hm0; cases hm0
    have hfm : H1 m = none := by cases e : H1 m with
      | none => rfl
      | some o => rw [b1 m o (by simp [npm]) e] at hm0; cases hm0
    have b2 := b1.trans (.of w1)
    have g2 := w1 _ _ g1
    generalize upd G1 m _ = G2 at b2 m1 g2 ⊢
    refine ⟨_, rfl, p, TX.C_Store, dx, _, rfl, g2, TX.cl_Store, TX.na_Store_merges, by show 1 < 1000; decide, ?_⟩
    rw [pp2]
    have g3 := upd_same (H := G2) (a := p) (o := .ins TX.C_Store dx (pf2 r m))
    have b3 : ButL [p] H1 (upd G2 p (.ins TX.C_Store dx (pf2 r m))) := b2.trans (.upd (by simp))
    have m3 : (upd G2 p (.ins TX.C_Store dx (pf2 r m))) m = some (.lst []) := by rw [upd_ne npm]; exact m1
    generalize upd G2 p _ = G3 at g3 b3 m3 ⊢
    refine ⟨sz60 (by simp), fun b hb0 => ?_⟩
    have w4 := same_upd (o := .lst []) hb0
    have b4' := upd_same (H := G3) (a := b) (o := .lst [])
    have npb : b ≠ p := fun e => by rw [e, g3] at hb0; cases hb0
    have nmb : m ≠ b := fun e => by rw [← e, m3] at hb0; cases hb0
    have hfb : H1 b = none := by cases e : H1 b with
      | none => rfl
      | some o => rw [b3 b o (by simp [npb]) e] at hb0; cases hb0
    have b4 := b3.trans (.of w4)
    have g4 := w4 _ _ g3
    have m4 := w4 _ _ m3
    generalize upd G3 b _ = G4 at b4 b4' g4 m4 ⊢
    refine ⟨_, rfl, p, TX.C_Store, dx, _, rfl, g4, TX.cl_Store, TX.na_Store_batches, by show 2 < 1000; decide, ?_⟩
    rw [pp3]
    have g5 := upd_same (H := G4) (a := p) (o := .ins TX.C_Store dx (pf3 r m b))
    have b5 : ButL [p] H1 (upd G4 p (.ins TX.C_Store dx (pf3 r m b))) := b4.trans (.upd (by simp))
    have m5 : (upd G4 p (.ins TX.C_Store dx (pf3 r m b))) m = some (.lst []) := by rw [upd_ne npm]; exact m4
    have c5 : (upd G4 p (.ins TX.C_Store dx (pf3 r m b))) b = some (.lst []) := by rw [upd_ne npb]; exact b4'
    generalize upd G4 p _ = G5 at g5 b5 m5 c5 ⊢
    intro d hd0
    have w6 := same_upd (o := .dK []) hd0
    have d6 := upd_same (H := G5) (a := d) (o := .dK [])
    have npd : d ≠ p := fun e => by rw [e, g5] at hd0; cases hd0
    have hfd : H1 d = none := by cases e : H1 d with
      | none => rfl
      | some o => rw [b5 d o (by simp [npd]) e] at hd0; cases hd0
    have b6 := b5.trans (.of w6)
    have g6 := w6 _ _ g5
    have m6 := w6 _ _ m5
    have c6 := w6 _ _ c5
    generalize upd G5 d _ = G6 at b6 d6 g6 m6 c6 ⊢
    refine ⟨_, rfl, p, TX.C_Store, dx, _, rfl, g6, TX.cl_Store, TX.na_Store_buffer, by show 3 < 1000; decide, ?_⟩
    rw [pp4]
    have g7 := upd_same (H := G6) (a := p) (o := .ins TX.C_Store dx (pf4 r m b d))
    have b7 : ButL [p] H1 (upd G6 p (.ins TX.C_Store dx (pf4 r m b d))) := b6.trans (.upd (by simp))
    have m7 : (upd G6 p (.ins TX.C_Store dx (pf4 r m b d))) m = some (.lst []) := by rw [upd_ne npm]; exact m6
    have c7 : (upd G6 p (.ins TX.C_Store dx (pf4 r m b d))) b = some (.lst []) := by rw [upd_ne npb]; exact c6
    have d7 : (upd G6 p (.ins TX.C_Store dx (pf4 r m b d))) d = some (.dK []) := by rw [upd_ne npd]; exact d6
    generalize upd G6 p _ = G7 at g7 b7 m7 c7 d7 ⊢
    refine ⟨sz60 (by simp), fun h hh0 => ?_⟩
    have w8 := same_upd (o := .lst []) hh0
    have h8 := upd_same (H := G7) (a := h) (o := .lst [])
    have nph : h ≠ p := fun e => by rw [e, g7] at hh0; cases hh0
    have nmh : m ≠ h := fun e => by rw [← e, m7] at hh0; cases hh0
    have nbh : b ≠ h := fun e => by rw [← e, c7] at hh0; cases hh0
    have hfh : H1 h = none := by cases e : H1 h with
      | none => rfl
      | some o => rw [b7 h o (by simp [nph]) e] at hh0; cases hh0
    have b8 := b7.trans (.of w8)
    have g8 := w8 _ _ g7
    have m8 := w8 _ _ m7
    have c8 := w8 _ _ c7
    have d8 := w8 _ _ d7
    generalize upd G7 h _ = G8 at b8 h8 g8 m8 c8 d8 ⊢
    refine ⟨_, rfl, p, TX.C_Store, dx, _, rfl, g8, TX.cl_Store, TX.na_Store_history, by show 4 < 1000; decide, ?_⟩
    rw [pp5]
    refine ⟨_, rfl, p, TX.C_Store, dx, _, rfl, upd_same, TX.cl_Store, TX.na_Store_searched, by show 5 < 1000; decide, ?_⟩
    rw [pp6]
    refine q _ ⟨p, m, b, h, d, []⟩ rfl rfl (s1.free hfm) (s1.free hfb) (s1.free hfh) (s1.free hfd) ((ButL.of s1).trans (b8.trans ((ButL.upd (by simp)).trans (.upd (by simp))))) ?_
    have up : ∀ {c : Addr} {u v o : HO}, c ≠ p → G8 c = some o → (upd (upd G8 p u) p v) c = some o := fun n e => by rw [upd_ne n, upd_ne n]; exact e
    have key : Keep K G8 (upd (upd G8 p (.ins TX.C_Store dx (pf5 r m b d h))) p (.ins TX.C_Store dx (fldS r m b d h 0))) := fun c xs e => by
      rcases e with (e | ⟨o, e⟩) | e
      · exact .inl (.inl (up (fun z => by rw [z, g8] at e; cases e) e))
      · exact .inl (.inr ⟨o, up (fun z => by rw [z, g8] at e; cases e) e⟩)
      · exact .inr e
    have key0 : Keep K H1 G8 := fun c xs e => by
      rcases e with (e | ⟨o, e⟩) | e
      · exact .inl (.inl (b8 _ _ (by simp; intro z; rw [z, hp1] at e; cases e) e))
      · exact .inl (.inr ⟨o, b8 _ _ (by simp; intro z; rw [z, hp1] at e; cases e) e⟩)
      · exact .inr e
    exact ⟨⟨dx, r, upd_same, key _ _ (key0 _ _ hS1)⟩, up npm m8, up npb c8, up nph h8, up npd d8, nmb, nmh, nbh, by simp, rfl, rfl, fun i di e => by simp at e⟩
end
theorem snocC {α : Type} (xs : List α) : xs = [] ∨ ∃ ys y, xs = ys ++ [y] := by
  rcases List.eq_nil_or_concat xs with h | ⟨ys, y, h⟩
  · exact .inl h
  · exact .inr ⟨ys, y, by simpa using h⟩
theorem StAt.psz {K : PySem.W.Frag} {C : Addr} {H : Hp} {s : St} {pol : List V} {t : T} {L : List (List (Key × V))} {kvs : List (Key × V)} {hs : List V} {n : Int} (a : StAt K C H s pol t L kvs hs n) : s.p ≠ s.m ∧ s.p ≠ s.b ∧ s.p ≠ s.h ∧ s.p ≠ s.d ∧ s.m ≠ s.d ∧ s.b ≠ s.d ∧ s.h ≠ s.d := by
  obtain ⟨dx, r, e1, e2⟩ := a.ex
  refine ⟨fun e => ?_, fun e => ?_, fun e => ?_, fun e => ?_, fun e => ?_, fun e => ?_, fun e => ?_⟩
  · have := a.hm; rw [← e, e1] at this; cases this
  · have := a.hb; rw [← e, e1] at this; cases this
  · have := a.hh; rw [← e, e1] at this; cases this
  · have := a.hd; rw [← e, e1] at this; cases this
  · have := a.hd; rw [← e, a.hm] at this; cases this
  · have := a.hd; rw [← e, a.hb] at this; cases this
  · have := a.hd; rw [← e, a.hh] at this; cases this
/-- the batches' dicts are no other part of the store -/
theorem StAt.dsn {K : PySem.W.Frag} {C : Addr} {H : Hp} {s : St} {pol : List V} {t : T} {L : List (List (Key × V))} {kvs : List (Key × V)} {hs : List V} {n : Int} (a : StAt K C H s pol t L kvs hs n) {di : Addr} (hi : di ∈ s.ds) : di ≠ s.p ∧ di ≠ s.m ∧ di ≠ s.b ∧ di ≠ s.h ∧ di ≠ s.d := by
  obtain ⟨dx, r, e1, e2⟩ := a.ex
  obtain ⟨i, hi'⟩ := List.mem_iff_getElem?.mp hi
  obtain ⟨kv, _, hd⟩ := a.bat i di hi'
  refine ⟨fun e => ?_, fun e => ?_, fun e => ?_, fun e => ?_, fun e => ?_⟩
  · rw [e, e1] at hd; cases hd
  · rw [e, a.hm] at hd; cases hd
  · rw [e, a.hb] at hd; cases hd
  · rw [e, a.hh] at hd; cases hd
  · exact a.dn (e ▸ hi)
theorem atI_neg1 {ys : List V} {v : V} : atI (ys ++ [v]) (-1) = some v := atI_last ys v
theorem iteT' {c : Bool} {A B : Prop} (h : c = true) (a : A) : if c = true then A else B := by rw [if_pos h]; exact a
section
variable {P : Program} {w : World} {K : PySem.W.Frag} {mg : Str → Option Value} {base : Heap}
def sp_Store_schedule (TX : Tx K mg) : Sp := fun vs H Q _ => ∃ (s : St) (pol : List V) (t : T) (L : List (List (Key × V))) (kvs : List (Key × V)) (hs : List V) (n : Int), vs = [.ref s.p] ∧ StAt K TX.C_Store H s pol t L kvs hs n ∧ ∀ H' q, Same H H' → SqT K H' q (vi t.sch) → Q (.ref q) H'
theorem ok_Store_schedule (TX : Tx K mg) : FnOk P w K mg base CX0 1 TX.a_Store_schedule TX.fd_Store_schedule ["self"] (sp_Store_schedule TX) := by
  refine TX.f_Store_schedule.ok sc_Store_schedule (fun vs H Q E h => ?_) (fun cdv A outer s H vs Q E hr h => ?_)
  · obtain ⟨s, pol, t, L, kvs, hs, n, rfl, _⟩ := h; rfl
  · obtain ⟨s, pol, t, L, kvs, hs, n, rfl, a, q⟩ := h
    refine ⟨_, (pss_one (ps_ret (pe_callTy (T := "tuple") (k_tupOf (K := K) rfl) (by rfl) TX.b_tuple (by decide +kernel) (pa_cons (pe_fld (pv 0) rfl) pa_nil)))), ?_⟩
    exact ⟨_, rfl, f_merges a TX.cl_Store TX.na_Store_merges ⟨s.m, _, rfl, .inl ⟨.inl (.inl a.hm), fun o no => q _ o (same_upd no) (.inl (.inl upd_same))⟩⟩⟩
def sp_Store_stack (TX : Tx K mg) : Sp := fun vs H Q _ => ∃ (s : St) (pol : List V) (t : T) (L : List (List (Key × V))) (kvs : List (Key × V)) (hs : List V) (n : Int), vs = [.ref s.p] ∧ StAt K TX.C_Store H s pol t L kvs hs n ∧ t.size ≤ 60 ∧ ∀ H' q, Same H H' → Dp K H' (.ref q) (dStk (t.stk 0)) → Q (.ref q) H'
theorem ok_Store_stack (TX : Tx K mg) : FnOk P w K mg base CX0 6 TX.a_Store_stack TX.fd_Store_stack ["self"] (sp_Store_stack TX) := by
  refine TX.f_Store_stack.ok sc_Store_stack (fun vs H Q E h => ?_) (fun cdv A outer s H vs Q E hr h => ?_)
  · obtain ⟨s, pol, t, L, kvs, hs, n, rfl, _⟩ := h; rfl
  · obtain ⟨s, pol, t, L, kvs, hs, n, rfl, a, hz, q⟩ := h
    refine ⟨_, (pss_cons (ps_set (i := 1) sc_Store_stack.nd rfl (.inl rfl) (pe_call (ok_stacks TX) (hr.mono (by decide)) (by rfl) TX.g_stacks TX.f_stacks.kp TX.bd_stacks .nil pass0 (pa_cons (pe_meth0 (pv 0) TX.cl_Store TX.m_Store_schedule (ok_Store_schedule TX) (hr.mono (by decide)) TX.bd_Store_schedule .nil pass0) pa_nil)))
      (pss_one (ps_ret (pe_ifExp (pt_truth (pv 1) (by intro _; rfl)) (pe_ix (k_ixT (K := K) rfl) (pv 1) (pe_un un_neg pe_int) (fun _ _ => rfl)) (pe_tup pa_nil))))), ?_⟩
    refine ⟨_, rfl, f_meth a (by decide +kernel) ⟨s, pol, t, L, kvs, hs, n, rfl, a, fun H1 c s1 hc => ⟨c, t, rfl, hc, hz, fun H2 g s2 hg => ?_⟩⟩⟩
    obtain ⟨g', xs, e, hX, hA⟩ := Dp.tupInv hg
    cases e
    have hl := DpAll.len hA
    rw [dStacks_len] at hl
    have s12 := s1.trans s2
    refine ⟨.ref g, rfl, !xs.isEmpty, .inr (.inl ⟨xs, hX, rfl⟩), ?_⟩
    rcases snocC xs with rfl | ⟨ys, v, rfl⟩
    · refine iteF ⟨sz60 (by simp), fun o no => q _ o (s12.trans (same_upd no)) ?_⟩
      have e0 : t = .nil := by
        cases t with
        | nil => rfl
        | node l r => exact absurd hl (by simp [T.size]; omega)
      rw [e0]
      exact .tup (.inl (.inl upd_same)) .nil
    · refine iteT' (by simp) ⟨.ref g, rfl, 1, rfl, g, _, -1, v, rfl, rfl, hX, atI_neg1, ?_⟩
      have hz1 : t.size = ys.length + 1 := by rw [← hl]; simp
      have hd : (dStacks t)[ys.length]? = some (dStk (t.stk 0)) := by
        rw [dStacks_at (by omega), ← hz1, pre_all]
      obtain ⟨u, g1, g2⟩ := DpAll.get hA hd
      have : (ys ++ [v])[ys.length]? = some v := by simp
      rw [this] at g1
      cases g1
      obtain ⟨q', e1⟩ : ∃ q', v = .ref q' := by obtain ⟨a', _, e, _⟩ := Dp.tupInv g2; exact ⟨a', e⟩
      subst e1
      exact q _ _ s12 g2
def sp_Store_visited (TX : Tx K mg) : Sp := fun vs H Q _ => ∃ (s : St) (pol : List V) (t : T) (L : List (List (Key × V))) (kvs : List (Key × V)) (hs : List V) (n : Int), vs = [.ref s.p] ∧ StAt K TX.C_Store H s pol t L kvs hs n ∧ Q (.int n) H
theorem ok_Store_visited (TX : Tx K mg) : FnOk P w K mg base CX0 1 TX.a_Store_visited TX.fd_Store_visited ["self"] (sp_Store_visited TX) := by
  refine TX.f_Store_visited.ok sc_Store_visited (fun vs H Q E h => ?_) (fun cdv A outer s H vs Q E hr h => ?_)
  · obtain ⟨s, pol, t, L, kvs, hs, n, rfl, _⟩ := h; rfl
  · obtain ⟨s, pol, t, L, kvs, hs, n, rfl, a, q⟩ := h
    refine ⟨_, (pss_one (ps_ret (pe_fld (pv 0) rfl))), ?_⟩
    exact ⟨_, rfl, f_searched a TX.cl_Store TX.na_Store_searched q⟩
/-- how many entries each flush wrote -/
def szL (L : List (List (Key × V))) : List Int := L.map fun kv => (kv.length : Int)
def sp_Store_sizes (TX : Tx K mg) : Sp := fun vs H Q _ => ∃ (s : St) (pol : List V) (t : T) (L : List (List (Key × V))) (kvs : List (Key × V)) (hs : List V) (n : Int), vs = [.ref s.p] ∧ StAt K TX.C_Store H s pol t L kvs hs n ∧ t.size ≤ 60 ∧ ∀ H' q, Same H H' → SqT K H' q ((szL L).map V.int) → Q (.ref q) H'
theorem ok_Store_sizes (TX : Tx K mg) : FnOk P w K mg base CX0 3 TX.a_Store_sizes TX.fd_Store_sizes ["self"] (sp_Store_sizes TX) := by
  refine TX.f_Store_sizes.ok sc_Store_sizes (fun vs H Q E h => ?_) (fun cdv A outer s H vs Q E hr h => ?_)
  · obtain ⟨s, pol, t, L, kvs, hs, n, rfl, _⟩ := h; rfl
  · obtain ⟨s, pol, t, L, kvs, hs, n, rfl, a, hz, q⟩ := h
    refine ⟨_, (pss_one (ps_ret (pe_callTy (T := "tuple") (k_tupOf (K := K) rfl) (by rfl) TX.b_tuple (by decide +kernel) (pa_cons (pe_lc (own := [("batch", 1)]) (by rfl) sc_Store_sizes.nd (k_piL (K := K) rfl (pe_fld (pv 0) rfl)) (blkOk_by (own := [("batch", 1)]) (N := N_Store_sizes) (sc := defScope s_Store_sizes) (by decide +kernel)) (fun _ _ _ _ _ => (pg_name (i := 1) sc_Store_sizes.nd rfl (Or.inl rfl))) (fun _ _ _ _ _ => pts_nil) (fun _ _ _ _ _ => (pe_callB (id := "len") call_lenD (by rfl) TX.b_len (by decide +kernel) (pa_cons (pv 1) pa_nil)))) pa_nil)))), ?_⟩
    have hll : (s.ds.map V.ref).length = L.length := by rw [List.length_map, a.l1]
    refine ⟨_, rfl, f_batches a TX.cl_Store TX.na_Store_batches ⟨s.b, rfl, ⟨_, .inl (.inl a.hb)⟩, fun D nD => ?_⟩⟩
    refine lc_all (K := K) (walk_list (xs := s.ds.map V.ref)) ((szL L).map PyData.int) (by simp [szL, a.l1]) (tf_ints _) (by rw [hll, a.l2]; omega) nD (fun H' s' => .inl (.inl (s' _ _ a.hb))) ?_ ?_ (fun x σ' H' Q Q' h => h _ _) (fun σ' H' Q Q' h => h _ _)
    · rintro i x Hx Hx' hi sx ⟨rfl, hx⟩ d hd R hR
      rw [List.getElem?_map] at hx
      cases hdi : s.ds[i]? with
      | none => rw [hdi] at hx; cases hx
      | some di =>
        rw [hdi] at hx
        cases hx
        obtain ⟨kv, e1, e2⟩ := a.bat i di hdi
        rw [List.getElem?_map, szL, List.getElem?_map, e1] at hd
        cases hd
        exact ⟨rfl, rfl, _, rfl, di, kv, rfl, sx _ _ e2, hR _ _ (Same.refl _) (.int _)⟩
    · intro H2 acc s2 ha hAcc
      rw [dp_ints_inv hAcc] at ha
      exact ⟨D, _, rfl, .inl ⟨.inl (.inl ha), fun o no => q _ o (s2.trans (same_upd no)) (.inl (.inl upd_same))⟩⟩
def sp_Store_written (TX : Tx K mg) : Sp := fun vs H Q _ => ∃ (s : St) (pol : List V) (t : T) (L : List (List (Key × V))) (kvs : List (Key × V)) (hs : List V) (n : Int), vs = [.ref s.p] ∧ StAt K TX.C_Store H s pol t L kvs hs n ∧ t.size ≤ 60 ∧ Lds (szL L) ∧ ∀ H', Same H H' → Q (.int (dot (szL L) t.wr)) H'
theorem ok_Store_written (TX : Tx K mg) : FnOk P w K mg base CX0 8 TX.a_Store_written TX.fd_Store_written ["self"] (sp_Store_written TX) := by
  refine TX.f_Store_written.ok sc_Store_written (fun vs H Q E h => ?_) (fun cdv A outer s H vs Q E hr h => ?_)
  · obtain ⟨s, pol, t, L, kvs, hs, n, rfl, _⟩ := h; rfl
  · obtain ⟨s, pol, t, L, kvs, hs, n, rfl, a, hz, hL, q⟩ := h
    refine ⟨_, (pss_one (ps_ret (pe_call (ok_write_work TX) (hr.mono (by decide)) (by rfl) TX.g_write_work TX.f_write_work.kp TX.bd_write_work .nil pass0 (pa_cons (pe_meth0 (pv 0) TX.cl_Store TX.m_Store_schedule (ok_Store_schedule TX) (hr.mono (by decide)) TX.bd_Store_schedule .nil pass0) (pa_cons (pe_meth0 (pv 0) TX.cl_Store TX.m_Store_sizes (ok_Store_sizes TX) (hr.mono (by decide)) TX.bd_Store_sizes .nil pass0) pa_nil))))), ?_⟩
    refine ⟨_, rfl, f_meth a (by decide +kernel) ⟨s, pol, t, L, kvs, hs, n, rfl, a, fun H1 c s1 hc => ?_⟩⟩
    refine ⟨_, rfl, f_meth (a.same s1) (by decide +kernel) ⟨s, pol, t, L, kvs, hs, n, rfl, a.same s1, hz, fun H2 c2 s2 hc2 => ?_⟩⟩
    exact ⟨c, c2, t, szL L, rfl, Same.tup s2 hc, hc2, by unfold szL; rw [List.length_map, a.l2], hz, hL, fun H3 s3 => q _ ((s1.trans s2).trans s3)⟩
end
section
variable {P : Program} {w : World} {K : PySem.W.Frag} {mg : Str → Option Value} {base : Heap}
def sp_state_of (K : PySem.W.Frag) : Sp := fun vs H Q _ => ∃ (a : Addr) (t : T), vs = [.ref a] ∧ SqT K H a (vi t.sch) ∧ t.size ≤ 60 ∧ ∀ H' q, Same H H' → SqT K H' q (vi (lv t)) → Q (.ref q) H'
theorem ok_state_of (TX : Tx K mg) : FnOk P w K mg base CX0 5 TX.a_state_of TX.fd_state_of ["schedule"] (sp_state_of K) := by
  refine TX.f_state_of.ok sc_state_of (fun vs H Q E h => ?_) (fun cdv A outer s H vs Q E hr h => ?_)
  · obtain ⟨a, t, rfl, _⟩ := h; rfl
  · obtain ⟨a, t, rfl, hS, hz, q⟩ := h
    refine ⟨_, (pss_cons (ps_if (pt_not (pt_val (pe_call (ok_is_schedule TX) (hr.mono (by decide)) (by rfl) TX.g_is_schedule TX.f_is_schedule.kp TX.bd_is_schedule .nil pass0 (pa_cons (pv 0) pa_nil))))
        (pss_one ps_never)
        pss_nil)
      (pss_cons (ps_set (i := 1) sc_state_of.nd rfl (.inl rfl) (pe_tup pa_nil))
      (pss_cons (ps_for PassesOwn.never rfl (k_piT (K := K) rfl (pv 0)) (pg_name (i := 2) sc_state_of.nd rfl (.inl rfl))
        (pss_one (ps_set (i := 1) sc_state_of.nd rfl (.inl rfl) (pe_call (ok_state_after TX) (hr.mono (by decide)) (by rfl) TX.g_state_after TX.f_state_after.kp TX.bd_state_after .nil pass0 (pa_cons (pv 1) (pa_cons (pv 2) pa_nil))))))
      (pss_one (ps_ret (pv 1)))))), ?_⟩
    refine ⟨.ref a, rfl, a, t, rfl, hS, hz, true, rfl, iteF ?_⟩
    refine ⟨sz60 (by simp), fun e ne => ?_⟩
    have s1 := same_upd (o := .tup []) ne
    refine ⟨.ref a, rfl, a, rfl, ⟨_, Same.tup s1 hS⟩, for_tup (K := K) (xs := vi t.sch) (fun i σ H' => Same H H' ∧ ∃ b y2, σ = [some (.ref a), some (.ref b), y2] ∧ SqT K H' b (vi (lv (pre t i)))) ⟨s1, e, none, rfl, by rw [pre_zero]; exact .inl (.inl upd_same)⟩ (fun i σ H' _ h => Same.tup h.1 hS) ?_ ?_⟩
    · rintro i x σ H' hx ⟨s2, b, y2, rfl, hb⟩
      rw [vi, List.getElem?_map] at hx
      cases hc : t.sch[i]? with
      | none => rw [hc] at hx; cases hx
      | some m =>
        rw [hc] at hx
        cases hx
        obtain ⟨e1, e2⟩ := pre_succ hc
        have hi : i < t.size := by rw [← T.sch_len]; exact (List.getElem?_eq_some_iff.mp hc).1
        have hrl := T.runs_le (pre t i)
        rw [pre_size (by omega)] at hrl
        exact ⟨.ref b, rfl, _, rfl, b, lv (pre t i), m, rfl, hb, by rw [lv_len]; exact e2, by rw [lv_len]; omega, fun H3 b3 s3 h3 => ⟨s2.trans s3, b3, _, rfl, by rw [e1, lv_push _ _ e2]; exact h3⟩⟩
    · rintro σ H' ⟨s2, b, y2, rfl, hb⟩
      rw [vi_len, T.sch_len, pre_all] at hb
      exact ⟨.ref b, rfl, q _ _ s2 hb⟩
def sp_Store_state (TX : Tx K mg) : Sp := fun vs H Q _ => ∃ (s : St) (pol : List V) (t : T) (L : List (List (Key × V))) (kvs : List (Key × V)) (hs : List V) (n : Int), vs = [.ref s.p] ∧ StAt K TX.C_Store H s pol t L kvs hs n ∧ t.size ≤ 60 ∧ ∀ H' q, Same H H' → SqT K H' q (vi (lv t)) → Q (.ref q) H'
theorem ok_Store_state (TX : Tx K mg) : FnOk P w K mg base CX0 6 TX.a_Store_state TX.fd_Store_state ["self"] (sp_Store_state TX) := by
  refine TX.f_Store_state.ok sc_Store_state (fun vs H Q E h => ?_) (fun cdv A outer s H vs Q E hr h => ?_)
  · obtain ⟨s, pol, t, L, kvs, hs, n, rfl, _⟩ := h; rfl
  · obtain ⟨s, pol, t, L, kvs, hs, n, rfl, a, hz, q⟩ := h
    refine ⟨_, (pss_one (ps_ret (pe_call (ok_state_of TX) (hr.mono (by decide)) (by rfl) TX.g_state_of TX.f_state_of.kp TX.bd_state_of .nil pass0 (pa_cons (pe_meth0 (pv 0) TX.cl_Store TX.m_Store_schedule (ok_Store_schedule TX) (hr.mono (by decide)) TX.bd_Store_schedule .nil pass0) pa_nil)))), ?_⟩
    exact ⟨_, rfl, f_meth a (by decide +kernel) ⟨s, pol, t, L, kvs, hs, n, rfl, a, fun H1 c s1 hc => ⟨c, t, rfl, hc, hz, fun H2 p s2 h2 => q _ _ (s1.trans s2) h2⟩⟩⟩
end
section
variable {P : Program} {w : World} {K : PySem.W.Frag} {mg : Str → Option Value} {base : Heap}
def sp_Store___len__ (TX : Tx K mg) : Sp := fun vs H Q _ => ∃ (s : St) (pol : List V) (t : T) (L : List (List (Key × V))) (kvs : List (Key × V)) (hs : List V) (n : Int), vs = [.ref s.p] ∧ StAt K TX.C_Store H s pol t L kvs hs n ∧ Q (.int (t.size : Int)) H
theorem ok_Store___len__ (TX : Tx K mg) : FnOk P w K mg base CX0 3 TX.a_Store___len__ TX.fd_Store___len__ ["self"] (sp_Store___len__ TX) := by
  refine TX.f_Store___len__.ok sc_Store___len__ (fun vs H Q E h => ?_) (fun cdv A outer s H vs Q E hr h => ?_)
  · obtain ⟨s, pol, t, L, kvs, hs, n, rfl, _⟩ := h; rfl
  · obtain ⟨s, pol, t, L, kvs, hs, n, rfl, a, q⟩ := h
    refine ⟨_, (pss_one (ps_ret (pe_callB (id := "len") (k_len (K := K) rfl) (by rfl) TX.b_len (by decide +kernel) (pa_cons (pe_fld (pv 0) rfl) pa_nil)))), ?_⟩
    have hl : (vi t.sch).length = t.size := by rw [vi_len, T.sch_len]
    refine ⟨_, rfl, f_merges a TX.cl_Store TX.na_Store_merges ⟨s.m, _, rfl, .inl (.inl (.inl a.hm)), ?_⟩⟩
    rw [hl]; exact q
/-- len(store) -/
theorem len_store {TX : Tx K mg} {H : Hp} {s : St} {pol : List V} {t : T} {L : List (List (Key × V))} {kvs : List (Key × V)} {hs : List V} {n : Int} {E : XK} {Q : VK} (a : StAt K TX.C_Store H s pol t L kvs hs n) (hz : t.size ≤ 1000) (q : Q (.int (t.size : Int)) H) : rLenO TX.C_Store (sp_Store___len__ TX) E [.ref s.p] H Q := by
  obtain ⟨dx, r, e1, e2⟩ := a.ex
  exact ⟨s.p, dx, _, rfl, e1, s, pol, t, L, kvs, hs, n, rfl, a, t.size, rfl, by omega, q⟩
end
/-- the policy and what a caller passes: the merge m follows -/
def Cho (nm : Str) (ks : List Int) (t : T) (x : V) (m : Nat) : Prop :=
  (nm = "manual" ∧ x = .int (m : Int) ∧ m ≤ t.runs) ∨
  (∃ k : Nat, nm = "runs" ∧ ks = [(k : Int)] ∧ 1 ≤ k ∧ k ≤ 60 ∧ x = .non ∧ Polt k t ∧ m = pm k t.size) ∨
  ∃ k c : Nat, nm = "budget" ∧ ks = [(k : Int), (c : Int)] ∧ 1 ≤ k ∧ k ≤ 60 ∧ c ≤ 60 ∧ x = .non ∧ Polt k t ∧ t.size + 1 < bin (k + c) k ∧ m = pm k t.size
theorem Cho.le {nm : Str} {ks : List Int} {t : T} {x : V} {m : Nat} (h : Cho nm ks t x m) : m ≤ t.runs := by
  rcases h with ⟨_, _, h⟩ | ⟨k, _, _, hk, _, _, hp, rfl⟩ | ⟨k, c, _, _, hk, _, _, _, hp, _, rfl⟩
  · exact h
  · exact hp.pm hk
  · exact hp.pm hk
theorem Cho.chk {nm : Str} {ks : List Int} {t : T} {x : V} {m : Nat} (h : Cho nm ks t x m) : (nm = "manual" ∧ ∃ m : Nat, x = .int (m : Int) ∧ m ≤ t.runs) ∨ (nm ≠ "manual" ∧ x = .non) := by
  rcases h with ⟨h1, h2, h3⟩ | ⟨k, h1, _, hk, _, h2, hp, rfl⟩ | ⟨k, c, h1, _, hk, _, _, h2, hp, _, rfl⟩
  · exact .inl ⟨h1, m, h2, h3⟩
  · exact .inr ⟨by rw [h1]; decide +kernel, h2⟩
  · exact .inr ⟨by rw [h1]; decide +kernel, h2⟩
section
variable {P : Program} {w : World} {K : PySem.W.Frag} {mg : Str → Option Value} {base : Heap}
end
def St.next (s : St) (d' : Addr) : St := ⟨s.p, s.m, s.b, s.h, d', s.ds ++ [s.d]⟩
theorem walk_revS {K : PySem.W.Frag} {a : Addr} {xs : List V} : Walk (RT.ItvT K a xs.length) xs.length (fun H => SqT K H a xs) (fun i H x H' => H' = H ∧ xs[xs.length - 1 - i]? = some x) := by
  refine ⟨fun i H hi hG => ?_, fun H hG => ?_, fun i H x H' hi hG y => ?_⟩
  · exact ⟨hi, xs, xs[xs.length - 1 - i], hG, List.getElem?_eq_getElem (by omega)⟩
  · exact Nat.le_refl _
  · exact ⟨y.1, y.2 xs hG⟩
theorem walk_rc {lo c : Int} {n : Nat} : Walk (Itc lo c n) n (fun _ => True) (fun i H x H' => H' = H ∧ x = .int (lo + (i : Nat) * c)) :=
  ⟨fun _ _ h _ => h, fun _ _ => Nat.le_refl _, fun _ _ _ _ _ _ y => y⟩
section
variable {P : Program} {w : World} {K : PySem.W.Frag} {mg : Str → Option Value} {base : Heap}
end
/-- a store after a flush -/
def SD.next (x : SD) (d' : Addr) (m : Nat) : SD := ⟨x.s.next d', x.nm, x.ks, x.t.push m, x.L ++ [x.kvs], [], x.hs ++ [V.non], x.n⟩
section
variable {K : PySem.W.Frag} {mg : Str → Option Value}
/-- a store made: nothing else changes -/
theorem mk_store {TX : Tx K mg} {H : Hp} {r p dx : Addr} {nm : Str} {ks : List Int} {Q : VK} {E : XK} (hr : SqT K H r (polV nm ks)) (hp : PolN nm ks) (hp0 : H p = none) (hd0 : H dx = none) (ndp : dx ≠ p)
    (q : ∀ H' (s : St), Same H H' → s.p = p → (SD.mk s nm ks .nil [] [] [] 0).At K TX.C_Store H' → (∀ c, c ∈ s.all → H c = none) → Q .non H') :
    sp_Store___init__ TX [.ref p, .ref r] (upd (upd H dx (.own p)) p (.ins TX.C_Store dx [])) Q E := by
  have w2 := same_upd (o := .own p) hd0
  have hp1 : (upd H dx (.own p)) p = none := by rw [upd_ne ndp.symm]; exact hp0
  have w3 := w2.trans (same_upd (o := .ins TX.C_Store dx []) hp1)
  refine ⟨p, dx, r, nm, ks, rfl, upd_same, Same.tup w3 hr, hp, fun H' s sp0 sds fm fb fh fd b a => ?_⟩
  have key : ∀ c, c ∈ s.own → H c = none := fun c hc => by
    simp only [St.own, List.mem_cons, List.not_mem_nil, or_false] at hc
    rcases hc with k | k | k | k | k <;> rw [k]
    · rw [sp0]; exact hp0
    · exact w3.free fm
    · exact w3.free fb
    · exact w3.free fh
    · exact w3.free fd
  refine q H' s (fun c o h => b c o (fun z => by rw [List.mem_singleton.mp z, hp0] at h; cases h) (w3 c o h)) sp0 a fun c hc => ?_
  rcases List.mem_append.mp hc with h | h
  · exact key c h
  · rw [sds] at h; cases h
/-- a flush: what stood stays, or is the store's own -/
theorem next_all {s : St} {d' : Addr} {H : Hp} (h : H d' = none) : ∀ c, c ∈ (s.next d').all → c ∈ s.all ∨ H c = none := fun c hc => by
  simp only [St.all, St.own, St.next, List.mem_append, List.mem_cons, List.not_mem_nil, or_false] at hc ⊢
  rcases hc with (k | k | k | k | k) | k | k
  · exact .inl (.inl (.inl k))
  · exact .inl (.inl (.inr (.inl k)))
  · exact .inl (.inl (.inr (.inr (.inl k))))
  · exact .inl (.inl (.inr (.inr (.inr (.inl k)))))
  · exact .inr (by rw [k]; exact h)
  · exact .inl (.inr k)
  · exact .inl (.inl (.inr (.inr (.inr (.inr k)))))
end
section
variable {P : Program} {w : World} {K : PySem.W.Frag} {mg : Str → Option Value} {base : Heap}
/-- the last flush is reverted, or the last write -/
def sp_Store_undo (TX : Tx K mg) : Sp := fun vs H Q _ => ∃ (s : St) (pol : List V) (t : T) (L : List (List (Key × V))) (kvs : List (Key × V)) (hs : List V) (h : V) (n : Int), vs = [.ref s.p] ∧ StAt K TX.C_Store H s pol t L kvs (hs ++ [h]) n ∧
  ((∃ (t0 : T) (m : Nat) (L0 : List (List (Key × V))) (kv0 : List (Key × V)), h = .non ∧ m ≤ t0.runs ∧ t = t0.push m ∧ L = L0 ++ [kv0] ∧ ∀ H' s', s'.p = s.p → (∀ c, c ∈ s'.all → c ∈ s.all) → ButL s.own H H' → StAt K TX.C_Store H' s' pol t0 L0 kv0 hs n → Q .non H') ∨
   (∃ (b c : Addr) (z : Str) (old : Option V), h = .ref b ∧ SqT K H b [.str z, .ref c] ∧ SqT K H c old.toList ∧ (valV kvs (.inr z)).isSome = true ∧ kvs.length ≤ 50000 ∧ ∀ H', ButL s.own H H' → StAt K TX.C_Store H' s pol t L (match old with | none => dropK kvs (.inr z) | some v => putK kvs (.inr z) v) hs n → Q .non H'))
theorem ok_Store_undo (TX : Tx K mg) : FnOk P w K mg base CX0 1 TX.a_Store_undo TX.fd_Store_undo ["self"] (sp_Store_undo TX) := by
  refine TX.f_Store_undo.ok sc_Store_undo (fun vs H Q E h => ?_) (fun cdv A outer s H vs Q E hr h => ?_)
  · obtain ⟨s, pol, t, L, kvs, hs, h, n, rfl, _⟩ := h; rfl
  · obtain ⟨s, pol, t, L, kvs, hs, h, n, rfl, a, hc⟩ := h
    refine ⟨_, (pss_cons (ps_if (pt_not (pt_truth (pe_fld (pv 0) rfl) (by intro _; rfl)))
        (pss_one ps_never)
        pss_nil)
      (pss_cons (ps_set (i := 1) sc_Store_undo.nd rfl (.inl rfl) (pe_bm0 PySem.F.plainAttrs_list PySem.F.slot_list_pop PySem.F.type_list_pop mt_pop (pe_fld (pv 0) rfl)))
      (pss_one (ps_if (pt_cmpR op_isN (pv 1) pe_non (nomark _))
        (pss_cons (ps_expr (pe_bm0 PySem.F.plainAttrs_list PySem.F.slot_list_pop PySem.F.type_list_pop mt_pop (pe_fld (pv 0) rfl)))
        (pss_one (ps_fld (pv 0) (pe_bm0 PySem.F.plainAttrs_list PySem.F.slot_list_pop PySem.F.type_list_pop mt_pop (pe_fld (pv 0) rfl)) rfl)))
        (pss_cons (ps_asg (pv 1) (pg_tup rfl (pgs_cons (pg_name (i := 2) sc_Store_undo.nd rfl (.inl rfl)) (pgs_cons (pg_name (i := 3) sc_Store_undo.nd rfl (.inl rfl)) pgs_nil))))
        (pss_one (ps_if (pt_truth (pv 3) (by intro _; rfl))
          (pss_one (ps_dput (hu_of hr) (pe_fld (pv 0) rfl) (pv 2) (pe_ix (k_ixT (K := K) rfl) (pv 3) pe_int (fun _ _ => rfl)) (by rfl)))
          (pss_one (ps_ddel (pe_fld (pv 0) rfl) (pv 2)))))))))), ?_⟩
    obtain ⟨dx, r, e1, e2⟩ := a.ex
    obtain ⟨npm, npb, nph, npd, nmd, nbd, nhd⟩ := a.psz
    refine ⟨_, rfl, f_history a TX.cl_Store TX.na_Store_history ⟨!(hs ++ [h]).isEmpty, .inl ⟨_, .inl (.inl a.hh), rfl⟩, ?_⟩⟩
    refine iteB0 (by simp) ?_
    refine ⟨_, rfl, f_history a TX.cl_Store TX.na_Store_history ⟨.inl ⟨rfl, _, .inl (.inl a.hh)⟩, s.h, _, h, rfl, rfl, a.hh, by simp, ?_⟩⟩
    rw [show (hs ++ [h]).dropLast = hs by simp]
    have g1 : (upd H s.h (.lst hs)) s.p = some (.ins TX.C_Store dx (fldS r s.m s.b s.d s.h n)) := by rw [upd_ne nph]; exact e1
    have gm1 : (upd H s.h (.lst hs)) s.m = some (.lst (vi t.sch)) := by rw [upd_ne a.mh]; exact a.hm
    have gb1 : (upd H s.h (.lst hs)) s.b = some (.lst (s.ds.map V.ref)) := by rw [upd_ne a.bh]; exact a.hb
    have gd1 : (upd H s.h (.lst hs)) s.d = some (.dK kvs) := by rw [upd_ne nhd.symm]; exact a.hd
    have gh1 := upd_same (H := H) (a := s.h) (o := .lst hs)
    have B1 : ButL s.own H (upd H s.h (.lst hs)) := .upd (by simp [St.own])
    have C1 : ∀ c, c ≠ s.h → (upd H s.h (.lst hs)) c = H c := fun c n => upd_ne n
    generalize upd H s.h _ = G1 at g1 gm1 gb1 gd1 gh1 B1 C1 ⊢
    rcases hc with ⟨t0, m, L0, kv0, rfl, hm, rfl, rfl, q⟩ | ⟨b, c, z, old, rfl, hb, hcc, hz, hkl, q⟩
    · refine ⟨_, rfl, rfl, _, rfl, decT rfl ?_⟩
      obtain ⟨ds0, d0, hds⟩ : ∃ ds0 d0, s.ds = ds0 ++ [d0] := by
        rcases snocC s.ds with h | h
        · have := a.l1; rw [h] at this; simp at this
        · exact h
      have el1 := a.l1
      rw [hds, List.length_append, List.length_append] at el1
      refine ⟨_, rfl, s.p, TX.C_Store, dx, _, _, rfl, g1, TX.cl_Store, TX.na_Store_merges, lk_merges .., .inl ⟨rfl, _, .inl (.inl gm1)⟩, s.m, vi t0.sch ++ [V.int (m : Int)], .int (m : Int), rfl, rfl, by rw [gm1, T.push_sch _ _ hm, vi_app]; rfl, by simp, ?_⟩
      rw [show (vi t0.sch ++ [V.int (m : Int)]).dropLast = vi t0.sch by simp]
      have g2 : (upd G1 s.m (.lst (vi t0.sch))) s.p = some (.ins TX.C_Store dx (fldS r s.m s.b s.d s.h n)) := by rw [upd_ne npm]; exact g1
      have gb2 : (upd G1 s.m (.lst (vi t0.sch))) s.b = some (.lst (s.ds.map V.ref)) := by rw [upd_ne a.mb.symm]; exact gb1
      have gh2 : (upd G1 s.m (.lst (vi t0.sch))) s.h = some (.lst hs) := by rw [upd_ne a.mh.symm]; exact gh1
      have gm2 := upd_same (H := G1) (a := s.m) (o := .lst (vi t0.sch))
      have B2 := B1.trans (ButL.upd (S := s.own) (H := G1) (a := s.m) (o := .lst (vi t0.sch)) (by simp [St.own]))
      have C2 : ∀ c, c ≠ s.h → c ≠ s.m → (upd G1 s.m (.lst (vi t0.sch))) c = H c := fun c n1 n2 => by rw [upd_ne n2, C1 c n1]
      generalize upd G1 s.m _ = G2 at g2 gb2 gh2 gm2 B2 C2 ⊢
      refine ⟨_, rfl, s.p, TX.C_Store, dx, _, _, rfl, g2, TX.cl_Store, TX.na_Store_batches, lk_batches .., .inl ⟨rfl, _, .inl (.inl gb2)⟩, s.b, ds0.map V.ref ++ [V.ref d0], .ref d0, rfl, rfl, by rw [gb2, hds, List.map_append]; rfl, by simp, ?_⟩
      rw [show (ds0.map V.ref ++ [V.ref d0]).dropLast = ds0.map V.ref by simp]
      have g3 : (upd G2 s.b (.lst (ds0.map V.ref))) s.p = some (.ins TX.C_Store dx (fldS r s.m s.b s.d s.h n)) := by rw [upd_ne npb]; exact g2
      have gm3 : (upd G2 s.b (.lst (ds0.map V.ref))) s.m = some (.lst (vi t0.sch)) := by rw [upd_ne a.mb]; exact gm2
      have gh3 : (upd G2 s.b (.lst (ds0.map V.ref))) s.h = some (.lst hs) := by rw [upd_ne a.bh.symm]; exact gh2
      have gb3 := upd_same (H := G2) (a := s.b) (o := .lst (ds0.map V.ref))
      have B3 := B2.trans (ButL.upd (S := s.own) (H := G2) (a := s.b) (o := .lst (ds0.map V.ref)) (by simp [St.own]))
      have C3 : ∀ c, c ≠ s.h → c ≠ s.m → c ≠ s.b → (upd G2 s.b (.lst (ds0.map V.ref))) c = H c := fun c n1 n2 n3 => by rw [upd_ne n3, C2 c n1 n2]
      generalize upd G2 s.b _ = G3 at g3 gm3 gh3 gb3 B3 C3 ⊢
      refine ⟨_, rfl, s.p, TX.C_Store, dx, _, rfl, g3, TX.cl_Store, TX.na_Store_buffer, by rw [fld_len]; decide, ?_⟩
      rw [fld_buffer]
      have B4 := B3.trans (ButL.upd (S := s.own) (H := G3) (a := s.p) (o := .ins TX.C_Store dx (fldS r s.m s.b d0 s.h n)) (by simp [St.own]))
      have C4 : ∀ c, c ≠ s.h → c ≠ s.m → c ≠ s.b → c ≠ s.p → (upd G3 s.p (.ins TX.C_Store dx (fldS r s.m s.b d0 s.h n))) c = H c := fun c n1 n2 n3 n4 => by rw [upd_ne n4, C3 c n1 n2 n3]
      have dd : ∀ (i : Nat) (di : Addr), s.ds[i]? = some di → ∃ kv : List (Key × V), (L0 ++ [kv0])[i]? = some kv ∧ (upd G3 s.p (.ins TX.C_Store dx (fldS r s.m s.b d0 s.h n))) di = some (.dK kv) := fun i di hi => by
        obtain ⟨kv, h1, h2⟩ := a.bat i di hi
        obtain ⟨n1, n2, n3, n4, n5⟩ := a.dsn (List.mem_of_getElem? hi)
        exact ⟨kv, h1, by rw [C4 di n4 n2 n3 n1]; exact h2⟩
      have hd0 : s.ds[ds0.length]? = some d0 := by rw [hds]; simp
      have hd0n := a.dsn (List.mem_of_getElem? hd0)
      have kp := a.keep B4
      refine q _ ⟨s.p, s.m, s.b, s.h, d0, ds0⟩ rfl (fun c hc => ?_) B4 ⟨⟨dx, r, upd_same, kp _ _ e2⟩, by show upd G3 s.p _ s.m = _; rw [upd_ne npm.symm]; exact gm3, by show upd G3 s.p _ s.b = _; rw [upd_ne npb.symm]; exact gb3, by show upd G3 s.p _ s.h = _; rw [upd_ne nph.symm]; exact gh3, ?_, a.mb, a.mh, a.bh, ?_, ?_, ?_, fun i di hi => ?_⟩
      · simp only [St.all, St.own, List.mem_append, List.mem_cons, List.not_mem_nil, or_false] at hc ⊢
        rw [hds]
        rcases hc with (k | k | k | k | k) | k
        · exact .inl (.inl k)
        · exact .inl (.inr (.inl k))
        · exact .inl (.inr (.inr (.inl k)))
        · exact .inl (.inr (.inr (.inr (.inl k))))
        · exact .inr (by rw [k]; simp)
        · exact .inr (List.mem_append_left _ k)
      · obtain ⟨kv, h1, h2⟩ := dd _ _ hd0
        have e : kv0 = kv := by
          rw [show ds0.length = L0.length by simpa using el1, List.getElem?_append_right (Nat.le_refl _)] at h1
          simpa using h1
        rw [e]; exact h2
      · show (d0 :: ds0).Nodup
        have h1 := (List.nodup_cons.mp a.nd).2
        rw [hds] at h1
        exact (List.perm_append_singleton d0 ds0).nodup_iff.mp h1
      · show ds0.length = L0.length
        simpa using el1
      · have := a.l2
        rw [List.length_append, T.push_size _ _ hm] at this
        simpa using this
      · have hi' : ds0[i]? = some di := hi
        have hil := (List.getElem?_eq_some_iff.mp hi').1
        obtain ⟨kv, h1, h2⟩ := dd i di (by rw [hds, List.getElem?_append_left hil]; exact hi')
        have el : ds0.length = L0.length := by simpa using el1
        exact ⟨kv, by rw [List.getElem?_append_left (by omega)] at h1; exact h1, h2⟩
    · refine ⟨_, rfl, rfl, _, rfl, decF (fun e => nomatch e) ?_⟩
      have k1 : Keep K H G1 := a.keep B1
      refine ⟨_, rfl, b, _, rfl, k1 _ _ hb, rfl, _, _, rfl, _, _, rfl, rfl, ?_⟩
      have hc1 := k1 _ _ hcc
      cases old with
      | none =>
        refine ⟨_, rfl, false, .inr (.inl ⟨_, hc1, rfl⟩), iteF ?_⟩
        refine ⟨_, rfl, s.p, TX.C_Store, dx, _, _, rfl, g1, TX.cl_Store, TX.na_Store_buffer, lk_buffer .., _, rfl, s.d, kvs, .inr z, rfl, gd1, rfl, hz, ?_⟩
        have B2 := B1.trans (ButL.upd (S := s.own) (H := G1) (a := s.d) (o := .dK (dropK kvs (.inr z))) (by simp [St.own]))
        have kp := a.keep B2
        refine q _ B2 ⟨⟨dx, r, by rw [upd_ne npd]; exact g1, kp _ _ e2⟩, by rw [upd_ne nmd]; exact gm1, by rw [upd_ne nbd]; exact gb1, by rw [upd_ne nhd]; exact gh1, upd_same, a.mb, a.mh, a.bh, a.nd, a.l1, a.l2, fun i di hi => ?_⟩
        obtain ⟨kv, h1, h2⟩ := a.bat i di hi
        obtain ⟨n1, n2, n3, n4, n5⟩ := a.dsn (List.mem_of_getElem? hi)
        exact ⟨kv, h1, by rw [upd_ne n5, C1 di n4]; exact h2⟩
      | some v =>
        refine ⟨_, rfl, true, .inr (.inl ⟨_, hc1, rfl⟩), iteT ?_⟩
        refine ⟨_, rfl, c, _, 0, _, rfl, rfl, hc1, rfl, _, rfl, s.p, TX.C_Store, dx, _, _, rfl, g1, TX.cl_Store, TX.na_Store_buffer, lk_buffer .., _, rfl, s.d, _, rfl, DPut.k (k := .inr z) gd1 (sz61 (by omega)), ?_⟩
        have B2 := B1.trans (ButL.upd (S := s.own) (H := G1) (a := s.d) (o := .dK (putK kvs (.inr z) v)) (by simp [St.own]))
        have kp := a.keep B2
        refine q _ B2 ⟨⟨dx, r, by rw [upd_ne npd]; exact g1, kp _ _ e2⟩, by rw [upd_ne nmd]; exact gm1, by rw [upd_ne nbd]; exact gb1, by rw [upd_ne nhd]; exact gh1, upd_same, a.mb, a.mh, a.bh, a.nd, a.l1, a.l2, fun i di hi => ?_⟩
        obtain ⟨kv, h1, h2⟩ := a.bat i di hi
        obtain ⟨n1, n2, n3, n4, n5⟩ := a.dsn (List.mem_of_getElem? hi)
        exact ⟨kv, h1, by rw [upd_ne n5, C1 di n4]; exact h2⟩
end
/-! ### a plain log beside a store -/
/-- one state of the log: where its parts stand, and what they hold -/
structure Lev where
  tp : Addr
  l : Addr
  d : Addr
  f : Addr
  ds : List Addr
  t : T
  L : List (List (Key × V))
  kvs : List (Key × V)
def Lev.mut (x : Lev) : List Addr := [x.l, x.d, x.f]
def Lev.foot (x : Lev) : List Addr := x.l :: x.d :: x.f :: x.ds
def feet : List Lev → List Addr
  | [] => []
  | x :: r => x.foot ++ feet r
structure Lev.At (H : Hp) (x : Lev) : Prop where
  hl : H x.l = some (.lst (x.ds.map V.ref))
  hd : H x.d = some (.dK x.kvs)
  hf : H x.f = some (.lst (vi x.t.sch))
  lf : x.l ≠ x.f
  nd : x.d ∉ x.ds
  len : x.ds.length = x.L.length
  bat : ∀ (i : Nat) (di : Addr), x.ds[i]? = some di → ∃ kv : List (Key × V), x.L[i]? = some kv ∧ H di = some (.dK kv)
theorem Lev.At.keepL {H H' : Hp} {S : List Addr} {x : Lev} (a : x.At H) (b : ButL S H H') (h : ∀ c, c ∈ x.foot → c ∉ S) : x.At H' :=
  ⟨b _ _ (h _ (by simp [Lev.foot])) a.hl, b _ _ (h _ (by simp [Lev.foot])) a.hd, b _ _ (h _ (by simp [Lev.foot])) a.hf, a.lf, a.nd, a.len, fun i di e => by
    obtain ⟨kv, h1, h2⟩ := a.bat i di e
    exact ⟨kv, h1, b _ _ (h _ (by simp [Lev.foot, List.mem_of_getElem? e])) h2⟩⟩
theorem Lev.At.dsn {H : Hp} {x : Lev} (a : x.At H) {c : Addr} (h : c ∈ x.ds) : ∃ kv : List (Key × V), H c = some (.dK kv) := by
  obtain ⟨i, hi⟩ := List.mem_iff_getElem?.mp h
  obtain ⟨kv, _, h2⟩ := a.bat i c hi
  exact ⟨kv, h2⟩
theorem Lev.At.lds {H : Hp} {x : Lev} (a : x.At H) : x.l ∉ x.ds := fun h => by
  obtain ⟨kv, e⟩ := a.dsn h
  rw [a.hl] at e; cases e
theorem Lev.At.fds {H : Hp} {x : Lev} (a : x.At H) : x.f ∉ x.ds := fun h => by
  obtain ⟨kv, e⟩ := a.dsn h
  rw [a.hf] at e; cases e
theorem Lev.At.ld {H : Hp} {x : Lev} (a : x.At H) : x.l ≠ x.d := fun e => by
  have := a.hd; rw [← e, a.hl] at this; cases this
theorem Lev.At.fd {H : Hp} {x : Lev} (a : x.At H) : x.f ≠ x.d := fun e => by
  have := a.hd; rw [← e, a.hf] at this; cases this
theorem Lev.At.live {H : Hp} {x : Lev} (a : x.At H) {c : Addr} (h : c ∈ x.foot) : H c ≠ none := fun e => by
  simp only [Lev.foot, List.mem_cons] at h
  rcases h with rfl | rfl | rfl | h
  · rw [a.hl] at e; cases e
  · rw [a.hd] at e; cases e
  · rw [a.hf] at e; cases e
  · obtain ⟨kv, e2⟩ := a.dsn h
    rw [e2] at e; cases e
def Chain (H : Hp) : List Lev → Prop
  | [] => True
  | x :: r => x.At H ∧ (∀ c, c ∈ x.mut → c ∉ feet r) ∧ Chain H r
theorem Chain.keepL {H H' : Hp} {S : List Addr} : ∀ {xs : List Lev}, Chain H xs → ButL S H H' → (∀ c, c ∈ feet xs → c ∉ S) → Chain H' xs
  | [], _, _, _ => trivial
  | x :: r, ⟨h1, h2, h3⟩, b, h => ⟨h1.keepL b fun c hc => h c (List.mem_append_left _ hc), h2, Chain.keepL h3 b fun c hc => h c (List.mem_append_right _ hc)⟩
theorem Chain.live {H : Hp} : ∀ {xs : List Lev}, Chain H xs → ∀ {c : Addr}, c ∈ feet xs → H c ≠ none
  | [], _, _, h => nomatch h
  | x :: r, ⟨h1, _, h3⟩, c, h => (List.mem_append.mp h).elim h1.live h3.live
def noteK (x : Lev) (p : Addr) : List (Key × V) := [(.inr "log", .ref x.l), (.inr "buffer", .ref x.d), (.inr "folds", .ref x.f), (.inr "past", .ref p)]
structure Log (K : PySem.W.Frag) (H : Hp) (N p : Addr) (x : Lev) (rs : List Lev) : Prop where
  hn : H N = some (.dK (noteK x p))
  hp : H p = some (.lst (rs.map fun y => V.ref y.tp).reverse)
  ch : Chain H (x :: rs)
  tps : ∀ y, y ∈ rs → SqT K H y.tp [.ref y.l, .ref y.d, .ref y.f]
  nN : N ∉ feet (x :: rs)
  nP : p ∉ feet (x :: rs)
def lfoot (N p : Addr) (x : Lev) (rs : List Lev) : List Addr := N :: p :: feet (x :: rs)
section
variable {K : PySem.W.Frag} {H H' : Hp} {N p : Addr} {x : Lev} {rs : List Lev}
theorem Log.np (g : Log K H N p x rs) : N ≠ p := fun e => by
  have := g.hp; rw [← e, g.hn] at this; cases this
theorem Log.at_ (g : Log K H N p x rs) : x.At H := g.ch.1
theorem Log.keepL {S : List Addr} (g : Log K H N p x rs) (b : ButL S H H') (h : ∀ c, c ∈ lfoot N p x rs → c ∉ S) (kp : Keep K H H') : Log K H' N p x rs :=
  ⟨b _ _ (h _ (by simp [lfoot])) g.hn, b _ _ (h _ (by simp [lfoot])) g.hp, g.ch.keepL b fun c hc => h c (by simp only [lfoot, List.mem_cons]; exact .inr (.inr hc)), fun y hy => kp _ _ (g.tps y hy), g.nN, g.nP⟩
theorem Log.same (g : Log K H N p x rs) (b : Same H H') : Log K H' N p x rs := g.keepL (S := []) (.of b) (fun _ _ h => nomatch h) (Keep.of b)
theorem Log.live (g : Log K H N p x rs) {c : Addr} (h : c ∈ lfoot N p x rs) : H c ≠ none := fun e => by
  rcases List.mem_cons.mp h with rfl | h
  · rw [g.hn] at e; cases e
  · rcases List.mem_cons.mp h with rfl | h
    · rw [g.hp] at e; cases e
    · exact g.ch.live h e
/-- changes of the log's own parts leave tuples as they were -/
theorem Log.keep (g : Log K H N p x rs) (b : ButL (N :: p :: x.mut) H H') : Keep K H H' := fun c xs h => by
  have key : ∀ u, H c = some u → (∀ l, u ≠ .lst l) → (∀ l, u ≠ .dK l) → H' c = some u := fun u hu n2 n3 => b c u (fun hc => by
    simp only [Lev.mut, List.mem_cons, List.not_mem_nil, or_false] at hc
    rcases hc with rfl | rfl | rfl | rfl | rfl
    · rw [g.hn] at hu; exact n3 _ (Option.some.inj hu).symm
    · rw [g.hp] at hu; exact n2 _ (Option.some.inj hu).symm
    · rw [g.at_.hl] at hu; exact n2 _ (Option.some.inj hu).symm
    · rw [g.at_.hd] at hu; exact n3 _ (Option.some.inj hu).symm
    · rw [g.at_.hf] at hu; exact n2 _ (Option.some.inj hu).symm) hu
  rcases h with (h | ⟨o, h⟩) | h
  · exact .inl (.inl (key _ h (fun _ z => nomatch z) (fun _ z => nomatch z)))
  · exact .inl (.inr ⟨o, key _ h (fun _ z => nomatch z) (fun _ z => nomatch z)⟩)
  · exact .inr h
theorem Log.nNm (g : Log K H N p x rs) : N ∉ x.mut := fun h => g.nN (by
  simp only [Lev.mut, List.mem_cons, List.not_mem_nil, or_false] at h
  simp only [feet, Lev.foot, List.mem_append, List.mem_cons]
  rcases h with h | h | h
  · exact .inl (.inl h)
  · exact .inl (.inr (.inl h))
  · exact .inl (.inr (.inr (.inl h))))
theorem Log.nPm (g : Log K H N p x rs) : p ∉ x.mut := fun h => g.nP (by
  simp only [Lev.mut, List.mem_cons, List.not_mem_nil, or_false] at h
  simp only [feet, Lev.foot, List.mem_append, List.mem_cons]
  rcases h with h | h | h
  · exact .inl (.inl h)
  · exact .inl (.inr (.inl h))
  · exact .inl (.inr (.inr (.inl h))))
/-- an entry written to the buffer -/
theorem Log.put (g : Log K H N p x rs) (kvs : List (Key × V)) : Log K (upd H x.d (.dK kvs)) N p { x with kvs := kvs } rs := by
  have b : ButL [x.d] H (upd H x.d (.dK kvs)) := .upd (by simp)
  have hx := g.ch
  refine ⟨by rw [upd_ne (fun e => g.nNm (by simp [Lev.mut, e]))]; exact g.hn, by rw [upd_ne (fun e => g.nPm (by simp [Lev.mut, e]))]; exact g.hp, ⟨⟨?_, upd_same, ?_, g.at_.lf, g.at_.nd, g.at_.len, fun i di e => ?_⟩, hx.2.1, hx.2.2.keepL b fun c hc h => ?_⟩,
    fun y hy => g.keep (b.mono fun c hc => by rw [List.mem_singleton.mp hc]; simp [Lev.mut]) _ _ (g.tps y hy), g.nN, g.nP⟩
  · show upd H x.d _ x.l = _
    rw [upd_ne g.at_.ld]; exact g.at_.hl
  · show upd H x.d _ x.f = _
    rw [upd_ne g.at_.fd]; exact g.at_.hf
  · obtain ⟨kv, h1, h2⟩ := g.at_.bat i di e
    exact ⟨kv, h1, by rw [upd_ne (fun z => g.at_.nd (by rw [← z]; exact List.mem_of_getElem? e))]; exact h2⟩
  · rw [List.mem_singleton.mp h] at hc
    exact hx.2.1 x.d (by simp [Lev.mut]) hc
end
theorem nk_12 : ¬ (("log" : Str) = "buffer") := by decide +kernel
theorem nk_13 : ¬ (("log" : Str) = "folds") := by decide +kernel
theorem nk_14 : ¬ (("log" : Str) = "past") := by decide +kernel
theorem nk_23 : ¬ (("buffer" : Str) = "folds") := by decide +kernel
theorem nk_24 : ¬ (("buffer" : Str) = "past") := by decide +kernel
theorem nk_34 : ¬ (("folds" : Str) = "past") := by decide +kernel
theorem nk_log (x : Lev) (p : Addr) : valV (noteK x p) (.inr "log") = some (.ref x.l) := by
  simp [valV, noteK]
theorem nk_buffer (x : Lev) (p : Addr) : valV (noteK x p) (.inr "buffer") = some (.ref x.d) := by
  simp [valV, noteK, nk_12]
theorem nk_folds (x : Lev) (p : Addr) : valV (noteK x p) (.inr "folds") = some (.ref x.f) := by
  simp [valV, noteK, nk_13, nk_23]
theorem nk_past (x : Lev) (p : Addr) : valV (noteK x p) (.inr "past") = some (.ref p) := by
  simp [valV, noteK, nk_14, nk_24, nk_34]
theorem nk_plog (x : Lev) (p l : Addr) : putK (noteK x p) (.inr "log") (.ref l) = noteK { x with l := l } p := by
  simp [putK, noteK, nk_12, nk_13, nk_14, Ne.symm nk_12, Ne.symm nk_13, Ne.symm nk_14]
theorem nk_pbuffer (x : Lev) (p d : Addr) : putK (noteK x p) (.inr "buffer") (.ref d) = noteK { x with d := d } p := by
  simp [putK, noteK, nk_12, nk_23, nk_24, Ne.symm nk_23, Ne.symm nk_24]
theorem nk_pfolds (x : Lev) (p f : Addr) : putK (noteK x p) (.inr "folds") (.ref f) = noteK { x with f := f } p := by
  simp [putK, noteK, nk_13, nk_23, nk_34, Ne.symm nk_34]
section
variable {K : PySem.W.Frag} {H : Hp} {N p : Addr} {x : Lev} {rs : List Lev}
theorem g_log (h : H N = some (.dK (noteK x p))) : DGet H N (.str "log") (some (.ref x.l)) := by
  have := DGet.k (k := .inr "log") h; rw [nk_log] at this; exact this
theorem g_buffer (h : H N = some (.dK (noteK x p))) : DGet H N (.str "buffer") (some (.ref x.d)) := by
  have := DGet.k (k := .inr "buffer") h; rw [nk_buffer] at this; exact this
theorem g_folds (h : H N = some (.dK (noteK x p))) : DGet H N (.str "folds") (some (.ref x.f)) := by
  have := DGet.k (k := .inr "folds") h; rw [nk_folds] at this; exact this
theorem g_past (h : H N = some (.dK (noteK x p))) : DGet H N (.str "past") (some (.ref p)) := by
  have := DGet.k (k := .inr "past") h; rw [nk_past] at this; exact this
end
section
variable {P : Program} {w : World} {K : PySem.W.Frag} {mg : Str → Option Value} {base : Heap}
end
section
variable {K : PySem.W.Frag} {H : Hp} {N p : Addr} {x : Lev} {rs : List Lev}
theorem mut_foot {x : Lev} {rs : List Lev} {c : Addr} (h : c ∈ x.mut) : c ∈ feet (x :: rs) := by
  simp only [Lev.mut, List.mem_cons, List.not_mem_nil, or_false] at h
  rcases h with h | h | h <;> simp [feet, Lev.foot, h]
/-- a flush: the buffer goes to the log, a merge to the folds -/
theorem Log.flush (g : Log K H N p x rs) {d' : Addr} {m : Nat} (hm : m ≤ x.t.runs) (hd : (upd H x.l (.lst (x.ds.map V.ref ++ [V.ref x.d]))) d' = none) :
    Log K (upd (upd (upd (upd H x.l (.lst (x.ds.map V.ref ++ [V.ref x.d]))) d' (.dK [])) N (.dK (noteK { x with d := d' } p))) x.f (.lst (vi x.t.sch ++ [V.int (m : Int)]))) N p ⟨x.tp, x.l, d', x.f, x.ds ++ [x.d], x.t.push m, x.L ++ [x.kvs], []⟩ rs ∧
    ButL (N :: p :: x.mut) H (upd (upd (upd (upd H x.l (.lst (x.ds.map V.ref ++ [V.ref x.d]))) d' (.dK [])) N (.dK (noteK { x with d := d' } p))) x.f (.lst (vi x.t.sch ++ [V.int (m : Int)]))) ∧
    (∀ c, c ∈ lfoot N p ⟨x.tp, x.l, d', x.f, x.ds ++ [x.d], x.t.push m, x.L ++ [x.kvs], []⟩ rs → c ∈ lfoot N p x rs ∨ H c = none) := by
  have ax := g.at_
  have nld : d' ≠ x.l := fun e => by rw [e, upd_same] at hd; cases hd
  have hdH : H d' = none := by rw [upd_ne nld] at hd; exact hd
  have nl : ∀ {c : Addr}, c ∈ lfoot N p x rs → c ≠ d' := fun h e => g.live h (by rw [e]; exact hdH)
  have mf : ∀ {c : Addr}, c ∈ feet (x :: rs) → c ∈ lfoot N p x rs := fun h => by simp only [lfoot, List.mem_cons]; exact .inr (.inr h)
  have Nl : N ∈ lfoot N p x rs := by simp [lfoot]
  have pl : p ∈ lfoot N p x rs := by simp [lfoot]
  have ml : x.l ∈ x.mut := by simp [Lev.mut]
  have md : x.d ∈ x.mut := by simp [Lev.mut]
  have mff : x.f ∈ x.mut := by simp [Lev.mut]
  have Nnl : N ≠ x.l := fun e => g.nNm (by rw [e]; exact ml)
  have Nnd : N ≠ x.d := fun e => g.nNm (by rw [e]; exact md)
  have Nnf : N ≠ x.f := fun e => g.nNm (by rw [e]; exact mff)
  have Pnl : p ≠ x.l := fun e => g.nPm (by rw [e]; exact ml)
  have Pnf : p ≠ x.f := fun e => g.nPm (by rw [e]; exact mff)
  have hdx : ∀ {c : Addr}, c ∈ x.ds → c ∈ feet (x :: rs) := fun h => by simp [feet, Lev.foot, h]
  have hrx : ∀ {c : Addr}, c ∈ feet rs → c ∈ feet (x :: rs) := fun h => List.mem_append_right _ h
  have old : ∀ {c : Addr} {o : HO}, c ≠ x.l → c ≠ N → c ≠ x.f → H c = some o → (upd (upd (upd (upd H x.l (.lst (x.ds.map V.ref ++ [V.ref x.d]))) d' (.dK [])) N (.dK (noteK { x with d := d' } p))) x.f (.lst (vi x.t.sch ++ [V.int (m : Int)]))) c = some o := fun n1 n2 n3 e => by
    rw [upd_ne n3, upd_ne n2, upd_ne (fun z => by rw [z, hdH] at e; cases e), upd_ne n1]; exact e
  have B : ButL (N :: p :: x.mut) H (upd (upd (upd (upd H x.l (.lst (x.ds.map V.ref ++ [V.ref x.d]))) d' (.dK [])) N (.dK (noteK { x with d := d' } p))) x.f (.lst (vi x.t.sch ++ [V.int (m : Int)]))) := fun c o n e => by
    simp only [Lev.mut, List.mem_cons, List.not_mem_nil, or_false, not_or] at n
    exact old n.2.2.1 n.1 n.2.2.2.2 e
  refine ⟨⟨?_, ?_, ⟨⟨?_, ?_, ?_, ax.lf, ?_, by simp [ax.len], ?_⟩, ?_, ?_⟩, fun y hy => g.keep B _ _ (g.tps y hy), ?_, ?_⟩, B, ?_⟩
  · rw [upd_ne Nnf, upd_same]; rfl
  · exact old Pnl (Ne.symm g.np) Pnf g.hp
  · show (upd (upd (upd (upd H x.l _) d' _) N _) x.f _) x.l = _
    rw [upd_ne ax.lf, upd_ne (Ne.symm Nnl), upd_ne (Ne.symm nld), upd_same]; simp
  · show (upd (upd (upd (upd H x.l _) d' _) N _) x.f _) d' = _
    rw [upd_ne (Ne.symm (nl (mf (mut_foot mff)))), upd_ne (Ne.symm (nl Nl)), upd_same]
  · show (upd (upd (upd (upd H x.l _) d' _) N _) x.f _) x.f = _
    rw [upd_same, T.push_sch _ m hm, vi_app]; rfl
  · show d' ∉ x.ds ++ [x.d]
    intro h
    rcases List.mem_append.mp h with h | h
    · exact nl (mf (hdx h)) rfl
    · exact nl (mf (mut_foot md)) (List.mem_singleton.mp h).symm
  · intro i di e
    have e' : (x.ds ++ [x.d])[i]? = some di := e
    by_cases hi : i < x.ds.length
    · rw [List.getElem?_append_left hi] at e'
      obtain ⟨kv, h1, h2⟩ := ax.bat i di e'
      have hm' := List.mem_of_getElem? e'
      exact ⟨kv, by show (x.L ++ [x.kvs])[i]? = _; rw [List.getElem?_append_left (by rw [← ax.len]; exact hi)]; exact h1, old (fun z => ax.lds (by rw [← z]; exact hm')) (fun z => g.nN (by rw [← z]; exact hdx hm')) (fun z => ax.fds (by rw [← z]; exact hm')) h2⟩
    · rw [List.getElem?_append_right (by omega)] at e'
      have e0 : i - x.ds.length = 0 := by
        have := (List.getElem?_eq_some_iff.mp e').1
        simp at this; omega
      rw [e0] at e'
      cases e'
      exact ⟨x.kvs, by show (x.L ++ [x.kvs])[i]? = _; rw [List.getElem?_append_right (by rw [← ax.len]; omega), ← ax.len, e0]; rfl, old (Ne.symm ax.ld) (Ne.symm Nnd) (Ne.symm ax.fd) ax.hd⟩
  · intro c hc h
    simp only [Lev.mut, List.mem_cons, List.not_mem_nil, or_false] at hc
    rcases hc with rfl | rfl | rfl
    · exact g.ch.2.1 _ ml h
    · exact nl (mf (hrx h)) rfl
    · exact g.ch.2.1 _ mff h
  · refine g.ch.2.2.keepL B fun c hc h => ?_
    simp only [List.mem_cons] at h
    rcases h with rfl | rfl | h
    · exact g.nN (hrx hc)
    · exact g.nP (hrx hc)
    · exact g.ch.2.1 c h hc
  · intro h
    simp only [feet, Lev.foot, List.mem_append, List.mem_cons, List.not_mem_nil, or_false] at h
    rcases h with (h | h | h | h | h) | h
    · exact Nnl h
    · exact nl Nl h
    · exact Nnf h
    · exact g.nN (hdx h)
    · exact Nnd h
    · exact g.nN (hrx h)
  · intro h
    simp only [feet, Lev.foot, List.mem_append, List.mem_cons, List.not_mem_nil, or_false] at h
    rcases h with (h | h | h | h | h) | h
    · exact Pnl h
    · exact nl pl h
    · exact Pnf h
    · exact g.nP (hdx h)
    · exact g.nPm (by rw [h]; exact md)
    · exact g.nP (hrx h)
  · intro c h
    simp only [lfoot, feet, Lev.foot, List.mem_append, List.mem_cons, List.not_mem_nil, or_false] at h ⊢
    rcases h with h | h | (h | h | h | h | h) | h
    · exact .inl (.inl h)
    · exact .inl (.inr (.inl h))
    · exact .inl (.inr (.inr (.inl (.inl h))))
    · exact .inr (by rw [h]; exact hdH)
    · exact .inl (.inr (.inr (.inl (.inr (.inr (.inl h))))))
    · exact .inl (.inr (.inr (.inl (.inr (.inr (.inr h))))))
    · exact .inl (.inr (.inr (.inl (.inr (.inl h)))))
    · exact .inl (.inr (.inr (.inr h)))
/-- an undo: the state that was kept last -/
theorem Log.revert {y : Lev} (g : Log K H N p x (y :: rs)) :
    Log K (upd (upd (upd (upd H p (.lst (rs.map fun z => V.ref z.tp).reverse)) N (.dK (noteK { x with l := y.l } p))) N (.dK (noteK { x with l := y.l, d := y.d } p))) N (.dK (noteK y p))) N p y rs ∧
    ButL (N :: p :: x.mut) H (upd (upd (upd (upd H p (.lst (rs.map fun z => V.ref z.tp).reverse)) N (.dK (noteK { x with l := y.l } p))) N (.dK (noteK { x with l := y.l, d := y.d } p))) N (.dK (noteK y p))) := by
  have old : ∀ {c : Addr} {o : HO}, c ≠ p → c ≠ N → H c = some o → (upd (upd (upd (upd H p (.lst (rs.map fun z => V.ref z.tp).reverse)) N (.dK (noteK { x with l := y.l } p))) N (.dK (noteK { x with l := y.l, d := y.d } p))) N (.dK (noteK y p))) c = some o := fun n1 n2 e => by
    rw [upd_ne n2, upd_ne n2, upd_ne n2, upd_ne n1]; exact e
  have B : ButL (N :: p :: x.mut) H (upd (upd (upd (upd H p (.lst (rs.map fun z => V.ref z.tp).reverse)) N (.dK (noteK { x with l := y.l } p))) N (.dK (noteK { x with l := y.l, d := y.d } p))) N (.dK (noteK y p))) := fun c o n e => by
    simp only [List.mem_cons, not_or] at n
    exact old n.2.1 n.1 e
  have B2 : ButL [N, p] H (upd (upd (upd (upd H p (.lst (rs.map fun z => V.ref z.tp).reverse)) N (.dK (noteK { x with l := y.l } p))) N (.dK (noteK { x with l := y.l, d := y.d } p))) N (.dK (noteK y p))) := fun c o n e => by
    simp only [List.mem_cons, List.not_mem_nil, or_false, not_or] at n
    exact old n.2 n.1 e
  refine ⟨⟨upd_same, ?_, g.ch.2.2.keepL B2 fun c hc h => ?_, fun z hz => g.keep B _ _ (g.tps z (List.mem_cons_of_mem _ hz)), fun h => g.nN (List.mem_append_right _ h), fun h => g.nP (List.mem_append_right _ h)⟩, B⟩
  · rw [upd_ne (Ne.symm g.np), upd_ne (Ne.symm g.np), upd_ne (Ne.symm g.np), upd_same]
  · simp only [List.mem_cons, List.not_mem_nil, or_false] at h
    rcases h with rfl | rfl
    · exact g.nN (List.mem_append_right _ hc)
    · exact g.nP (List.mem_append_right _ hc)
end
/-- the names of the keys, and what stands under them -/
def names5 : List Str := ["a", "b", "c", "zz", "abcdefgh"]
def Val (v : V) : Prop := v = .non ∨ ∃ i : Int, v = .int i ∧ -(10 ^ 60) ≤ i ∧ i ≤ 10 ^ 60
structure Ek (kvs : List (Key × V)) : Prop where
  ks : ∀ q, q ∈ kvs → ∃ z, z ∈ names5 ∧ q.1 = .inr z
  nd : (kvs.map (·.1)).Nodup
  vs : ∀ q, q ∈ kvs → Val q.2
theorem Ek.nil : Ek [] := ⟨fun _ h => (nomatch h), List.nodup_nil, fun _ h => (nomatch h)⟩
theorem Ek.put {kvs : List (Key × V)} (h : Ek kvs) {z : Str} (hz : z ∈ names5) {v : V} (hv : Val v) : Ek (putK kvs (.inr z) v) := by
  unfold putK
  split
  · refine ⟨fun q hq => ?_, ?_, fun q hq => ?_⟩
    · obtain ⟨r, hr, rfl⟩ := List.mem_map.mp hq
      obtain ⟨y, hy, e⟩ := h.ks r hr
      refine ⟨y, hy, ?_⟩
      split <;> exact e
    · have e : (kvs.map fun kv => if kv.1 = .inr z then (kv.1, v) else kv).map (·.1) = kvs.map (·.1) := by
        rw [List.map_map]
        refine List.map_congr_left fun q _ => ?_
        show (if q.1 = _ then (q.1, v) else q).1 = q.1
        split <;> rfl
      rw [e]; exact h.nd
    · obtain ⟨r, hr, rfl⟩ := List.mem_map.mp hq
      split
      · exact hv
      · exact h.vs r hr
  · rename_i hn
    refine ⟨fun q hq => ?_, ?_, fun q hq => ?_⟩
    · rcases List.mem_append.mp hq with hq | hq
      · exact h.ks q hq
      · rw [List.mem_singleton.mp hq]; exact ⟨z, hz, rfl⟩
    · rw [List.map_append]
      refine List.nodup_append.mpr ⟨h.nd, by simp, fun a ha b hb => ?_⟩
      rw [List.mem_singleton.mp hb]
      intro e
      obtain ⟨q, hq, rfl⟩ := List.mem_map.mp ha
      exact hn (List.any_eq_true.mpr ⟨q, hq, decide_eq_true e⟩)
    · rcases List.mem_append.mp hq with hq | hq
      · exact h.vs q hq
      · rw [List.mem_singleton.mp hq]; exact hv
theorem nd_le5 {α : Type} [DecidableEq α] : ∀ (xs ys : List α), xs.Nodup → (∀ x, x ∈ xs → x ∈ ys) → xs.length ≤ ys.length
  | [], _, _, _ => Nat.zero_le _
  | x :: xs, ys, h, s => by
    obtain ⟨h1, h2⟩ := List.nodup_cons.mp h
    have hx := s x (List.mem_cons_self ..)
    have := nd_le5 xs (ys.erase x) h2 fun z hz => (List.mem_erase_of_ne (fun e => h1 (by rw [← e]; exact hz))).mpr (s z (List.mem_cons_of_mem _ hz))
    rw [List.length_erase_of_mem hx] at this
    have := List.length_pos_of_mem hx
    rw [List.length_cons]; omega
theorem Ek.len {kvs : List (Key × V)} (h : Ek kvs) : kvs.length ≤ 5 := by
  have := nd_le5 (kvs.map (·.1)) (names5.map fun z => (.inr z : Key)) h.nd fun x hx => by
    obtain ⟨q, hq, rfl⟩ := List.mem_map.mp hx
    obtain ⟨z, hz, e⟩ := h.ks q hq
    exact List.mem_map.mpr ⟨z, hz, e.symm⟩
  rw [List.length_map, List.length_map] at this
  exact this
theorem names5_ok {z : Str} (h : z ∈ names5) : keyOkS z = true := by
  simp only [names5, List.mem_cons, List.not_mem_nil, or_false] at h
  rcases h with rfl | rfl | rfl | rfl | rfl <;> decide +kernel
/-- what a write replaced, put back -/
theorem put_back {kvs : List (Key × V)} {k : Key} {v : V} (hn : (kvs.map (·.1)).Nodup) : (match valV kvs k with | none => dropK (putK kvs k v) k | some o => putK (putK kvs k v) k o) = kvs := by
  cases e : valV kvs k with
  | none =>
    have hno : ∀ q, q ∈ kvs → q.1 ≠ k := fun q hq e2 => by
      have h1 : (kvs.any fun kv => decide (kv.1 = k)) = true := List.any_eq_true.mpr ⟨q, hq, decide_eq_true e2⟩
      rw [valV_any, e] at h1; cases h1
    show dropK (putK kvs k v) k = kvs
    rw [putK_new v e]
    unfold dropK
    rw [List.filter_append]
    have h1 : kvs.filter (fun kv => decide (kv.1 ≠ k)) = kvs := List.filter_eq_self.mpr fun q hq => decide_eq_true (hno q hq)
    rw [h1]
    simp
  | some o =>
    show putK (putK kvs k v) k o = kvs
    have hk : ∀ kvs : List (Key × V), (kvs.any fun kv => decide (kv.1 = k)) = true → ∀ u, putK kvs k u = kvs.map fun kv => if kv.1 = k then (kv.1, u) else kv := fun kvs h u => if_pos h
    have h1 : (kvs.any fun kv => decide (kv.1 = k)) = true := by rw [valV_any, e]; rfl
    have h2 : ((putK kvs k v).any fun kv => decide (kv.1 = k)) = true := by rw [valV_any, valV_put, if_pos rfl]; rfl
    rw [hk _ h2, hk _ h1, List.map_map]
    have : ∀ q, q ∈ kvs → ((fun kv : Key × V => if kv.1 = k then (kv.1, o) else kv) ∘ fun kv : Key × V => if kv.1 = k then (kv.1, v) else kv) q = q := fun q hq => by
      show (if (if q.1 = k then (q.1, v) else q).1 = k then ((if q.1 = k then (q.1, v) else q).1, o) else (if q.1 = k then (q.1, v) else q)) = q
      by_cases e2 : q.1 = k
      · rw [if_pos e2, if_pos e2]
        have : q.2 = o := by
          have h3 : ∀ kvs : List (Key × V), (kvs.map (·.1)).Nodup → q ∈ kvs → valV kvs k = some q.2 := fun kvs => by
            induction kvs with
            | nil => intro _ h; cases h
            | cons r kvs ih =>
              intro h4 h5
              rcases List.mem_cons.mp h5 with rfl | h5
              · exact valV_pos e2
              · have h6 := List.nodup_cons.mp h4
                rw [valV_neg (fun z => h6.1 (by show r.1 ∈ _; rw [z, ← e2]; exact List.mem_map.mpr ⟨q, h5, rfl⟩))]
                exact ih h6.2 h5
          have h7 := h3 kvs hn hq
          rw [e] at h7
          exact (Option.some.inj h7).symm
        rw [← this]
      · rw [if_neg e2, if_neg e2]
    rw [List.map_congr_left this, List.map_id']
/-! ### reads: what a log of all flushes tells, and how many runs are searched -/
/-- the newest entry of the flushes a .. a + n - 1 -/
def upTo (L : List (List (Key × V))) (z : Str) (a : Nat) : Nat → Option V
  | 0 => none
  | n + 1 => match valV (L.getD (a + n) []) (.inr z) with
    | some v => some v
    | none => upTo L z a n
/-- the runs from the newest one on: what is found, how many are searched -/
def look (L : List (List (Key × V))) (z : Str) (f : Nat) : List (Nat × Nat) → Option V × Nat
  | [] => (none, 0)
  | p :: r => if p.1 < f then (match upTo L z p.1 (min p.2 f - p.1) with
      | some v => (some v, 1)
      | none => ((look L z f r).1, (look L z f r).2 + 1)) else look L z f r
/-- what the buffer tells, where it counts -/
def bufR (mo : V) (kvs : List (Key × V)) (z : Str) : Option V := if mo = .non then valV kvs (.inr z) else none
def rdV (mo : V) (kvs : List (Key × V)) (L : List (List (Key × V))) (t : T) (z : Str) (f : Nat) : V := match bufR mo kvs z with
  | some v => v
  | none => ((look L z f (t.stk 0).reverse).1).getD .non
def rdN (mo : V) (kvs : List (Key × V)) (L : List (List (Key × V))) (t : T) (z : Str) (f : Nat) : Nat := match bufR mo kvs z with
  | some _ => 0
  | none => (look L z f (t.stk 0).reverse).2
/-- a moment: none, or a number of flushes so far -/
def Mom (mo : V) (t : T) (f : Nat) : Prop := (mo = .non ∧ f = t.size) ∨ (mo = .int (f : Int) ∧ f ≤ t.size)
section
variable {P : Program} {w : World} {K : PySem.W.Frag} {mg : Str → Option Value} {base : Heap}
def sp_Store_check_moment (TX : Tx K mg) : Sp := fun vs H Q _ => ∃ (s : St) (pol : List V) (t : T) (L : List (List (Key × V))) (kvs : List (Key × V)) (hs : List V) (n : Int) (mo : V) (f : Nat), vs = [.ref s.p, mo] ∧ StAt K TX.C_Store H s pol t L kvs hs n ∧ Mom mo t f ∧ ∀ H', Same H H' → Q .non H'
theorem ok_Store_check_moment (TX : Tx K mg) : FnOk P w K mg base CX0 4 TX.a_Store_check_moment TX.fd_Store_check_moment ["self", "moment"] (sp_Store_check_moment TX) := by
  refine TX.f_Store_check_moment.ok sc_Store_check_moment (fun vs H Q E h => ?_) (fun cdv A outer s H vs Q E hr h => ?_)
  · obtain ⟨s, pol, t, L, kvs, hs, n, mo, f, rfl, _⟩ := h; rfl
  · obtain ⟨s, pol, t, L, kvs, hs, n, mo, f, rfl, a, hm, q⟩ := h
    refine ⟨_, (pss_one (ps_if (PW.pt (pw_and (pt_cmpR op_notN (pv 1) pe_non (nomark _)) (pw_and1 (pt_not (pt_val (pe_call (ok_is_count_up_to TX) (hr.mono (by decide)) (by rfl) TX.g_is_count_up_to TX.f_is_count_up_to.kp TX.bd_is_count_up_to .nil pass0 (pa_cons (pv 1) (pa_cons (pe_callB (id := "len") (k_len (K := K) rfl) (by rfl) TX.b_len (by decide +kernel) (pa_cons (pe_fld (pv 0) rfl) pa_nil)) pa_nil))))))))
        (pss_one ps_never)
        pss_nil)), ?_⟩
    have hl : (vi t.sch).length = t.size := by rw [vi_len, T.sch_len]
    rcases hm with ⟨rfl, rfl⟩ | ⟨rfl, hf⟩
    · exact ⟨_, rfl, rfl, _, rfl, iteF (q _ (.refl _))⟩
    · refine ⟨_, rfl, rfl, _, rfl, iteT ?_⟩
      refine ⟨_, rfl, _, rfl, f_merges a TX.cl_Store TX.na_Store_merges ⟨s.m, _, rfl, .inl (.inl (.inl a.hm)), (f : Int), _, rfl, ?_⟩⟩
      rw [hl, decide_eq_true (show (0 : Int) ≤ (f : Int) by omega), decide_eq_true (show (f : Int) ≤ (t.size : Int) by omega)]
      exact ⟨true, rfl, iteF (q _ (.refl _))⟩
def sp_Store_flushes_until (TX : Tx K mg) : Sp := fun vs H Q _ => ∃ (s : St) (pol : List V) (t : T) (L : List (List (Key × V))) (kvs : List (Key × V)) (hs : List V) (n : Int) (mo : V) (f : Nat), vs = [.ref s.p, mo] ∧ StAt K TX.C_Store H s pol t L kvs hs n ∧ Mom mo t f ∧ Q (.int (f : Int)) H
theorem ok_Store_flushes_until (TX : Tx K mg) : FnOk P w K mg base CX0 3 TX.a_Store_flushes_until TX.fd_Store_flushes_until ["self", "moment"] (sp_Store_flushes_until TX) := by
  refine TX.f_Store_flushes_until.ok sc_Store_flushes_until (fun vs H Q E h => ?_) (fun cdv A outer s H vs Q E hr h => ?_)
  · obtain ⟨s, pol, t, L, kvs, hs, n, mo, f, rfl, _⟩ := h; rfl
  · obtain ⟨s, pol, t, L, kvs, hs, n, mo, f, rfl, a, hm, q⟩ := h
    refine ⟨_, (pss_one (ps_ret (pe_ifExp (pt_cmpR op_isN (pv 1) pe_non (nomark _)) (pe_callB (id := "len") (k_len (K := K) rfl) (by rfl) TX.b_len (by decide +kernel) (pa_cons (pe_fld (pv 0) rfl) pa_nil)) (pv 1)))), ?_⟩
    have hl : (vi t.sch).length = t.size := by rw [vi_len, T.sch_len]
    rcases hm with ⟨rfl, rfl⟩ | ⟨rfl, hf⟩
    · refine ⟨_, rfl, rfl, _, rfl, iteT ⟨_, rfl, f_merges a TX.cl_Store TX.na_Store_merges ⟨s.m, _, rfl, .inl (.inl (.inl a.hm)), ?_⟩⟩⟩
      rw [hl]; exact q
    · exact ⟨_, rfl, rfl, _, rfl, iteF ⟨_, rfl, q⟩⟩
theorem StAt.count {K : PySem.W.Frag} {C : Addr} {H : Hp} {s : St} {pol : List V} {t : T} {L : List (List (Key × V))} {kvs : List (Key × V)} {hs : List V} {n : Int} (a : StAt K C H s pol t L kvs hs n) : ∃ dx r, H s.p = some (.ins C dx (fldS r s.m s.b s.d s.h n)) ∧ ∀ n', StAt K C (upd H s.p (.ins C dx (fldS r s.m s.b s.d s.h n'))) s pol t L kvs hs n' ∧ ButL [s.p] H (upd H s.p (.ins C dx (fldS r s.m s.b s.d s.h n'))) := by
  obtain ⟨dx, r, e1, e2⟩ := a.ex
  obtain ⟨npm, npb, nph, npd, nmd, nbd, nhd⟩ := a.psz
  refine ⟨dx, r, e1, fun n' => ⟨?_, .upd (by simp)⟩⟩
  have B : ButL s.own H (upd H s.p (.ins C dx (fldS r s.m s.b s.d s.h n'))) := .upd (by simp [St.own])
  refine ⟨⟨dx, r, upd_same, a.keep B _ _ e2⟩, by rw [upd_ne npm.symm]; exact a.hm, by rw [upd_ne npb.symm]; exact a.hb, by rw [upd_ne nph.symm]; exact a.hh, by rw [upd_ne npd.symm]; exact a.hd, a.mb, a.mh, a.bh, a.nd, a.l1, a.l2, fun i di h => ?_⟩
  obtain ⟨kv, h1, h2⟩ := a.bat i di h
  exact ⟨kv, h1, by rw [upd_ne (a.dsn (List.mem_of_getElem? h)).1]; exact h2⟩
def sp_Store_read (TX : Tx K mg) : Sp := fun vs H Q _ => ∃ (s : St) (pol : List V) (t : T) (L : List (List (Key × V))) (kvs : List (Key × V)) (hs : List V) (n : Int) (z : Str) (mo : V) (f : Nat), vs = [.ref s.p, .str z, mo] ∧ StAt K TX.C_Store H s pol t L kvs hs n ∧ keyOkS z = true ∧ t.size ≤ 60 ∧ Mom mo t f ∧
  ∀ H', ButL [s.p] H H' → StAt K TX.C_Store H' s pol t L kvs hs (n + (rdN mo kvs L t z f : Nat)) → Q (rdV mo kvs L t z f) H'
theorem ok_Store_read (TX : Tx K mg) : FnOk P w K mg base CX0 7 TX.a_Store_read TX.fd_Store_read ["self", "key", "moment"] (sp_Store_read TX) := by
  refine FunD.okN TX.f_Store_read sc_Store_read (fun vs H Q E h => ?_) (fun cdv A outer s H vs Q E hr h => ?_)
  · obtain ⟨s, pol, t, L, kvs, hs, n, z, mo, f, rfl, _⟩ := h; rfl
  · obtain ⟨s, pol, t, L, kvs, hs, n, z, mo, f, rfl, a, hz, h60, hm, q⟩ := h
    refine ⟨_, (pss_cons (ps_expr (pe_call (ok_check_key TX) (hr.mono (by decide)) (by rfl) TX.g_check_key TX.f_check_key.kp TX.bd_check_key .nil pass0 (pa_cons (pv 1) pa_nil)))
      (pss_cons (ps_expr (pe_meth (pv 0) TX.cl_Store TX.m_Store_check_moment (ok_Store_check_moment TX) (hr.mono (by decide)) TX.bd_Store_check_moment .nil pass0 (pa_cons (pv 2) pa_nil)))
      (pss_cons (ps_if (PW.pt (pw_and (pt_cmpR op_isN (pv 2) pe_non (nomark _)) (pw_and1 (pt_cmp (pc_din (hu_of hr) (pv 1) (pe_fld (pv 0) rfl))))))
        (pss_one (ps_ret (pe_dget (hu_of hr) (pe_fld (pv 0) rfl) (pv 1) (fun _ _ => rfl))))
        pss_nil)
      (pss_cons (ps_set (i := 3) sc_Store_read.nd rfl (.inl rfl) (pe_meth (pv 0) TX.cl_Store TX.m_Store_flushes_until (ok_Store_flushes_until TX) (hr.mono (by decide)) TX.bd_Store_flushes_until .nil pass0 (pa_cons (pv 2) pa_nil)))
      (pss_cons (ps_set (i := 4) sc_Store_read.nd rfl (.inl rfl) (pe_meth0 (pv 0) TX.cl_Store TX.m_Store_stack (ok_Store_stack TX) (hr.mono (by decide)) TX.bd_Store_stack .nil pass0))
      (pss_cons (ps_for PassesOwn.never rfl (RT.pi_revA (by rfl) TX.b_reversed (pv 4)) (pg_tup rfl (pgs_cons (pg_name (i := 5) sc_Store_read.nd rfl (.inl rfl)) (pgs_cons (pg_name (i := 6) sc_Store_read.nd rfl (.inl rfl)) pgs_nil)))
        (pss_one (ps_if (pt_cmpR op_lt (pv 5) (pv 3) (nomark _))
          (pss_cons (ps_fldaug (pv 0) pe_int in_add)
          (pss_one (ps_for PassesOwn.never rfl (pi_revR (by rfl) TX.b_reversed (prg_2 (by rfl) TX.b_range (pv 5) (pe_callB (id := "min") (call_min2 rfl) (by rfl) TX.b_min (by decide +kernel) (pa_cons (pv 6) (pa_cons (pv 3) pa_nil))))) (pg_name (i := 7) sc_Store_read.nd rfl (.inl rfl))
            (pss_one (ps_if (pt_cmp (pc_din (hu_of hr) (pv 1) (pe_ix (k_ixL (K := K) rfl) (pe_fld (pv 0) rfl) (pv 7) (fun _ _ => rfl))))
              (pss_one (ps_ret (pe_dget (hu_of hr) (pe_ix (k_ixL (K := K) rfl) (pe_fld (pv 0) rfl) (pv 7) (fun _ _ => rfl)) (pv 1) (fun _ _ => rfl))))
              pss_nil)))))
          pss_nil)))
      (pss_one (ps_ret pe_non)))))))), ?_⟩
    have hfz : f ≤ t.size := by rcases hm with ⟨_, rfl⟩ | ⟨_, h⟩ <;> omega
    refine ⟨_, rfl, z, rfl, hz, fun H1 s1 => ?_⟩
    have a1 := a.same s1
    refine ⟨_, rfl, f_meth a1 (by decide +kernel) ⟨_, rfl, s, pol, t, L, kvs, hs, n, mo, f, rfl, a1, hm, fun H2 s2 => ?_⟩⟩
    have a2 := a1.same s2
    have s12 := s1.trans s2
    refine ⟨_, rfl, rfl, _, rfl, ?_⟩
    cases hb : bufR mo kvs z with
    | some v =>
      have hmo : mo = .non := by
        unfold bufR at hb
        split at hb
        · assumption
        · cases hb
      have hv : valV kvs (.inr z) = some v := by
        unfold bufR at hb
        rw [if_pos hmo] at hb; exact hb
      have g := DGet.k (k := .inr z) a2.hd
      rw [hv] at g
      refine decT hmo ⟨_, rfl, _, rfl, f_buffer a2 TX.cl_Store TX.na_Store_buffer ⟨s.d, _, rfl, g, _, rfl, iteT ?_⟩⟩
      refine ⟨_, rfl, f_buffer a2 TX.cl_Store TX.na_Store_buffer ⟨_, rfl, s.d, _, rfl, g, ?_⟩⟩
      have q' := q _ (.of s12) (by
        show StAt K TX.C_Store H2 s pol t L kvs hs (n + (rdN mo kvs L t z f : Nat))
        unfold rdN; rw [hb]
        show StAt K TX.C_Store H2 s pol t L kvs hs (n + ((0 : Nat) : Int))
        rw [show n + ((0 : Nat) : Int) = n by omega]; exact a2)
      unfold rdV at q'
      rw [hb] at q'
      exact q'
    | none =>
      have q2 : ∀ H', ButL [s.p] H2 H' → StAt K TX.C_Store H' s pol t L kvs hs (n + ((look L z f (t.stk 0).reverse).2 : Nat)) → Q (((look L z f (t.stk 0).reverse).1).getD .non) H' := fun H' b st => by
        have q' := q H' ((ButL.of s12).trans b) (by unfold rdN; rw [hb]; exact st)
        unfold rdV at q'
        rw [hb] at q'
        exact q'
      clear q
      by_cases hmo : mo = .non
      case' pos =>
        have hv : valV kvs (.inr z) = none := by
          unfold bufR at hb
          rw [if_pos hmo] at hb; exact hb
        have g := DGet.k (k := .inr z) a2.hd
        rw [hv] at g
        refine decT hmo ⟨_, rfl, _, rfl, f_buffer a2 TX.cl_Store TX.na_Store_buffer ⟨s.d, _, rfl, g, _, rfl, iteF ?_⟩⟩
      case' neg => refine decF hmo (iteF ?_)
      all_goals (
        refine ⟨_, rfl, f_meth a2 (by decide +kernel) ⟨_, rfl, s, pol, t, L, kvs, hs, n, mo, f, rfl, a2, hm, ?_⟩⟩
        refine ⟨_, rfl, f_meth a2 (by decide +kernel) ⟨s, pol, t, L, kvs, hs, n, rfl, a2, h60, fun H3 g s3 hg => ?_⟩⟩
        obtain ⟨g', xs, e, hX, hA⟩ := Dp.tupInv hg
        cases e
        have hl := DpAll.len hA
        rw [List.length_map, T.stk_len] at hl
        have a3 := a2.same s3
        obtain ⟨R, hR⟩ : ∃ R, R = look L z f (t.stk 0).reverse := ⟨_, rfl⟩
        rw [← hR] at q2
        refine ⟨.ref g, rfl, g, xs, rfl, .inr ⟨hX, for_it (walk_revS (K := K)) (fun i σ H' => ∃ (c : Nat) (y5 y6 y7 : Option V), σ = [some (.ref s.p), some (.str z), some mo, some (.int (f : Int)), some (.ref g), y5, y6, y7] ∧ StAt K TX.C_Store H' s pol t L kvs hs (n + (c : Int)) ∧ ButL [s.p] H2 H' ∧ Keep K H3 H' ∧ R = ((look L z f ((t.stk 0).reverse.drop i)).1, c + (look L z f ((t.stk 0).reverse.drop i)).2)) ⟨0, _, _, _, rfl, by rw [show n + ((0 : Nat) : Int) = n by omega]; exact a3, .of s3, Keep.refl, by rw [hR, List.drop_zero, Nat.zero_add]⟩ (fun i σ H' _ h => by obtain ⟨_, _, _, _, _, _, _, k, _⟩ := h; exact k _ _ hX) ?_ ?_⟩⟩
        · rintro i x σ H4 H4' hi ⟨c, y5, y6, y7, rfl, a4, b4, k4, hRi⟩ ⟨rfl, hx⟩
          obtain ⟨pr, hpr⟩ : ∃ pr, (t.stk 0)[xs.length - 1 - i]? = some pr := ⟨_, List.getElem?_eq_getElem (by rw [T.stk_len]; omega)⟩
          obtain ⟨v, g1, g2⟩ := DpAll.get (DpAll.keep k4 (fun d hd => by obtain ⟨q', _, rfl⟩ := List.mem_map.mp hd; exact tf_pr q') hA) (show ((t.stk 0).map dPr)[xs.length - 1 - i]? = some (dPr pr) by rw [List.getElem?_map, hpr]; rfl)
          rw [hx] at g1
          cases g1
          obtain ⟨b, rfl, hb2⟩ := Dp.intsInv (ns := [(pr.1 : Int), (pr.2 : Int)]) g2
          obtain ⟨l0, l1, l2⟩ := stk_lt t 0 pr (List.mem_of_getElem? hpr)
          have hrev : (t.stk 0).reverse.drop i = pr :: (t.stk 0).reverse.drop (i + 1) := by
            have h1 : (t.stk 0).reverse[i]? = some pr := by
              rw [List.getElem?_reverse (by rw [T.stk_len]; omega), T.stk_len, ← hl]; exact hpr
            exact List.drop_eq_getElem?_toList_append.trans (by rw [h1]; rfl)
          rw [hrev] at hRi
          refine ⟨b, _, rfl, hb2, rfl, _, _, rfl, _, _, rfl, rfl, ?_⟩
          by_cases hlt : pr.1 < f
          · obtain ⟨dx, r, e1, up⟩ := a4.count
            refine ⟨_, rfl, _, rfl, _, _, rfl, rfl, _, rfl, decT (by omega) ⟨_, rfl, s.p, TX.C_Store, dx, _, _, rfl, e1, TX.cl_Store, TX.na_Store_searched, lk_searched .., _, _, rfl, rfl, dx, _, e1, by rw [fld_len]; decide, ?_⟩⟩
            rw [fld_searched]
            obtain ⟨a5, b5⟩ := up (n + (c : Int) + 1)
            have k5 : Keep K H4' (upd H4' s.p (.ins TX.C_Store dx (fldS r s.m s.b s.d s.h (n + (c : Int) + 1)))) := a4.keep (b5.mono fun y hy => by rw [List.mem_singleton.mp hy]; simp [St.own])
            have b25 := b4.trans b5
            have k35 := k4.trans k5
            generalize upd H4' s.p _ = H5 at a5 b25 k35 ⊢
            clear b5 k5 up
            obtain ⟨hh, hhe⟩ : ∃ hh : Nat, hh = min pr.2 f := ⟨_, rfl⟩
            have hmin : (if (f : Int) < (pr.2 : Int) then (f : Int) else (pr.2 : Int)) = (hh : Int) := by split <;> omega
            refine ⟨_, rfl, _, rfl, _, rfl, _, _, rfl, ?_⟩
            rw [hmin]
            refine ⟨_, _, rfl, rfl, by omega, by omega, by omega, by omega, ?_⟩
            have hN : ((hh : Int) - (pr.1 : Int)).toNat = hh - pr.1 := by omega
            rw [hN]
            have hlk : look L z f (pr :: (t.stk 0).reverse.drop (i + 1)) = (match upTo L z pr.1 (hh - pr.1) with
                | some v => (some v, 1)
                | none => ((look L z f ((t.stk 0).reverse.drop (i + 1))).1, (look L z f ((t.stk 0).reverse.drop (i + 1))).2 + 1)) := by
              rw [hhe]; show (if pr.1 < f then _ else _) = _; rw [if_pos hlt]
            rw [hlk] at hRi
            refine for_it (walk_rc (lo := (pr.1 : Int) + ((hh - pr.1 : Nat) : Int) - 1) (c := -1) (n := hh - pr.1)) (fun j σ H' => ∃ y7, σ = [some (.ref s.p), some (.str z), some mo, some (.int (f : Int)), some (.ref g), some (.int (pr.1 : Int)), some (.int (pr.2 : Int)), y7] ∧ H' = H5 ∧ upTo L z pr.1 (hh - pr.1) = upTo L z pr.1 (hh - pr.1 - j)) ⟨_, rfl, rfl, rfl⟩ (fun _ _ _ _ _ => trivial) ?_ ?_
            · rintro j x σ H6 H6' hj ⟨y7, rfl, rfl, hup⟩ ⟨rfl, rfl⟩
              obtain ⟨fl, hfl⟩ : ∃ fl : Nat, fl = pr.1 + (hh - pr.1 - (j + 1)) := ⟨_, rfl⟩
              have efl : (pr.1 : Int) + ((hh - pr.1 : Nat) : Int) - 1 + (j : Nat) * -1 = (fl : Int) := by omega
              have hfs : fl < s.ds.length := by rw [a5.l1, a5.l2]; omega
              obtain ⟨di, hdi⟩ : ∃ di, s.ds[fl]? = some di := ⟨_, List.getElem?_eq_getElem hfs⟩
              obtain ⟨kv, h1, h2⟩ := a5.bat fl di hdi
              have hgd2 : L.getD fl [] = kv := by rw [List.getD_eq_getElem?_getD, h1]; rfl
              have hstep : upTo L z pr.1 (hh - pr.1 - j) = (match valV kv (.inr z) with
                  | some v => some v
                  | none => upTo L z pr.1 (hh - pr.1 - (j + 1))) := by
                rw [show hh - pr.1 - j = (hh - pr.1 - (j + 1)) + 1 by omega, ← hgd2, hfl]; rfl
              rw [hstep] at hup
              have gg := DGet.k (k := .inr z) h2
              rw [efl]
              refine ⟨_, rfl, _, rfl, f_batches a5 TX.cl_Store TX.na_Store_batches ⟨_, rfl, s.b, _, _, .ref di, rfl, rfl, .inl (.inl a5.hb), atI_nat (by rw [List.getElem?_map, hdi]; rfl), di, _, rfl, gg, ?_⟩⟩
              cases hv : valV kv (.inr z) with
              | none =>
                rw [hv] at hup
                exact ⟨_, rfl, iteF ⟨_, rfl, rfl, hup⟩⟩
              | some v =>
                rw [hv] at gg hup
                rw [hup] at hRi
                refine ⟨_, rfl, iteT ⟨_, rfl, f_batches a5 TX.cl_Store TX.na_Store_batches ⟨_, rfl, s.b, _, _, .ref di, rfl, rfl, .inl (.inl a5.hb), atI_nat (by rw [List.getElem?_map, hdi]; rfl), _, rfl, di, _, rfl, gg, ?_⟩⟩⟩
                have e1 : R.1 = some v := by rw [hRi]
                have e2 : R.2 = c + 1 := by rw [hRi]
                rw [e1, e2] at q2
                exact q2 _ b25 (by rw [show n + ((c + 1 : Nat) : Int) = n + (c : Int) + 1 by omega]; exact a5)
            · rintro σ H6 ⟨y7, rfl, rfl, hup⟩
              rw [Nat.sub_self] at hup
              rw [hup] at hRi
              exact ⟨c + 1, _, _, _, rfl, by rw [show n + ((c + 1 : Nat) : Int) = n + (c : Int) + 1 by omega]; exact a5, b25, k35, by rw [hRi]; show (_, _) = (_, _); congr 1; show c + ((look L z f ((t.stk 0).reverse.drop (i + 1))).2 + 1) = _; omega⟩
          · refine ⟨_, rfl, _, rfl, _, _, rfl, rfl, _, rfl, decF (by omega) ?_⟩
            exact ⟨c, _, _, _, rfl, a4, b4, k4, by rw [hRi]; show (_, c + (if pr.1 < f then _ else look L z f ((t.stk 0).reverse.drop (i + 1))).2) = _; rw [if_neg hlt]; congr 1; show ((if pr.1 < f then _ else look L z f ((t.stk 0).reverse.drop (i + 1))) : Option V × Nat).1 = _; rw [if_neg hlt]⟩
        · rintro σ H4 ⟨c, y5, y6, y7, rfl, a4, b4, k4, hRi⟩
          rw [List.drop_of_length_le (by rw [List.length_reverse, T.stk_len]; omega)] at hRi
          have e1 : R.1 = none := by rw [hRi]; rfl
          have e2 : R.2 = c := by rw [hRi]; rfl
          rw [e1, e2] at q2
          exact q2 _ b4 a4)
end
/-! ### the entries of the buffer, by ascending key -/
theorem rising_all : ∀ (r : List Str) (p : Str), risingS p r = true → (∀ x, x ∈ r → p.cps.toList ≤ x.cps.toList) ∧ sortedS r = true
  | [], _, _ => ⟨fun _ h => (nomatch h), rfl⟩
  | x :: r, p, h => by
    have h' : (!ltCps x.cps.toList p.cps.toList && risingS x r) = true := h
    rw [Bool.and_eq_true] at h'
    obtain ⟨h1, h2⟩ := rising_all r x h'.2
    have h3 : p.cps.toList ≤ x.cps.toList := by
      have := h'.1
      rw [ltCps_eq] at this
      have h4 : ¬ x.cps.toList < p.cps.toList := by simpa using this
      exact List.not_lt.mp h4
    refine ⟨fun y hy => ?_, h'.2⟩
    rcases List.mem_cons.mp hy with rfl | hy
    · exact h3
    · exact List.le_trans h3 (h1 y hy)
theorem str_ext {x y : Str} (h : x.cps.toList = y.cps.toList) : x = y := by
  cases x; cases y
  congr 1
  exact Array.toList_inj.mp h
/-- in ascending order in one way alone -/
theorem sorted_uniq : ∀ (xs ys : List Str), xs.Perm ys → sortedS xs = true → sortedS ys = true → xs = ys
  | [], ys, h, _, _ => (List.nil_perm.mp h).symm
  | x :: xs, [], h, _, _ => absurd h.length_eq (by simp)
  | x :: xs, y :: ys, h, h1, h2 => by
    obtain ⟨a1, a2⟩ := rising_all xs x h1
    obtain ⟨b1, b2⟩ := rising_all ys y h2
    have e : x = y := by
      have m1 : y ∈ x :: xs := h.mem_iff.mpr (List.mem_cons_self ..)
      have m2 : x ∈ y :: ys := h.mem_iff.mp (List.mem_cons_self ..)
      rcases List.mem_cons.mp m1 with e | m1
      · exact e.symm
      · rcases List.mem_cons.mp m2 with e | m2
        · exact e
        · exact str_ext (List.le_antisymm (a1 y m1) (b1 x m2))
    subst e
    rw [sorted_uniq xs ys (List.perm_cons _ |>.mp h) a2 b2]
/-- the keys of entries -/
def kys (kvs : List (Key × V)) : List Str := kvs.filterMap fun q => match q.1 with | .inr z => some z | _ => none
def dVal : V → PyData
  | .int i => .int i
  | _ => .none
def dPend (kvs : List (Key × V)) (ys : List Str) : PyData := .tuple (ys.map fun z => .tuple [.str z, dVal ((valV kvs (.inr z)).getD .non)])
theorem kys_keys : ∀ {kvs : List (Key × V)}, (∀ q, q ∈ kvs → ∃ z, q.1 = Sum.inr z) → kvs.map (·.1) = (kys kvs).map Sum.inr
  | [], _ => rfl
  | q :: kvs, h => by
    obtain ⟨z, hz⟩ := h q (by simp)
    have := kys_keys (kvs := kvs) fun r hr => h r (by simp [hr])
    rw [List.map_cons, hz, this]
    unfold kys
    rw [List.filterMap_cons, hz]
    rfl
theorem Ek.keys {kvs : List (Key × V)} (h : Ek kvs) : kvs.map (·.1) = (kys kvs).map Sum.inr := kys_keys fun q hq => by
  obtain ⟨z, _, e⟩ := h.ks q hq
  exact ⟨z, e⟩
theorem Ek.kvk {kvs : List (Key × V)} (h : Ek kvs) : (kvs.map fun kv => kV kv.1) = (kys kvs).map V.str := by
  have e := congrArg (List.map kV) h.keys
  rw [List.map_map, List.map_map] at e
  exact e
theorem Ek.kyl {kvs : List (Key × V)} (h : Ek kvs) : (kys kvs).length ≤ 5 := by
  have e := congrArg List.length h.keys
  rw [List.length_map, List.length_map] at e
  have := h.len
  omega
theorem Ek.kn {kvs : List (Key × V)} (h : Ek kvs) {z : Str} (hz : z ∈ kys kvs) : z ∈ names5 ∧ ∃ v, valV kvs (.inr z) = some v ∧ Val v := by
  have h1 : Sum.inr z ∈ kvs.map (·.1) := by rw [h.keys]; exact List.mem_map.mpr ⟨z, hz, rfl⟩
  obtain ⟨q, hq, e⟩ := List.mem_map.mp h1
  obtain ⟨y, hy, e2⟩ := h.ks q hq
  have e3 : z = y := by
    rw [e] at e2; exact Sum.inr.inj e2
  refine ⟨by rw [e3]; exact hy, ?_⟩
  have h2 : (kvs.any fun kv => decide (kv.1 = Sum.inr z)) = true := List.any_eq_true.mpr ⟨q, hq, decide_eq_true e⟩
  rw [valV_any] at h2
  obtain ⟨v, hv⟩ := Option.isSome_iff_exists.mp h2
  refine ⟨v, hv, ?_⟩
  unfold valV at hv
  obtain ⟨r, hr, e4⟩ := Option.map_eq_some_iff.mp hv
  rw [← e4]
  exact h.vs r (List.mem_of_find?_eq_some hr)
theorem dVal_dp {K : PySem.W.Frag} {H : Hp} {v : V} (h : Val v) : Dp K H v (dVal v) := by
  rcases h with rfl | ⟨i, rfl, _⟩
  · exact .non
  · exact .int i
theorem tf_pend (kvs : List (Key × V)) : ∀ (ys : List Str) (d : PyData), d ∈ (ys.map fun z => PyData.tuple [.str z, dVal ((valV kvs (.inr z)).getD .non)]) → Tf d := fun ys d hd => by
  obtain ⟨z, _, rfl⟩ := List.mem_map.mp hd
  refine .tup fun d hd => ?_
  rcases List.mem_cons.mp hd with rfl | hd
  · exact .str _
  · rw [List.mem_singleton.mp hd]
    cases (valV kvs (.inr z)).getD .non <;> first | exact .int _ | exact .non
section
variable {P : Program} {w : World} {K : PySem.W.Frag} {mg : Str → Option Value} {base : Heap}
def sp_ascending_pairs (K : PySem.W.Frag) : Sp := fun vs H Q _ => ∃ (a : Addr) (kvs : List (Key × V)), vs = [.ref a] ∧ H a = some (.dK kvs) ∧ Ek kvs ∧ ∀ H' q ys, Same H H' → ys.Perm (kys kvs) → sortedS ys = true → Dp K H' (.ref q) (dPend kvs ys) → Q (.ref q) H'
theorem ok_ascending_pairs (TX : Tx K mg) : FnOk P w K mg base CX0 1 TX.a_ascending_pairs TX.fd_ascending_pairs ["entries"] (sp_ascending_pairs K) := by
  refine TX.f_ascending_pairs.ok sc_ascending_pairs (fun vs H Q E h => ?_) (fun cdv A outer s H vs Q E hr h => ?_)
  · obtain ⟨a, kvs, rfl, _⟩ := h; rfl
  · obtain ⟨a, kvs, rfl, ha, hk, q⟩ := h
    refine ⟨_, (pss_one (ps_ret (pe_callTy (T := "tuple") (k_tupOf (K := K) rfl) (by rfl) TX.b_tuple (by decide +kernel) (pa_cons (pe_lc (own := [("key", 1)]) (by rfl) sc_ascending_pairs.nd (k_piL (K := K) rfl (pe_callB (id := "sorted") cr_sortedS (by rfl) TX.b_sorted (by decide +kernel) (pa_cons (pe_callTy (T := "list") (call_listD rfl) (by rfl) TX.b_list (by decide +kernel) (pa_cons (pv 0) pa_nil)) pa_nil))) (blkOk_by (own := [("key", 1)]) (N := N_ascending_pairs) (sc := defScope s_ascending_pairs) (by decide +kernel)) (fun _ _ _ _ _ => (pg_name (i := 1) sc_ascending_pairs.nd rfl (Or.inl rfl))) (fun _ _ _ _ _ => pts_nil) (fun _ _ _ _ _ => (pe_tup (pa_cons (pv 1) (pa_cons (pe_dget (hu_of hr) (pv 0) (pv 1) (fun _ _ => rfl)) pa_nil))))) pa_nil)))), ?_⟩
    refine ⟨_, rfl, a, kvs, rfl, .inl ha, fun p1 n1 => ?_⟩
    rw [hk.kvk]
    have s1 := same_upd (o := .lst ((kys kvs).map V.str)) n1
    refine ⟨p1, kys kvs, rfl, .inl (.inl upd_same), by have := hk.kyl; omega, fun ys p2 hp hs n2 => ?_⟩
    have s2 := same_upd (o := .lst (ys.map V.str)) n2
    have h2 := upd_same (H := upd H p1 (.lst ((kys kvs).map V.str))) (a := p2) (o := .lst (ys.map V.str))
    have s12 := s1.trans s2
    generalize upd (upd H p1 (.lst ((kys kvs).map V.str))) p2 (.lst (ys.map V.str)) = H2 at s12 h2 ⊢
    have hyl : ys.length ≤ 5 := by rw [hp.length_eq]; exact hk.kyl
    refine ⟨p2, rfl, ⟨_, .inl (.inl h2)⟩, fun D nD => ?_⟩
    refine lc_all (K := K) (walk_list (xs := ys.map V.str)) (ys.map fun z => PyData.tuple [.str z, dVal ((valV kvs (.inr z)).getD .non)]) (by simp) (tf_pend kvs ys) (by simp; omega) nD (fun H' s' => .inl (.inl (s' _ _ h2))) ?_ ?_ (fun x σ' H' Q Q' h => h _ _) (fun σ' H' Q Q' h => h _ _)
    · rintro i x Hx Hx' hi sx ⟨rfl, hx⟩ d hd R hR
      rw [List.getElem?_map] at hx hd
      cases hz : ys[i]? with
      | none => rw [hz] at hx; cases hx
      | some z =>
        rw [hz] at hx hd
        cases hx
        cases hd
        obtain ⟨_, v, hv, hV⟩ := hk.kn (hp.mem_iff.mp (List.mem_of_getElem? hz))
        have g := DGet.k (k := .inr z) (sx _ _ (s12 _ _ ha))
        rw [hv] at g
        refine ⟨rfl, rfl, _, rfl, _, rfl, _, rfl, a, _, rfl, g, sz60 (by simp), fun o no => ?_⟩
        refine hR _ _ (same_upd no) ?_
        show Dp K _ _ (.tuple [.str z, dVal ((valV kvs (.inr z)).getD .non)])
        rw [hv]
        exact .tup (.inl (.inl upd_same)) (.cons (.str _) (.cons (dVal_dp hV) .nil))
    · intro H3 acc s3 ha3 hA
      exact ⟨D, _, rfl, .inl ⟨.inl (.inl ha3), fun o no => q _ o ys ((s12.trans s3).trans (same_upd no)) hp hs (.tup (.inl (.inl upd_same)) (DpAll.same (same_upd no) hA))⟩⟩
def sp_Store_pending (TX : Tx K mg) : Sp := fun vs H Q _ => ∃ (s : St) (pol : List V) (t : T) (L : List (List (Key × V))) (kvs : List (Key × V)) (hs : List V) (n : Int), vs = [.ref s.p] ∧ StAt K TX.C_Store H s pol t L kvs hs n ∧ Ek kvs ∧ ∀ H' q ys, Same H H' → ys.Perm (kys kvs) → sortedS ys = true → Dp K H' (.ref q) (dPend kvs ys) → Q (.ref q) H'
theorem ok_Store_pending (TX : Tx K mg) : FnOk P w K mg base CX0 2 TX.a_Store_pending TX.fd_Store_pending ["self"] (sp_Store_pending TX) := by
  refine TX.f_Store_pending.ok sc_Store_pending (fun vs H Q E h => ?_) (fun cdv A outer s H vs Q E hr h => ?_)
  · obtain ⟨s, pol, t, L, kvs, hs, n, rfl, _⟩ := h; rfl
  · obtain ⟨s, pol, t, L, kvs, hs, n, rfl, a, hk, q⟩ := h
    refine ⟨_, (pss_one (ps_ret (pe_call (ok_ascending_pairs TX) (hr.mono (by decide)) (by rfl) TX.g_ascending_pairs TX.f_ascending_pairs.kp TX.bd_ascending_pairs .nil pass0 (pa_cons (pe_fld (pv 0) rfl) pa_nil)))), ?_⟩
    exact ⟨_, rfl, f_buffer a TX.cl_Store TX.na_Store_buffer ⟨s.d, kvs, rfl, a.hd, hk, q⟩⟩
def sp_Store_policy (TX : Tx K mg) : Sp := fun vs H Q _ => ∃ (s : St) (pol : List V) (t : T) (L : List (List (Key × V))) (kvs : List (Key × V)) (hs : List V) (n : Int), vs = [.ref s.p] ∧ StAt K TX.C_Store H s pol t L kvs hs n ∧ ∀ q, SqT K H q pol → Q (.ref q) H
theorem ok_Store_policy (TX : Tx K mg) : FnOk P w K mg base CX0 1 TX.a_Store_policy TX.fd_Store_policy ["self"] (sp_Store_policy TX) := by
  refine TX.f_Store_policy.ok sc_Store_policy (fun vs H Q E h => ?_) (fun cdv A outer s H vs Q E hr h => ?_)
  · obtain ⟨s, pol, t, L, kvs, hs, n, rfl, _⟩ := h; rfl
  · obtain ⟨s, pol, t, L, kvs, hs, n, rfl, a, q⟩ := h
    refine ⟨_, (pss_one (ps_ret (pe_fld (pv 0) rfl))), ?_⟩
    exact ⟨_, rfl, f_rule a TX.cl_Store TX.na_Store_rule q⟩
end
theorem upTo_split (L : List (List (Key × V))) (z : Str) (a m : Nat) : ∀ n, upTo L z a (m + n) = (match upTo L z (a + m) n with
    | some v => some v
    | none => upTo L z a m)
  | 0 => rfl
  | n + 1 => by
    show (match valV (L.getD (a + (m + n)) []) (.inr z) with | some v => some v | none => upTo L z a (m + n)) = (match (match valV (L.getD (a + m + n) []) (.inr z) with | some v => some v | none => upTo L z (a + m) n) with | some v => some v | none => upTo L z a m)
    rw [upTo_split L z a m n, Nat.add_assoc a m n]
    cases valV (L.getD (a + (m + n)) []) (.inr z) <;> rfl
theorem look_app (L : List (List (Key × V))) (z : Str) (f : Nat) (B : List (Nat × Nat)) : ∀ A, look L z f (A ++ B) = (match (look L z f A).1 with
    | some v => look L z f A
    | none => ((look L z f B).1, (look L z f A).2 + (look L z f B).2))
  | [] => by show look L z f B = (_, 0 + _); rw [Nat.zero_add]
  | p :: A => by
    have ih := look_app L z f B A
    show (if p.1 < f then _ else look L z f (A ++ B)) = (match (if p.1 < f then _ else look L z f A : Option V × Nat).1 with | some v => (if p.1 < f then _ else look L z f A) | none => (_, (if p.1 < f then _ else look L z f A : Option V × Nat).2 + _))
    by_cases h : p.1 < f
    · rw [if_pos h, if_pos h]
      cases upTo L z p.1 (min p.2 f - p.1) with
      | some v => rfl
      | none =>
        show ((look L z f (A ++ B)).1, (look L z f (A ++ B)).2 + 1) = (match (look L z f A).1 with | some v => ((look L z f A).1, (look L z f A).2 + 1) | none => ((look L z f B).1, (look L z f A).2 + 1 + (look L z f B).2))
        rw [ih]
        clear ih
        generalize look L z f A = R
        obtain ⟨o, c⟩ := R
        cases o with
        | some v => rfl
        | none =>
          show ((look L z f B).1, c + (look L z f B).2 + 1) = ((look L z f B).1, c + 1 + (look L z f B).2)
          congr 1; omega
    · rw [if_neg h, if_neg h]; exact ih
theorem look_app1 (L : List (List (Key × V))) (z : Str) (f : Nat) (A B : List (Nat × Nat)) : (look L z f (A ++ B)).1 = (match (look L z f A).1 with
    | some v => some v
    | none => (look L z f B).1) := by
  rw [look_app]
  generalize look L z f A = R
  obtain ⟨o, c⟩ := R
  cases o <;> rfl
theorem look_up (L : List (List (Key × V))) (z : Str) (f : Nat) : ∀ (t : T) (off : Nat), (look L z f (t.stk off).reverse).1 = upTo L z off (min f (off + t.size) - off)
  | .nil, off => by
    show none = _
    have : min f (off + T.nil.size) - off = 0 := by show min f (off + 0) - off = 0; omega
    rw [this]; rfl
  | .node l r, off => by
    have ih := look_up L z f r (off + l.size + 1)
    have hsz : (T.node l r).size = l.size + 1 + r.size := rfl
    show (look L z f (((off, off + l.size + 1) :: r.stk (off + l.size + 1)).reverse)).1 = _
    rw [List.reverse_cons, look_app1, ih, hsz]
    have hB : (look L z f [(off, off + l.size + 1)]).1 = upTo L z off (min f (off + l.size + 1) - off) := by
      show (if off < f then (match upTo L z off (min (off + l.size + 1) f - off) with | some v => (some v, 1) | none => (none, 0 + 1)) else (none, 0) : Option V × Nat).1 = _
      by_cases h : off < f
      · rw [if_pos h, Nat.min_comm]
        cases upTo L z off (min f (off + l.size + 1) - off) <;> rfl
      · rw [if_neg h, show min f (off + l.size + 1) - off = 0 by omega]; rfl
    rw [hB]
    by_cases h : f ≤ off + l.size + 1
    · rw [show min f (off + l.size + 1 + r.size) - (off + l.size + 1) = 0 by omega, show min f (off + (l.size + 1 + r.size)) - off = min f (off + l.size + 1) - off by omega]
      rfl
    · have e : min f (off + (l.size + 1 + r.size)) - off = (l.size + 1) + (min f (off + l.size + 1 + r.size) - (off + l.size + 1)) := by omega
      rw [e, upTo_split, ← Nat.add_assoc off l.size 1, show min f (off + l.size + 1) - off = l.size + 1 by omega]
/-- the newest entry that counts -/
def plO (mo : V) (kvs : List (Key × V)) (L : List (List (Key × V))) (z : Str) (f : Nat) : Option V := match bufR mo kvs z with
  | some v => some v
  | none => upTo L z 0 f
theorem rdV_pl {mo : V} {kvs : List (Key × V)} {L : List (List (Key × V))} {t : T} {z : Str} {f : Nat} (h : f ≤ t.size) : rdV mo kvs L t z f = (plO mo kvs L z f).getD .non := by
  unfold rdV plO
  cases bufR mo kvs z with
  | some v => rfl
  | none =>
    show ((look L z f (t.stk 0).reverse).1).getD .non = _
    rw [look_up, Nat.zero_add, Nat.min_eq_left h, Nat.sub_zero]
/-- entries one upon another: the later ones count -/
theorem valV_merge (k : Key) : ∀ (more kvs : List (Key × V)), (more.map (·.1)).Nodup → valV (mergeK kvs more) k = (match valV more k with | some v => some v | none => valV kvs k)
  | [], _, _ => rfl
  | q :: more, kvs, h => by
    have h2 := List.nodup_cons.mp h
    show valV (mergeK (putK kvs q.1 q.2) more) k = _
    rw [valV_merge k more _ h2.2, valV_put]
    by_cases e : k = q.1
    · have hn : valV more k = none := by
        cases hv : valV more k with
        | none => rfl
        | some v =>
          have h3 : (more.any fun kv => decide (kv.1 = k)) = true := by rw [valV_any, hv]; rfl
          obtain ⟨r, hr, e2⟩ := List.any_eq_true.mp h3
          exact absurd (List.mem_map.mpr ⟨r, hr, (of_decide_eq_true e2).trans e⟩) h2.1
      rw [hn, if_pos e, valV_pos (e.symm)]
    · rw [if_neg e, valV_neg (fun z => e z.symm)]
theorem ek_merge : ∀ (more kvs : List (Key × V)), Ek kvs → Ek more → Ek (mergeK kvs more)
  | [], _, h, _ => h
  | q :: more, kvs, h, hm => by
    obtain ⟨z, hz, e⟩ := hm.ks q (by simp)
    have h1 : Ek (putK kvs q.1 q.2) := by rw [e]; exact h.put hz (hm.vs q (by simp))
    exact ek_merge more _ h1 ⟨fun r hr => hm.ks r (by simp [hr]), (List.nodup_cons.mp hm.nd).2, fun r hr => hm.vs r (by simp [hr])⟩
theorem Ek.merge {more kvs : List (Key × V)} (h : Ek kvs) (hm : Ek more) : Ek (mergeK kvs more) := ek_merge more kvs h hm
def mrgA (Ls : List (List (Key × V))) : List (Key × V) := Ls.foldl mergeK []
theorem mrgA_snoc (Ls : List (List (Key × V))) (kv : List (Key × V)) : mrgA (Ls ++ [kv]) = mergeK (mrgA Ls) kv := by unfold mrgA; rw [List.foldl_append]; rfl
theorem mrgA_ek : ∀ (n : Nat) (L : List (List (Key × V))), (∀ kv, kv ∈ L → Ek kv) → Ek (mrgA (L.take n))
  | 0, L, _ => by rw [List.take_zero]; exact Ek.nil
  | n + 1, L, h => by
    cases e : L[n]? with
    | none =>
      have h1 := List.getElem?_eq_none_iff.mp e
      have e1 : L.take (n + 1) = L.take n := by rw [List.take_of_length_le (by omega), List.take_of_length_le (by omega)]
      rw [e1]; exact mrgA_ek n L h
    | some kv =>
      have e1 : L.take (n + 1) = L.take n ++ [kv] := by rw [List.take_add_one, e]; rfl
      rw [e1, mrgA_snoc]
      exact (mrgA_ek n L h).merge (h kv (List.mem_of_getElem? e))
theorem mrgA_val (z : Str) : ∀ (n : Nat) (L : List (List (Key × V))), (∀ kv, kv ∈ L → Ek kv) → n ≤ L.length → valV (mrgA (L.take n)) (.inr z) = upTo L z 0 n
  | 0, L, _, _ => by rw [List.take_zero]; rfl
  | n + 1, L, h, hn => by
    have hl : n < L.length := hn
    have e : L[n]? = some L[n] := List.getElem?_eq_getElem hl
    have e1 : L.take (n + 1) = L.take n ++ [L[n]] := by rw [List.take_add_one, e]; rfl
    rw [e1, mrgA_snoc, valV_merge _ _ _ (h _ (List.getElem_mem hl)).nd, mrgA_val z n L h (by omega)]
    show _ = (match valV (L.getD (0 + n) []) (.inr z) with | some v => some v | none => upTo L z 0 n)
    rw [Nat.zero_add, List.getD_eq_getElem?_getD, e]; rfl
/-- the keys that have a value -/
theorem kys_mem {kvs : List (Key × V)} (h : Ek kvs) (z : Str) : z ∈ kys kvs ↔ (valV kvs (.inr z)).isSome = true := by
  constructor
  · intro hz
    obtain ⟨_, v, hv, _⟩ := h.kn hz
    rw [hv]; rfl
  · intro hs
    rw [← valV_any] at hs
    obtain ⟨q, hq, e⟩ := List.any_eq_true.mp hs
    have e' : q.1 = Sum.inr z := of_decide_eq_true e
    have : (Sum.inr z : Key) ∈ (kys kvs).map Sum.inr := by rw [← h.keys, ← e']; exact List.mem_map.mpr ⟨q, hq, rfl⟩
    obtain ⟨y, hy, e2⟩ := List.mem_map.mp this
    rw [← Sum.inr.inj e2]; exact hy
theorem kys_nd {kvs : List (Key × V)} (h : Ek kvs) : (kys kvs).Nodup := by
  have h1 := h.nd
  rw [h.keys] at h1
  exact List.Pairwise.of_map Sum.inr (fun a b hab e => hab (congrArg _ e)) h1
theorem sel_names (ks : List Str) (f : Nat → Bool) (Pz : Str → Bool) (h : ∀ (i : Nat) z, ks[i]? = some z → f i = Pz z) : ∀ n, n ≤ ks.length → ((List.range n).filter f).map (fun i => ks.getD i "") = (ks.take n).filter Pz
  | 0, _ => by simp
  | n + 1, hn => by
    have hl : n < ks.length := hn
    have e : ks[n]? = some ks[n] := List.getElem?_eq_getElem hl
    rw [List.range_succ, List.filter_append, List.map_append, sel_names ks f Pz h n (by omega), List.take_add_one, e, List.filter_append]
    congr 1
    have h1 := h n _ e
    show ((List.filter f [n]).map _) = List.filter Pz [ks[n]]
    by_cases hp : Pz ks[n] = true
    · rw [List.filter_cons_of_pos (by rw [h1]; exact hp), List.filter_cons_of_pos hp]
      simp [List.getD_eq_getElem?_getD, e]
    · rw [List.filter_cons_of_neg (by rw [h1]; exact hp), List.filter_cons_of_neg hp]; rfl
theorem dp_strs_inv {K : PySem.W.Frag} {H : Hp} : ∀ {xs : List Str} {vs : List V}, DpAll K H vs (xs.map PyData.str) → vs = xs.map V.str
  | [], _, .nil => rfl
  | _ :: _, _, .cons a b => by cases a; rw [dp_strs_inv b]; rfl
/-- names in ascending order, told by what they are -/
structure Asc (Pz : Str → Prop) (ys : List Str) : Prop where
  nd : ys.Nodup
  mem : ∀ z, z ∈ ys ↔ Pz z
  so : sortedS ys = true
theorem Asc.uniq {Pz : Str → Prop} {xs ys : List Str} (a : Asc Pz xs) (b : Asc Pz ys) : xs = ys :=
  sorted_uniq xs ys ((List.perm_ext_iff_of_nodup a.nd b.nd).mpr fun z => (a.mem z).trans (b.mem z).symm) a.so b.so
theorem asc_of {ks ys : List Str} {Pz : Str → Bool} {Pr : Str → Prop} (nd : ks.Nodup) (h : ∀ z, (z ∈ ks ∧ Pz z = true) ↔ Pr z) (hp : ys.Perm (ks.filter Pz)) (so : sortedS ys = true) : Asc Pr ys :=
  ⟨hp.nodup_iff.mpr (nd.sublist List.filter_sublist), fun z => by rw [hp.mem_iff, List.mem_filter]; exact h z, so⟩
/-- a key has a value at a moment -/
def Prs (mo : V) (kvs : List (Key × V)) (L : List (List (Key × V))) (f : Nat) (z : Str) : Prop := (plO mo kvs L z f).getD .non ≠ .non
/-- the names of a dict that a test takes -/
theorem lc_names {K : PySem.W.Frag} {M : List (Key × V)} (hM : Ek M) (Pz : Str → Bool) {d : Addr} {od : Obj} {g : TG} {tt : TT} {te : TE} {vs : List Nat} {σ : L2.St} {H1 : Hp} {D : Addr} {Qd : Hp → Prop} (hd : H1 d = some (.frz od (.dK M))) (hD : H1 D = none)
    (hs : ∀ (i : Nat) (z : Str) (H : Hp), M[i]? = some (Sum.inr z, (valV M (.inr z)).getD .non) → Same H1 H → z ∈ kys M → ∀ R : V → Hp → Prop, (∀ y H4, Same H H4 → Dp K H4 y (.str z) → R y H4) →
      g (.str z) (wipe σ vs) H fun σ2 H2 => wipe σ2 vs = wipe σ vs ∧ tt σ2 H2 fun b H3 => b = Pz z ∧ Same H H3 ∧ (b = true → te σ2 H3 R))
    (hq : ∀ H, Same H1 H → H D = some (.lst (((kys M).filter Pz).map V.str)) → Qd H)
    (mg : ∀ x σ' H' (Q Q' : L2.St → Hp → Prop), (∀ a b, Q a b → Q' a b) → g x σ' H' Q → g x σ' H' Q') (mt : ∀ σ' H' (Q Q' : Bool → Hp → Prop), (∀ a b, Q a b → Q' a b) → tt σ' H' Q → tt σ' H' Q') :
    ∃ W : Nat → Nat → Hp → Prop, (∃ m, W 0 m (upd H1 D (.lst []))) ∧ ∀ i m H, W i m H →
      ((Itk d od M).stop i H ∧ Qd H) ∨ ((Itk d od M).go i H ∧ ∃ Nx : Hp → Prop, (∀ H', Nx H' → ∃ m', m' < m ∧ W (i + 1) m' H') ∧ ∀ x H', (Itk d od M).yld i H x H' → g x (wipe σ vs) H' fun σ2 H2 => wipe σ2 vs = wipe σ vs ∧ tt σ2 H2 fun b H3 =>
        if b = true then te σ2 H3 fun y H4 => ∃ acc, H4 D = some (.lst acc) ∧ acc.length < sizeLine ∧ Nx (upd H4 D (.lst (acc ++ [y]))) else Nx H3) := by
  have hkl : (kys M).length = M.length := by
    have e := congrArg List.length hM.keys
    rw [List.length_map, List.length_map] at e; exact e.symm
  have hk : ∀ (i : Nat) k v, M[i]? = some (k, v) → ∃ z, k = Sum.inr z ∧ (kys M)[i]? = some z ∧ v = (valV M (.inr z)).getD .non := fun i k v h => by
    have h1 : (M.map (·.1))[i]? = some k := by rw [List.getElem?_map, h]; rfl
    rw [hM.keys, List.getElem?_map] at h1
    obtain ⟨z, hz, rfl⟩ := Option.map_eq_some_iff.mp h1
    refine ⟨z, rfl, hz, ?_⟩
    have h2 : ∀ M : List (Key × V), (M.map (·.1)).Nodup → (Sum.inr z, v) ∈ M → valV M (.inr z) = some v := fun M => by
      induction M with
      | nil => intro _ h; cases h
      | cons r M ih =>
        intro h4 h5
        have h6 := List.nodup_cons.mp h4
        rcases List.mem_cons.mp h5 with rfl | h5
        · exact valV_pos rfl
        · rw [valV_neg (fun e => h6.1 (by show r.1 ∈ _; rw [e]; exact List.mem_map.mpr ⟨_, h5, rfl⟩))]
          exact ih h6.2 h5
    rw [h2 M hM.nd (List.mem_of_getElem? h)]; rfl
  refine lc_sel (K := K) (walk_keys (d := d) (o := od) (kvs := M)) (fun i => Pz ((kys M).getD i "")) (fun i => .str ((kys M).getD i "")) (fun i _ => .str _) (by have := hM.len; omega) hD (fun H' s' => s' _ _ hd) ?_ ?_ mg mt
  · rintro i x H H' hi s ⟨rfl, k, v, hkv, rfl⟩ R hR
    obtain ⟨z, rfl, hz, rfl⟩ := hk i k v hkv
    have e : (kys M).getD i "" = z := by rw [List.getD_eq_getElem?_getD, hz]; rfl
    have := hs i z H' hkv s (List.mem_of_getElem? hz) R (fun y H4 s4 d4 => hR y H4 s4 (by rw [e]; exact d4))
    rw [e]; exact this
  · intro H acc s ha hA
    have e := sel_names (kys M) (fun i => Pz ((kys M).getD i "")) Pz (fun i z hz => by rw [List.getD_eq_getElem?_getD, hz]; rfl) (kys M).length (Nat.le_refl _)
    rw [List.take_length, hkl] at e
    have e2 : ((List.range M.length).filter fun i => Pz ((kys M).getD i "")).map (fun i => PyData.str ((kys M).getD i "")) = ((kys M).filter Pz).map PyData.str := by
      rw [← e, List.map_map]; rfl
    rw [e2] at hA
    rw [dp_strs_inv hA] at ha
    exact hq H s ha
section
variable {P : Program} {w : World} {K : PySem.W.Frag} {mg : Str → Option Value} {base : Heap}
def sp_Store_present (TX : Tx K mg) : Sp := fun vs H Q _ => ∃ (s : St) (pol : List V) (t : T) (L : List (List (Key × V))) (kvs : List (Key × V)) (hs : List V) (n : Int) (mo : V) (f : Nat), vs = [.ref s.p, mo] ∧ StAt K TX.C_Store H s pol t L kvs hs n ∧ t.size ≤ 60 ∧ Mom mo t f ∧ Ek kvs ∧ (∀ kv, kv ∈ L → Ek kv) ∧
  ∀ H' q ys, Same H H' → Asc (Prs mo kvs L f) ys → SqT K H' q (ys.map V.str) → Q (.ref q) H'
theorem ok_Store_present (TX : Tx K mg) : FnOk P w K mg base CX0 5 TX.a_Store_present TX.fd_Store_present ["self", "moment"] (sp_Store_present TX) := by
  refine FunD.okN TX.f_Store_present sc_Store_present (fun vs H Q E h => ?_) (fun cdv A outer s H vs Q E hr h => ?_)
  · obtain ⟨s, pol, t, L, kvs, hs, n, mo, f, rfl, _⟩ := h; rfl
  · obtain ⟨s, pol, t, L, kvs, hs, n, mo, f, rfl, a, h60, hm, hk, hL, q⟩ := h
    refine ⟨_, (pss_cons (ps_expr (pe_meth (pv 0) TX.cl_Store TX.m_Store_check_moment (ok_Store_check_moment TX) (hr.mono (by decide)) TX.bd_Store_check_moment .nil pass0 (pa_cons (pv 1) pa_nil)))
      (pss_cons (ps_set (i := 2) sc_Store_present.nd rfl (.inr rfl) pe_dnewK)
      (pss_cons (ps_for PassesOwn.never rfl (k_piL (K := K) rfl (pe_slice sl_list (pe_fld (pv 0) rfl) po_none (po_some (pe_meth (pv 0) TX.cl_Store TX.m_Store_flushes_until (ok_Store_flushes_until TX) (hr.mono (by decide)) TX.bd_Store_flushes_until .nil pass0 (pa_cons (pv 1) pa_nil))))) (pg_name (i := 3) sc_Store_present.nd rfl (.inl rfl))
        (pss_one (ps_expr (pe_bm PySem.F.plainAttrs_dict PySem.F.slot_dict_update PySem.F.type_dict_update mt_updateK (pv 2) (pa_cons (pv 3) pa_nil)))))
      (pss_cons (ps_if (pt_cmpR op_isN (pv 1) pe_non (nomark _))
        (pss_one (ps_expr (pe_bm PySem.F.plainAttrs_dict PySem.F.slot_dict_update PySem.F.type_dict_update mt_updateK (pv 2) (pa_cons (pe_fld (pv 0) rfl) pa_nil))))
        pss_nil)
      (pss_one (ps_ret (pe_callTy (T := "tuple") (k_tupOf (K := K) rfl) (by rfl) TX.b_tuple (by decide +kernel) (pa_cons (pe_callB (id := "sorted") cr_sortedS (by rfl) TX.b_sorted (by decide +kernel) (pa_cons (pe_lock (pe_lc (own := [("key", 4)]) (by rfl) sc_Store_present.nd (pi_keys (pv 2)) (blkOk_by (own := [("key", 4)]) (N := N_Store_present) (sc := defScope s_Store_present) (by decide +kernel)) (fun _ _ _ _ _ => (pg_name (i := 4) sc_Store_present.nd rfl (Or.inl rfl))) (fun _ _ _ _ _ => (pts_one (pt_cmpR op_notN (pe_dget (hu_of hr) (pv 2) (pv 4) (fun _ _ => rfl)) pe_non (nomark _)))) (fun _ _ _ _ _ => (pv 4)))) pa_nil)) pa_nil)))))))), ?_⟩
    have hfz : f ≤ t.size := by rcases hm with ⟨_, rfl⟩ | ⟨_, h⟩ <;> omega
    have hll : L.length = t.size := a.l2
    refine ⟨_, rfl, f_meth a (by decide +kernel) ⟨_, rfl, s, pol, t, L, kvs, hs, n, mo, f, rfl, a, hm, fun H1 s1 => ?_⟩⟩
    have a1 := a.same s1
    intro D nD
    have s2 := same_upd (o := .dK []) nD
    have hD2 := upd_same (H := H1) (a := D) (o := .dK [])
    have a2 := a1.same s2
    have s12 := s1.trans s2
    have fD : H D = none := s1.free nD
    generalize upd H1 D _ = H2 at s2 hD2 a2 s12 ⊢
    refine ⟨_, rfl, f_batches a2 TX.cl_Store TX.na_Store_batches ⟨_, rfl, f_meth a2 (by decide +kernel) ⟨_, rfl, s, pol, t, L, kvs, hs, n, mo, f, rfl, a2, hm, _, rfl, s.b, _, rfl, .inl (.inl a2.hb), fun l nl => ?_⟩⟩⟩
    rw [cut_to (by rw [List.length_map, a2.l1, hll]; exact hfz)]
    have s3 := same_upd (o := .lst ((s.ds.map V.ref).take f)) nl
    have hl3 := upd_same (H := H2) (a := l) (o := .lst ((s.ds.map V.ref).take f))
    have a3 := a2.same s3
    have hD3 := s3 _ _ hD2
    have s13 := s12.trans s3
    have nlD : l ≠ D := fun e => by rw [e, hD2] at nl; cases nl
    generalize upd H2 l _ = H3 at s3 hl3 a3 hD3 s13 ⊢
    have hlen : ((s.ds.map V.ref).take f).length = f := by rw [List.length_take, List.length_map, a3.l1, hll]; omega
    have live : D ∉ s.all := fun h => StAt.live a1 h nD
    refine ⟨l, rfl, ⟨_, .inl (.inl hl3)⟩, for_it (walk_list (xs := (s.ds.map V.ref).take f)) (fun i σ H' => ∃ y3 y4, σ = [some (.ref s.p), some mo, some (.ref D), y3, y4] ∧ Same H H' ∧ ButL [D] H3 H' ∧ H' D = some (.dK (mrgA (L.take i)))) ⟨_, _, rfl, s13, .refl, by rw [List.take_zero]; exact hD3⟩ (fun i σ H' _ h => by obtain ⟨_, _, _, _, b, _⟩ := h; exact .inl (.inl (b _ _ (by simp [nlD]) hl3))) ?_ ?_⟩
    · rintro i x σ H4 H4' hi ⟨y3, y4, rfl, s4, b4, hD4⟩ ⟨rfl, hx⟩
      rw [hlen] at hi
      rw [List.getElem?_take, if_pos hi, List.getElem?_map] at hx
      obtain ⟨di, hdi⟩ : ∃ di, s.ds[i]? = some di := ⟨_, List.getElem?_eq_getElem (by rw [a3.l1, hll]; omega)⟩
      rw [hdi] at hx
      cases hx
      obtain ⟨kv, h1, h2⟩ := a3.bat i di hdi
      have ndi : di ≠ D := fun e => live (by rw [← e]; simp [St.all, List.mem_of_getElem? hdi])
      have h2' := b4 _ _ (by simp [ndi]) h2
      have hek := mrgA_ek i L hL
      have hkv := hL kv (List.mem_of_getElem? h1)
      refine ⟨_, rfl, .inr (.inr (.inl ⟨rfl, .inl ⟨_, hD4⟩⟩)), _, rfl, D, di, _, kv, rfl, rfl, Ne.symm ndi, hD4, .inl h2', by have := hek.len; have := hkv.len; exact sz60 (by omega), ?_⟩
      refine ⟨_, _, rfl, Same.mut s4 fD, b4.trans (.upd (by simp)), ?_⟩
      rw [upd_same, List.take_add_one, h1]
      show some (HO.dK (mergeK (mrgA (L.take i)) kv)) = some (HO.dK (mrgA (L.take i ++ [kv])))
      rw [mrgA_snoc]
    · rintro σ H4 ⟨y3, y4, rfl, s4, b4, hD4⟩
      rw [hlen] at hD4
      have hek := mrgA_ek f L hL
      have hval : ∀ z, valV (mrgA (L.take f)) (.inr z) = upTo L z 0 f := fun z => mrgA_val z f L hL (by omega)
      have a4 : StAt K TX.C_Store H4 s pol t L kvs hs n := StAt.keepL a3 b4 (fun x hx h => live (by rw [← List.mem_singleton.mp h]; exact hx)) (fun c xs h => by
        have key : ∀ u, H3 c = some u → (∀ l, u ≠ .dK l) → H4 c = some u := fun u hu n3 => b4 c u (fun hc => by
          rw [List.mem_singleton.mp hc, hD3] at hu; exact n3 _ (Option.some.inj hu).symm) hu
        rcases h with (h | ⟨o, h⟩) | h
        · exact .inl (.inl (key _ h (fun _ z => nomatch z)))
        · exact .inl (.inr ⟨o, key _ h (fun _ z => nomatch z)⟩)
        · exact .inr h)
      have hdn : s.d ≠ D := fun e => live (by rw [← e]; simp [St.all, St.own])
      refine ⟨_, rfl, rfl, _, rfl, ?_⟩
      by_cases hmo : mo = .non
      case' pos =>
        refine decT hmo ⟨_, rfl, .inr (.inr (.inl ⟨rfl, .inl ⟨_, hD4⟩⟩)), _, rfl, f_buffer a4 TX.cl_Store TX.na_Store_buffer ⟨D, s.d, _, kvs, rfl, rfl, Ne.symm hdn, hD4, .inl a4.hd, by have := hek.len; have := hk.len; exact sz60 (by omega), ?_⟩⟩
        have e5 : Ek (mergeK (mrgA (L.take f)) kvs) := hek.merge hk
        have v5 : ∀ z, valV (mergeK (mrgA (L.take f)) kvs) (.inr z) = plO mo kvs L z f := fun z => by
          rw [valV_merge _ _ _ hk.nd, hval]
          unfold plO bufR
          rw [if_pos hmo]
        have s5 : Same H (upd H4 D (.dK (mergeK (mrgA (L.take f)) kvs))) := Same.mut s4 fD
        have hD5 := upd_same (H := H4) (a := D) (o := .dK (mergeK (mrgA (L.take f)) kvs))
        generalize upd H4 D _ = G at s5 hD5 ⊢
        generalize mergeK (mrgA (L.take f)) kvs = M at e5 v5 hD5 ⊢
      case' neg =>
        refine decF hmo ?_
        have e5 := hek
        have v5 : ∀ z, valV (mrgA (L.take f)) (.inr z) = plO mo kvs L z f := fun z => by
          rw [hval]
          unfold plO bufR
          rw [if_neg hmo]
        have s5 := s4
        have hD5 := hD4
        generalize H4 = G at s5 hD5 ⊢
        generalize mrgA (L.take f) = M at e5 v5 hD5 ⊢
      all_goals (
        refine ⟨D, .dK M, hD5, trivial, fun od => ⟨.ref D, rfl, D, od, rfl, .inl ⟨M, upd_same, fun DD nDD => ?_⟩⟩⟩
        have hDDD : DD ≠ D := fun e => by rw [e, upd_same] at nDD; cases nDD
        refine lc_names (K := K) e5 (fun z => !decide ((plO mo kvs L z f).getD .non = .non)) upd_same nDD ?_ ?_ (fun x σ' H' Q Q' h => h _ _) (fun σ' H' Q Q' hm h => ?_)
        · intro i z G4 hi s4' hz R hR
          obtain ⟨v, hv⟩ := Option.isSome_iff_exists.mp ((kys_mem e5 z).mp hz)
          refine ⟨rfl, _, rfl, _, rfl, D, v, rfl, .inl ⟨M, .inr z, .inr ⟨od, s4' _ _ upd_same⟩, rfl, hv.symm⟩, rfl, _, rfl, ?_, .refl _, fun _ => ⟨_, rfl, hR _ _ (.refl _) (.str _)⟩⟩
          rw [← v5, hv]; rfl
        · intro G5 s5' hDD5
          refine ⟨s5' _ _ upd_same, ?_⟩
          have s34 : Same G (upd G5 D (.dK M)) := fun u o e => by
            by_cases h : u = D
            · rw [h] at e ⊢; rw [upd_same, ← hD5, e]
            · rw [upd_ne h]; exact s5' _ _ (by rw [upd_ne h]; exact e)
          have hDD6 : (upd G5 D (.dK M)) DD = some (.lst (((kys M).filter fun z => !decide ((plO mo kvs L z f).getD .non = .non)).map V.str)) := by rw [upd_ne hDDD]; exact hDD5
          generalize upd G5 D (.dK M) = G6 at s34 hDD6 ⊢
          have hfl := List.length_filter_le (fun z => !decide ((plO mo kvs L z f).getD .non = .non)) (kys M)
          refine ⟨DD, _, rfl, .inl (.inl hDD6), by have := e5.kyl; omega, fun ys p hp hs np => ?_⟩
          have s7 := same_upd (o := .lst (ys.map V.str)) np
          refine ⟨p, _, rfl, .inl ⟨.inl (.inl upd_same), fun o no => ?_⟩⟩
          refine q _ o ys (((s5.trans s34).trans s7).trans (same_upd no)) (asc_of (kys_nd e5) (fun z => ?_) hp hs) (.inl (.inl upd_same))
          rw [kys_mem e5, v5]
          unfold Prs
          cases plO mo kvs L z f with
          | none => simp
          | some v => simp
        · obtain ⟨x1, e1, x2, e2, a', v', e3, e4, e6, b, e7, e8⟩ := h
          exact ⟨x1, e1, x2, e2, a', v', e3, e4, e6, b, e7, hm _ _ e8⟩)
end
section
variable {P : Program} {w : World} {K : PySem.W.Frag} {mg : Str → Option Value} {base : Heap}
/-- nothing to undo -/
def sp_Store_undoX (TX : Tx K mg) : Sp := fun vs H Q E => ∃ (s : St) (pol : List V) (t : T) (L : List (List (Key × V))) (kvs : List (Key × V)) (n : Int), vs = [.ref s.p] ∧ StAt K TX.C_Store H s pol t L kvs [] n ∧ E (.ref TX.c_NothingToUndo) none H
theorem ok_Store_undoX (TX : Tx K mg) : FnOk P w K mg base (L2.CX P w) 1 TX.a_Store_undo TX.fd_Store_undo ["self"] (sp_Store_undoX TX) := by
  refine TX.f_Store_undo.okX sc_Store_undo (fun vs H Q E h => ?_) (fun cdv A outer s H vs Q E hr h => ?_)
  · obtain ⟨s, pol, t, L, kvs, n, rfl, _⟩ := h; rfl
  · obtain ⟨s, pol, t, L, kvs, n, rfl, a, q⟩ := h
    refine ⟨_, (pss_cons (ps_if (pt_not (pt_truth (pe_fld (pv 0) rfl) (by intro _; rfl)))
        (pss_one (ps_raise rfl takesX (pmk_own0 PySem.F.excBase_ValueError TX.xi_NothingToUndo TX.gc_NothingToUndo TX.kc_NothingToUndo (raises_xf (K := K) rfl TX.xf_NothingToUndo TX.xi_NothingToUndo) (by rfl))))
        pss_nil)
      (pss_cons (ps_set (i := 1) sc_Store_undo.nd rfl (.inl rfl) (pe_bm0 PySem.F.plainAttrs_list PySem.F.slot_list_pop PySem.F.type_list_pop mt_pop (pe_fld (pv 0) rfl)))
      (pss_one (ps_if (pt_cmpR op_isN (pv 1) pe_non (nomark _))
        (pss_cons (ps_expr (pe_bm0 PySem.F.plainAttrs_list PySem.F.slot_list_pop PySem.F.type_list_pop mt_pop (pe_fld (pv 0) rfl)))
        (pss_one (ps_fld (pv 0) (pe_bm0 PySem.F.plainAttrs_list PySem.F.slot_list_pop PySem.F.type_list_pop mt_pop (pe_fld (pv 0) rfl)) rfl)))
        (pss_cons (ps_asg (pv 1) (pg_tup rfl (pgs_cons (pg_name (i := 2) sc_Store_undo.nd rfl (.inl rfl)) (pgs_cons (pg_name (i := 3) sc_Store_undo.nd rfl (.inl rfl)) pgs_nil))))
        (pss_one (ps_if (pt_truth (pv 3) (by intro _; rfl))
          (pss_one (ps_dput (hu_of hr) (pe_fld (pv 0) rfl) (pv 2) (pe_ix (k_ixT (K := K) rfl) (pv 3) pe_int (fun _ _ => rfl)) (by rfl)))
          (pss_one (ps_ddel (pe_fld (pv 0) rfl) (pv 2)))))))))), ?_⟩
    refine ⟨_, rfl, f_history a TX.cl_Store TX.na_Store_history ⟨!([] : List V).isEmpty, .inl ⟨_, .inl (.inl a.hh), rfl⟩, ?_⟩⟩
    exact iteT q
end
/-! ### what stands beside the draws' list -/
def off (a : Addr) (H : Hp) : Hp := fun b => if b = a then none else H b
theorem off_at {a b : Addr} {H : Hp} (h : b ≠ a) : off a H b = H b := if_neg h
theorem off_sub {a : Addr} {H : Hp} : Same (off a H) H := fun b o e => by
  by_cases h : b = a
  · unfold off at e; rw [if_pos h] at e; cases e
  · rwa [off_at h] at e
theorem off_but {a : Addr} {H H' : Hp} (b : But a H H') : Same (off a H) (off a H') := fun c o e => by
  by_cases h : c = a
  · unfold off at e; rw [if_pos h] at e; cases e
  · rw [off_at h] at e ⊢; exact b _ _ h e
theorem off_same {a : Addr} {H H' : Hp} (s : Same H H') : Same (off a H) (off a H') := off_but (But.of s)
theorem off_extN {a : Addr} {H H' : Hp} (s : LamX.ExtN H H') : LamX.ExtN (off a H) (off a H') := fun c o e n => by
  by_cases h : c = a
  · unfold off at e; rw [if_pos h] at e; cases e
  · rw [off_at h] at e ⊢; exact s _ _ e n
theorem off_new {a : Addr} {H G : Hp} {o : HO} (ha : H a = some o) : Same (fun b => match H b with | none => G b | some _ => none) (off a G) := fun c u e => by
  have e' : (match H c with | none => G c | some _ => none) = some u := e
  cases h : H c with
  | some x => rw [h] at e'; cases e'
  | none =>
    rw [h] at e'
    rw [off_at (fun z => by rw [z, ha] at h; cases h)]
    exact e'
def NoInt : PyData → Prop
  | .int _ => False
  | _ => True
theorem notJ_of {K : PySem.W.Frag} {H : Hp} {x : V} {d : PyData} (h : Dq K H x d) (hn : NoInt d) : NotJ K H x := by
  cases h with
  | nonq => exact ⟨"NoneType", false, false, .base .non, by decide +kernel, by decide +kernel, rfl⟩
  | blq b => exact ⟨"bool", true, true, .base (.bl b), by decide +kernel, by decide +kernel, rfl⟩
  | intq i => exact (show False from hn).elim
  | strq x => exact ⟨"str", false, false, .base (.str x), by decide +kernel, by decide +kernel, rfl⟩
  | lstq hs _ _ =>
    refine ⟨"list", false, false, ?_, by decide +kernel, by decide +kernel, rfl⟩
    rcases hs with (h | ⟨o, h⟩) | ⟨o, its, n, h1, h2, _⟩
    · exact .base (.lst h)
    · exact .base (.frz h)
    · exact .kList h1 h2
  | tupq hs _ =>
    refine ⟨"tuple", false, false, ?_, by decide +kernel, by decide +kernel, rfl⟩
    rcases hs with (h | ⟨o, h⟩) | ⟨o, its, n, h1, h2, _⟩
    · exact .base (.tup h)
    · exact .fTuple h
    · exact .kTuple h1 h2
  | dctq he _ _ => exact ⟨"dict", false, false, .base (.dK he), by decide +kernel, by decide +kernel, rfl⟩
def tyq : PyData → String
  | .none => "NoneType"
  | .bool _ => "bool"
  | .int _ => "int"
  | .str _ => "str"
  | .list _ => "list"
  | .tuple _ => "tuple"
  | .dict _ => "dict"
theorem ty_q {K : PySem.W.Frag} {H : Hp} {x : V} {d : PyData} (h : Dq K H x d) : TyX K H x (.type (tyq d)) := by
  cases h with
  | nonq => exact .base .non
  | blq b => exact .base (.bl b)
  | intq i => exact .base (.int i)
  | strq x => exact .base (.str x)
  | lstq hs _ _ =>
    rcases hs with (h | ⟨o, h⟩) | ⟨o, its, n, h1, h2, _⟩
    · exact .base (.lst h)
    · exact .base (.frz h)
    · exact .kList h1 h2
  | tupq hs _ =>
    rcases hs with (h | ⟨o, h⟩) | ⟨o, its, n, h1, h2, _⟩
    · exact .base (.tup h)
    · exact .fTuple h
    · exact .kTuple h1 h2
  | dctq he _ _ => exact .base (.dK he)
theorem dqAll_get {K : PySem.W.Frag} {H : Hp} : ∀ {vs : List V} {ds : List PyData}, DqAll K H vs ds → ∀ (i : Nat) (x : V), vs[i]? = some x → ∃ d, ds[i]? = some d ∧ Dq K H x d
  | _, _, .nil, _, _, h => by cases h
  | _, _, .cons a b, 0, x, h => by cases h; exact ⟨_, rfl, a⟩
  | _, _, .cons a b, i + 1, x, h => dqAll_get b i x h
theorem dqAll_len {K : PySem.W.Frag} {H : Hp} : ∀ {vs : List V} {ds : List PyData}, DqAll K H vs ds → vs.length = ds.length
  | _, _, .nil => rfl
  | _, _, .cons _ b => congrArg (· + 1) (dqAll_len b)
def okB : PyData → Bool
  | .int i => decide (1 ≤ i) && decide (i ≤ 60)
  | _ => false
def pn (nm : Str) : Nat := if nm = "manual" then 0 else if nm = "runs" then 1 else 2
def pnames : List Str := ["manual", "runs", "budget"]
def nonames : List Str := ["", "a", "1", "run"]
/-- whether data are a policy -/
def polB : PyData → Bool
  | .tuple (.str nm :: ds) => decide (nm ∈ pnames) && decide (ds.length = pn nm) && (ds.map okB).all id
  | _ => false
/-- the first text, if there is one, is a name that is looked at -/
def NmOk (d : PyData) : Prop := ∀ nm ds, d = .tuple (.str nm :: ds) → nm ∈ pnames ∨ nm ∈ nonames
section
variable {P : Program} {w : World} {K : PySem.W.Frag} {mg : Str → Option Value} {base : Heap}
theorem pol_kd2 (TX : Tx K mg) [h : WP w TX] {nm : Str} (hp : nm ∈ pnames) : ∃ r, PySem.W.nsIn K TX.d_POLICIES nm = some r ∧ r.isSome = true ∧ KDct K w TX.d_POLICIES nm (.int ((pn nm : Nat) : Int)) := by
  unfold pnames at hp
  simp only [List.mem_cons, List.not_mem_nil, or_false] at hp
  rcases hp with rfl | rfl | rfl
  · obtain ⟨t, ht⟩ := TX.ke_POLICIES_manual
    exact ⟨_, ht, rfl, kv_POLICIES_manual TX⟩
  · obtain ⟨t, ht⟩ := TX.ke_POLICIES_runs
    exact ⟨_, ht, rfl, kv_POLICIES_runs TX⟩
  · obtain ⟨t, ht⟩ := TX.ke_POLICIES_budget
    exact ⟨_, ht, rfl, kv_POLICIES_budget TX⟩
theorem pol_no (TX : Tx K mg) {nm : Str} (hp : nm ∈ nonames) : PySem.W.nsIn K TX.d_POLICIES nm = some none := by
  unfold nonames at hp
  simp only [List.mem_cons, List.not_mem_nil, or_false] at hp
  rcases hp with rfl | rfl | rfl | rfl
  · exact TX.ko_POLICIES_0
  · exact TX.ko_POLICIES_1
  · exact TX.ko_POLICIES_2
  · exact TX.ko_POLICIES_3
def sp_is_policyX (K : PySem.W.Frag) : Sp := fun vs H Q _ => ∃ (x : V) (d : PyData), vs = [x] ∧ Dq K H x d ∧ NmOk d ∧ (∀ ds, d = .tuple ds → ds.length ≤ 100) ∧ ∀ H', Same H H' → Q (.bl (polB d)) H'
theorem ok_is_policyX (TX : Tx K mg) [WP w TX] : FnOk P w K mg base CX0 4 TX.a_is_policy TX.fd_is_policy ["value"] (sp_is_policyX K) := by
  refine TX.f_is_policy.ok sc_is_policy (fun vs H Q E h => ?_) (fun cdv A outer s H vs Q E hr h => ?_)
  · obtain ⟨x, d, rfl, _⟩ := h; rfl
  · obtain ⟨x, d, rfl, hq, hnm, hlen, q⟩ := h
    refine ⟨_, (pss_cons (ps_if (PW.pt (pw_or (pt_not (pt_val (pe_callB (id := "isinstance") (k_isi (K := K) rfl) (by rfl) TX.b_isinstance (by decide +kernel) (pa_cons (pv 0) (pa_cons (pe_bltn (v := .ty "tuple") (by rfl) TX.b_tuple (by decide +kernel) rfl) pa_nil))))) (pw_or (pt_cmpR op_eq (pe_callB (id := "len") (k_len (K := K) rfl) (by rfl) TX.b_len (by decide +kernel) (pa_cons (pv 0) pa_nil)) pe_int (nomark _)) (pw_or1 (pt_not (pt_val (pe_callB (id := "isinstance") (k_isi (K := K) rfl) (by rfl) TX.b_isinstance (by decide +kernel) (pa_cons (pe_ix (k_ixT (K := K) rfl) (pv 0) pe_int (fun _ _ => rfl)) (pa_cons (pe_bltn (v := .ty "str") (by rfl) TX.b_str (by decide +kernel) rfl) pa_nil)))))))))
        (pss_one (ps_ret pe_bl))
        pss_nil)
      (pss_cons (ps_if (PW.pt (pw_or (pt_cmpR (op_notIn_kd (kd_POLICIES (w := w) TX)) (pe_ix (k_ixT (K := K) rfl) (pv 0) pe_int (fun _ _ => rfl)) (pe_glob (v := .ref TX.d_POLICIES) (by rfl) TX.gd_POLICIES rfl) (by rfl)) (pw_or1 (pt_cmpR op_ne (pe_callB (id := "len") (k_len (K := K) rfl) (by rfl) TX.b_len (by decide +kernel) (pa_cons (pv 0) pa_nil)) (pe_op op_add pe_int (pe_ix ix_kdict (pe_glob (v := .ref TX.d_POLICIES) (by rfl) TX.gd_POLICIES rfl) (pe_ix (k_ixT (K := K) rfl) (pv 0) pe_int (fun _ _ => rfl)) (fun _ _ => rfl))) (nomark _)))))
        (pss_one (ps_ret pe_bl))
        pss_nil)
      (pss_one (ps_ret (pe_callB (id := "all") (cr_all rfl) (by rfl) TX.b_all (by decide +kernel) (pa_cons (pe_lc (own := [("budget", 1)]) (by rfl) sc_is_policy.nd (k_piT (K := K) rfl (pe_slice (k_slT (K := K) rfl) (pv 0) (po_some pe_int) po_none)) (blkOk_by (own := [("budget", 1)]) (N := N_is_policy) (sc := defScope s_is_policy) (by decide +kernel)) (fun _ _ _ _ _ => (pg_name (i := 1) sc_is_policy.nd rfl (Or.inl rfl))) (fun _ _ _ _ _ => pts_nil) (fun _ _ _ _ _ => (pe_and (pe_call (ok_is_count_up_toX TX) (hr.mono (by decide)) (by rfl) TX.g_is_count_up_to TX.f_is_count_up_to.kp TX.bd_is_count_up_to .nil pass0 (pa_cons (pv 1) (pa_cons (pe_glob (v := .int (60)) (by rfl) TX.c_MOST_BUDGET ⟨_, rfl⟩) pa_nil))) (pe_one (pe_cmpR op_gt (pv 1) pe_int (nomark _)))))) pa_nil)))))), ?_⟩
    have hT := ty_q hq
    by_cases hd : ∃ ds, d = .tuple ds
    case' neg =>
      have hb : L2.kitB (tyq d) "tuple" = some false := by
        cases d with
        | none => exact (by decide +kernel : L2.kitB "NoneType" "tuple" = some false)
        | bool b => exact (by decide +kernel : L2.kitB "bool" "tuple" = some false)
        | int b => exact (by decide +kernel : L2.kitB "int" "tuple" = some false)
        | str b => exact (by decide +kernel : L2.kitB "str" "tuple" = some false)
        | list b => exact (by decide +kernel : L2.kitB "list" "tuple" = some false)
        | dict b => exact (by decide +kernel : L2.kitB "dict" "tuple" = some false)
        | tuple b => exact absurd ⟨_, rfl⟩ hd
      have hf : polB d = false := by
        cases d <;> first | rfl | exact absurd ⟨_, rfl⟩ hd
      rw [hf] at q
      refine ⟨x, rfl, x, .ty "tuple", .type (tyq d), .type "tuple", false, rfl, .ty _, hT, kit_ty hb, false, rfl, iteT ?_⟩
      exact iteT (q _ (Same.refl _))
    obtain ⟨ds, rfl⟩ := hd
    have hl := hlen ds rfl
    cases hq with
    | @tupq a xs _ hS hA =>
      have hxl := dqAll_len hA
      refine ⟨.ref a, rfl, .ref a, .ty "tuple", .type "tuple", .type "tuple", true, rfl, .ty _, hT, kit_ty (by decide +kernel), true, rfl, iteF ?_⟩
      cases hA with
      | nil =>
        refine ⟨.ref a, rfl, a, _, rfl, .inr hS, rfl, _, rfl, decT rfl ?_⟩
        exact iteT (q _ (Same.refl _))
      | @cons v vs d0 ds hv hA =>
      have h0 : atI (v :: vs) 0 = some v := atI_nat (j := 0) rfl
      refine ⟨.ref a, rfl, a, _, rfl, .inr hS, rfl, _, rfl, decF (fun z => by have := V.int.inj z; simp at this; omega) ?_⟩
      by_cases hs : ∃ nm, d0 = .str nm
      case' neg =>
        have hb : L2.kitB (tyq d0) "str" = some false := by
          cases d0 with
          | none => exact (by decide +kernel : L2.kitB "NoneType" "str" = some false)
          | bool b => exact (by decide +kernel : L2.kitB "bool" "str" = some false)
          | int b => exact (by decide +kernel : L2.kitB "int" "str" = some false)
          | str b => exact absurd ⟨_, rfl⟩ hs
          | list b => exact (by decide +kernel : L2.kitB "list" "str" = some false)
          | dict b => exact (by decide +kernel : L2.kitB "dict" "str" = some false)
          | tuple b => exact (by decide +kernel : L2.kitB "tuple" "str" = some false)
        have hf : polB (.tuple (d0 :: ds)) = false := by
          cases d0 <;> first | rfl | exact absurd ⟨_, rfl⟩ hs
        rw [hf] at q
        refine ⟨.ref a, rfl, a, _, 0, _, rfl, rfl, hS, h0, v, .ty "str", .type (tyq d0), .type "str", false, rfl, .ty _, ty_q hv, kit_ty hb, false, rfl, iteT ?_⟩
        exact q _ (Same.refl _)
      obtain ⟨nm, rfl⟩ := hs
      cases hv
      refine ⟨.ref a, rfl, a, _, 0, _, rfl, rfl, hS, h0, .str nm, .ty "str", .type "str", .type "str", true, rfl, .ty _, .base (.str nm), kit_ty (by decide +kernel), true, rfl, iteF ?_⟩
      rcases hnm nm ds rfl with hp | hp
      case' inr =>
        have hf : polB (.tuple (.str nm :: ds)) = false := by
          have : ¬ nm ∈ pnames := by
            unfold nonames at hp; unfold pnames
            simp only [List.mem_cons, List.not_mem_nil, or_false] at hp
            rcases hp with rfl | rfl | rfl | rfl <;> decide +kernel
          show (decide (nm ∈ pnames) && _ && _) = false
          rw [decide_eq_false this]; rfl
        rw [hf] at q
        refine ⟨.ref a, rfl, a, _, 0, _, rfl, rfl, hS, h0, nm, _, rfl, rfl, pol_no TX hp, _, rfl, iteB1 (by rfl) ?_⟩
        exact q _ (Same.refl _)
      obtain ⟨r, hr1, hr2, hr3⟩ := pol_kd2 (w := w) TX hp
      refine ⟨.ref a, rfl, a, _, 0, _, rfl, rfl, hS, h0, nm, r, rfl, rfl, hr1, _, rfl, iteB0 (by rw [hr2]; rfl) ?_⟩
      refine ⟨.ref a, rfl, a, _, rfl, .inr hS, .ref a, rfl, a, _, 0, _, rfl, rfl, hS, h0, TX.d_POLICIES, nm, .int ((pn nm : Nat) : Int), rfl, rfl, hr3, _, _, rfl, rfl, rfl, _, rfl, ?_⟩
      have hdl := dqAll_len hA
      by_cases hpn : ds.length = pn nm
      case' neg =>
        have hf : polB (.tuple (.str nm :: ds)) = false := by
          show (_ && decide (ds.length = pn nm) && _) = false
          rw [decide_eq_false hpn, Bool.and_false]; rfl
        rw [hf] at q
        refine iteB1 (by rw [decide_eq_false (fun z => by have := V.int.inj z; simp at this; omega)]; rfl) ?_
        exact q _ (Same.refl _)
      refine iteB0 (by rw [decide_eq_true (show V.int _ = V.int _ by simp; omega)]; rfl) ?_
      have ht : polB (.tuple (.str nm :: ds)) = (ds.map okB).all id := by
        show (decide (nm ∈ pnames) && decide (ds.length = pn nm) && _) = _
        rw [decide_eq_true hp, decide_eq_true hpn]; rfl
      rw [ht] at q
      refine ⟨.ref a, rfl, _, rfl, ?_⟩
      dsimp only [tNoPart]
      refine sl_read hS fun c H1 s1 hc => ?_
      have ec : cutV (V.str nm :: vs) (some 1) none = vs := by
        have := cut_from (xs := V.str nm :: vs) (k := 1) (by simp)
        rw [show (some (1 : Int) : Option Int) = some ((1 : Nat) : Int) from rfl, this]
        rfl
      rw [ec] at hc
      refine ⟨c, rfl, ⟨_, hc⟩, fun D nD => ?_⟩
      refine lc_bools (K := K) walk_tup (ds.map okB) (by rw [List.length_map, hdl]) (by simp at hl; omega) nD (fun H' s' => Same.tup s' hc) ?_ ?_ (fun x σ' H' Q Q' h => h _ _) (fun σ' H' Q Q' h => h _ _)
      · rintro i x Hx Hx' hi sx ⟨rfl, hx⟩ b hb R hR
        obtain ⟨d, hd, hqd⟩ := dqAll_get hA i x hx
        have eb : b = okB d := by
          rw [List.getElem?_map, hd] at hb
          exact (Option.some.inj hb).symm
        subst eb
        have hqx := Dq.same (s1.trans sx) hqd
        refine ⟨rfl, rfl, _, rfl, x, 60, rfl, ?_⟩
        by_cases hi : ∃ i, d = .int i
        · obtain ⟨i, rfl⟩ := hi
          cases hqd
          refine .inl ⟨i, rfl, ?_⟩
          cases hc0 : (decide (0 ≤ i) && decide (i ≤ 60)) with
          | false =>
            refine ⟨false, rfl, iteF ?_⟩
            have : okB (.int i) = false := by
              show (decide (1 ≤ i) && decide (i ≤ 60)) = false
              rw [Bool.and_eq_false_iff, decide_eq_false_iff_not, decide_eq_false_iff_not] at hc0 ⊢
              omega
            rw [this] at hR
            exact hR _ (Same.refl _)
          | true =>
            refine ⟨true, rfl, iteT ⟨_, rfl, _, _, rfl, rfl, ?_⟩⟩
            simp only [Bool.and_eq_true, decide_eq_true_eq] at hc0
            have : okB (.int i) = decide ((0 : Int) < i) := by
              show (decide (1 ≤ i) && decide (i ≤ 60)) = _
              rw [decide_eq_true hc0.2, Bool.and_true]
              exact decide_eq_decide.mpr (by omega)
            rw [this] at hR
            exact hR _ (Same.refl _)
        · have hn : NotJ K _ x := notJ_of hqx (by cases d <;> first | trivial | exact absurd ⟨_, rfl⟩ hi)
          refine .inr ⟨hn, false, rfl, iteF ?_⟩
          have : okB d = false := by cases d <;> first | rfl | exact absurd ⟨_, rfl⟩ hi
          rw [this] at hR
          exact hR _ (Same.refl _)
      · intro H2 s2 ha
        exact ⟨D, _, rfl, .inl (.inl ha), q _ (s1.trans s2)⟩
end
/-- told with its value, nothing changed -/
def Rz (H : Hp) (E : XK) (C : Addr) (x : V) : Prop := ∀ d H', Same H H' → H' d = some (.xd [("value", x)]) → E (.ref C) (some d) H'
theorem noPart {σ : L2.St} {H : Hp} {Q : Option Int → Hp → Prop} (h : Q none H) : tNoPart σ H Q := h
section
variable {P : Program} {w : World} {K : PySem.W.Frag} {mg : Str → Option Value} {base : Heap}
def sp_Store___init__X (TX : Tx K mg) : Sp := fun vs H _ E => ∃ (p x : V) (d : PyData), vs = [p, x] ∧ Dq K H x d ∧ NmOk d ∧ (∀ ds, d = .tuple ds → ds.length ≤ 100) ∧ polB d = false ∧ Rz H E TX.c_InvalidPolicy x
theorem ok_Store___init__X (TX : Tx K mg) [WP w TX] : FnOk P w K mg base (L2.CX P w) 5 TX.a_Store___init__ TX.fd_Store___init__ ["self", "policy"] (sp_Store___init__X TX) := by
  refine TX.f_Store___init__.okX sc_Store___init__ (fun vs H Q E h => ?_) (fun cdv A outer s H vs Q E hr h => ?_)
  · obtain ⟨p, x, d, rfl, _⟩ := h; rfl
  · obtain ⟨p, x, d, rfl, hq, hn, hl, hb, q⟩ := h
    refine ⟨_, (pss_stop (ps_if (pt_not (pt_val (pe_call (ok_is_policyX (w := w) TX) (hr.mono (by decide)) (by rfl) TX.g_is_policy TX.f_is_policy.kp TX.bd_is_policy .nil pass0 (pa_cons (pv 1) pa_nil))))
        (pss_one (ps_raise rfl takesX (pmk_oex TX.ox_InvalidPolicy TX.ic_InvalidPolicy TX.ti_InvalidPolicy (ok_init_InvalidPolicy TX) (hr.mono (by decide)) TX.bi_InvalidPolicy .nil pass0 (by rfl) TX.gc_InvalidPolicy (pa_cons (pv 1) pa_nil))))
        pss_nil)), ?_⟩
    refine ⟨_, rfl, x, d, rfl, hq, hn, hl, fun H1 s1 => ?_⟩
    rw [hb]
    refine ⟨false, rfl, iteT ?_⟩
    refine raise_read (K := K) ⟨x, rfl, x, rfl, fun d H2 s3 _ hd => q d H2 (s1.trans s3) hd⟩ fun R R' h z => ?_
    obtain ⟨v, e1, z⟩ := z
    exact ⟨v, e1, h _ _ z⟩
def sp_L_is_policy (K : PySem.W.Frag) : Sp := fun vs H Q _ => ∃ (x : V) (d : PyData), vs = [x] ∧ Dq K H x d ∧ NmOk d ∧ (∀ ds, d = .tuple ds → ds.length ≤ 100) ∧ ∀ H', Same H H' → Q (.bl (polB d)) H'
theorem ok_L_is_policy (TX : Tx K mg) : FnOk P w K mg base CX0 3 TX.a_L_is_policy TX.fd_L_is_policy ["_law_thing"] (sp_L_is_policy K) := by
  refine TX.f_L_is_policy.ok sc_L_is_policy (fun vs H Q E h => ?_) (fun cdv A outer s H vs Q E hr h => ?_)
  · obtain ⟨x, d, rfl, _⟩ := h; rfl
  · obtain ⟨x, d, rfl, hq, hnm, hlen, q⟩ := h
    refine ⟨_, (pss_cons (ps_if (PW.pt (pw_or (pt_not (pt_val (pe_callB (id := "isinstance") (k_isi (K := K) rfl) (by rfl) TX.b_isinstance (by decide +kernel) (pa_cons (pv 0) (pa_cons (pe_bltn (v := .ty "tuple") (by rfl) TX.b_tuple (by decide +kernel) rfl) pa_nil))))) (pw_or1 (pt_cmpR (op_notIn1 (K := K) rfl hr.units) (pe_slice (k_slT (K := K) rfl) (pv 0) po_none (po_some pe_int)) (pe_tup (pa_cons (pe_tup (pa_cons pe_str pa_nil)) (pa_cons (pe_tup (pa_cons pe_str pa_nil)) (pa_cons (pe_tup (pa_cons pe_str pa_nil)) pa_nil)))) (by rfl)))))
        (pss_one (ps_ret pe_bl))
        pss_nil)
      (pss_cons (ps_for PassesOwn.never rfl (k_piT (K := K) rfl (pe_slice (k_slT (K := K) rfl) (pv 0) (po_some pe_int) po_none)) (pg_name (i := 1) sc_L_is_policy.nd rfl (.inl rfl))
        (pss_one (ps_if (PW.pt (pw_or (pt_not (pt_val (pe_callB (id := "isinstance") (k_isi (K := K) rfl) (by rfl) TX.b_isinstance (by decide +kernel) (pa_cons (pv 1) (pa_cons (pe_bltn (v := .ty "int") (by rfl) TX.b_int (by decide +kernel) rfl) pa_nil))))) (pw_or (pt_val (pe_callB (id := "isinstance") (k_isi (K := K) rfl) (by rfl) TX.b_isinstance (by decide +kernel) (pa_cons (pv 1) (pa_cons (pe_bltn (v := .ty "bool") (by rfl) TX.b_bool (by decide +kernel) rfl) pa_nil)))) (pw_or1 (pt_not (pt_chain op_le op_le pe_int (pv 1) pe_int))))))
          (pss_one (ps_ret pe_bl))
          pss_nil)))
      (pss_one (ps_ret (pe_cmpR op_eq (pe_callB (id := "len") (k_len (K := K) rfl) (by rfl) TX.b_len (by decide +kernel) (pa_cons (pv 0) pa_nil)) (pe_dget (hu_of hr) (pe_disp (pps_cons pe_str pe_int (pps_cons pe_str pe_int (pps_cons pe_str pe_int pps_nil))) (by rfl) (by rfl) (by simp) (by decide)) (pe_ix (k_ixT (K := K) rfl) (pv 0) pe_int (fun _ _ => rfl)) (fun _ _ => rfl)) (nomark _)))))), ?_⟩
    have hT := ty_q hq
    by_cases hd : ∃ ds, d = .tuple ds
    case' neg =>
      have hb : L2.kitB (tyq d) "tuple" = some false := by
        cases d with
        | none => exact (by decide +kernel : L2.kitB "NoneType" "tuple" = some false)
        | bool b => exact (by decide +kernel : L2.kitB "bool" "tuple" = some false)
        | int b => exact (by decide +kernel : L2.kitB "int" "tuple" = some false)
        | str b => exact (by decide +kernel : L2.kitB "str" "tuple" = some false)
        | list b => exact (by decide +kernel : L2.kitB "list" "tuple" = some false)
        | dict b => exact (by decide +kernel : L2.kitB "dict" "tuple" = some false)
        | tuple b => exact absurd ⟨_, rfl⟩ hd
      have hf : polB d = false := by
        cases d <;> first | rfl | exact absurd ⟨_, rfl⟩ hd
      rw [hf] at q
      refine ⟨x, rfl, x, .ty "tuple", .type (tyq d), .type "tuple", false, rfl, .ty _, hT, kit_ty hb, false, rfl, iteT ?_⟩
      exact q _ (Same.refl _)
    obtain ⟨ds, rfl⟩ := hd
    have hl := hlen ds rfl
    cases hq with
    | @tupq a xs _ hS hA =>
      have hxl := dqAll_len hA
      refine ⟨.ref a, rfl, .ref a, .ty "tuple", .type "tuple", .type "tuple", true, rfl, .ty _, hT, kit_ty (by decide +kernel), true, rfl, iteF ?_⟩
      refine ⟨.ref a, rfl, _, rfl, ?_⟩
      refine sl_read hS fun c H1 s1 hc => ?_
      have ec : cutV xs none (some 1) = xs.take 1 := by
        cases xs with
        | nil => rfl
        | cons v vs => exact cut_to (xs := v :: vs) (k := 1) (by simp)
      rw [ec] at hc
      have hA1 : DqAll K H1 (xs.take 1) (ds.take 1) := DqAll.same s1 (by
        cases hA with
        | nil => exact .nil
        | cons x y => exact .cons x .nil)
      refine ⟨sz60 (by simp), fun p1 n1 => ⟨sz60 (by simp), fun p2 n2 => ⟨sz60 (by simp), fun p3 n3 => ⟨sz60 (by simp), fun hb nb => ?_⟩⟩⟩⟩
      have w1 := same_upd (o := .tup [V.str "manual"]) n1
      have w2 := same_upd (o := .tup [V.str "runs"]) n2
      have w3 := same_upd (o := .tup [V.str "budget"]) n3
      have w4 := same_upd (o := .tup [V.ref p1, V.ref p2, V.ref p3]) nb
      have e1 := (w2.trans (w3.trans w4)) _ _ (upd_same (H := H1) (a := p1) (o := .tup [V.str "manual"]))
      have e2 := (w3.trans w4) _ _ (upd_same (a := p2) (o := .tup [V.str "runs"]))
      have e3 := w4 _ _ (upd_same (a := p3) (o := .tup [V.str "budget"]))
      have eh := upd_same (H := upd (upd (upd H1 p1 (.tup [V.str "manual"])) p2 (.tup [V.str "runs"])) p3 (.tup [V.str "budget"])) (a := hb) (o := .tup [V.ref p1, V.ref p2, V.ref p3])
      have s4 := w1.trans (w2.trans (w3.trans w4))
      have n12 : p2 ≠ p1 := fun z => by rw [z, upd_same] at n2; cases n2
      have n13 : p3 ≠ p1 := fun z => by rw [z, w2 _ _ upd_same] at n3; cases n3
      have n23 : p3 ≠ p2 := fun z => by rw [z, upd_same] at n3; cases n3
      generalize upd (upd (upd (upd H1 p1 (.tup [V.str "manual"])) p2 (.tup [V.str "runs"])) p3 (.tup [V.str "budget"])) hb _ = G at e1 e2 e3 eh s4 ⊢
      clear w1 w2 w3 w4 n1 n2 n3 nb
      have sHG := s1.trans s4
      let f : Addr → Str := fun p => if p = p1 then "manual" else if p = p2 then "runs" else "budget"
      have f1 : f p1 = "manual" := if_pos rfl
      have f2 : f p2 = "runs" := by show (if p2 = p1 then _ else if p2 = p2 then _ else _) = _; rw [if_neg n12, if_pos rfl]
      have f3 : f p3 = "budget" := by show (if p3 = p1 then _ else if p3 = p2 then _ else _) = _; rw [if_neg n13, if_neg n23]
      refine ⟨c, hb, xs.take 1, ds.take 1, [p1, p2, p3], f, rfl, rfl, Same.tup s4 hc, DqAll.same s4 hA1, by simp; omega, .inl (.inl eh), fun p hp => ?_, ?_⟩
      · simp only [List.mem_cons, List.not_mem_nil, or_false] at hp
        rcases hp with rfl | rfl | rfl
        · rw [f1]; exact .inl (.inl e1)
        · rw [f2]; exact .inl (.inl e2)
        · rw [f3]; exact .inl (.inl e3)
      have hany : ([p1, p2, p3].any fun p => oneIs (ds.take 1) (f p)) = (oneIs (ds.take 1) "manual" || (oneIs (ds.take 1) "runs" || oneIs (ds.take 1) "budget")) := by
        simp only [List.any_cons, List.any_nil, Bool.or_false, f1, f2, f3]
      rw [hany]
      by_cases hnm2 : ∃ nm dr, ds = .str nm :: dr ∧ nm ∈ pnames
      case' neg =>
        have h1 : (oneIs (ds.take 1) "manual" || (oneIs (ds.take 1) "runs" || oneIs (ds.take 1) "budget")) = false := by
          cases ds with
          | nil => rfl
          | cons d0 dr =>
            cases d0 with
            | str nm =>
              have : nm ∉ pnames := fun z => hnm2 ⟨nm, dr, rfl, z⟩
              unfold pnames at this
              simp only [List.mem_cons, List.not_mem_nil, or_false, not_or] at this
              show (("manual" : Str) == nm || (("runs" : Str) == nm || ("budget" : Str) == nm)) = false
              rw [beq_eq_false_iff_ne.mpr (Ne.symm this.1), beq_eq_false_iff_ne.mpr (Ne.symm this.2.1), beq_eq_false_iff_ne.mpr (Ne.symm this.2.2)]
              rfl
            | _ => rfl
        have hf : polB (.tuple ds) = false := by
          cases ds with
          | nil => rfl
          | cons d0 dr =>
            cases d0 with
            | str nm =>
              have : nm ∉ pnames := fun z => hnm2 ⟨nm, dr, rfl, z⟩
              show (decide (nm ∈ pnames) && _ && _) = false
              rw [decide_eq_false this]; rfl
            | _ => rfl
        rw [h1]
        rw [hf] at q
        exact ⟨true, rfl, iteT (q _ sHG)⟩
      obtain ⟨nm, dr, rfl, hp⟩ := hnm2
      have h1 : (oneIs ((PyData.str nm :: dr).take 1) "manual" || (oneIs ((PyData.str nm :: dr).take 1) "runs" || oneIs ((PyData.str nm :: dr).take 1) "budget")) = true := by
        show (strIs "manual" (.str nm) || (strIs "runs" (.str nm) || strIs "budget" (.str nm))) = true
        unfold pnames at hp
        simp only [List.mem_cons, List.not_mem_nil, or_false] at hp
        clear q hA1 hl hT hS hA hlen hnm hxl
        rcases hp with rfl | rfl | rfl <;> decide +kernel
      rw [h1]
      refine ⟨false, rfl, iteF ?_⟩
      cases hA with
      | @cons v vs _ _ hv hA =>
      cases hv
      have hdl := dqAll_len hA
      have ht : polB (.tuple (.str nm :: dr)) = (decide (dr.length = pn nm) && (dr.map okB).all id) := by
        show (decide (nm ∈ pnames) && decide (dr.length = pn nm) && _) = _
        rw [decide_eq_true hp, Bool.true_and]
      have hSG := Same.tup sHG hS
      refine ⟨.ref a, rfl, _, rfl, ?_⟩
      refine noPart ?_
      refine sl_read hSG fun c2 G2 s2 hc2 => ?_
      have ec2 : cutV (V.str nm :: vs) (some 1) none = vs := by
        have := cut_from (xs := V.str nm :: vs) (k := 1) (by simp)
        rw [show (some (1 : Int) : Option Int) = some ((1 : Nat) : Int) from rfl, this]
        rfl
      rw [ec2] at hc2
      have sHG2 := sHG.trans s2
      refine ⟨c2, rfl, ⟨_, hc2⟩, for_tup (K := K) (xs := vs) (fun j σ G3 => ∃ y, σ = [some (.ref a), y] ∧ Same G2 G3 ∧ ∀ i, i < j → ∀ d, dr[i]? = some d → okB d = true) ⟨_, rfl, .refl _, fun i h => absurd h (by omega)⟩ (fun j σ G3 _ h => by obtain ⟨_, _, h, _⟩ := h; exact Same.tup h hc2) ?_ ?_⟩
      · rintro j x σ G3 hx ⟨y, rfl, s3, hok⟩
        obtain ⟨d, hd, hqd⟩ := dqAll_get hA j x hx
        have hq3 := Dq.same (sHG2.trans s3) hqd
        have bad : okB d = false → polB (.tuple (.str nm :: dr)) = false := fun h => by
          rw [ht, Bool.and_eq_false_iff]
          refine .inr (List.all_eq_false.mpr ⟨false, List.mem_map.mpr ⟨d, List.mem_of_getElem? hd, h⟩, by simp⟩)
        have fin : okB d = false → Q (.bl false) G3 := fun h => by
          have := q _ (sHG2.trans s3)
          rw [bad h] at this
          exact this
        cases d with
        | int i =>
          cases hqd
          refine ⟨_, rfl, .int i, .ty "int", .type "int", .type "int", true, rfl, .ty _, .base (.int i), kit_ty (by decide +kernel), true, rfl, iteB0 (by rfl) ?_⟩
          refine ⟨_, rfl, .int i, .ty "bool", .type "int", .type "bool", false, rfl, .ty _, .base (.int i), kit_ty (by decide +kernel), false, rfl, iteB0 (by rfl) ?_⟩
          refine ⟨_, rfl, 1, i, rfl, rfl, _, rfl, ?_⟩
          by_cases h1 : 1 ≤ i
          case' neg =>
            refine decF h1 ⟨_, rfl, iteB1 (by rfl) (fin ?_)⟩
            show (decide (1 ≤ i) && _) = false
            rw [decide_eq_false h1]; rfl
          refine decT h1 ⟨_, _, rfl, rfl, _, rfl, ?_⟩
          by_cases h2 : i ≤ 60
          case' neg =>
            refine iteB1 (by rw [decide_eq_false h2]; rfl) (fin ?_)
            show (_ && decide (i ≤ 60)) = false
            rw [decide_eq_false h2, Bool.and_false]
          refine iteB0 (by rw [decide_eq_true h2]; rfl) ?_
          refine ⟨_, rfl, s3, fun i' hi d' hd' => ?_⟩
          by_cases e : i' = j
          · subst e
            rw [hd] at hd'
            cases hd'
            show (decide (1 ≤ i) && decide (i ≤ 60)) = true
            rw [decide_eq_true h1, decide_eq_true h2]; rfl
          · exact hok i' (by omega) d' hd'
        | bool b =>
          cases hqd
          refine ⟨_, rfl, .bl b, .ty "int", .type "bool", .type "int", true, rfl, .ty _, .base (.bl b), kit_ty (by decide +kernel), true, rfl, iteB0 (by rfl) ?_⟩
          exact ⟨_, rfl, .bl b, .ty "bool", .type "bool", .type "bool", true, rfl, .ty _, .base (.bl b), kit_ty (by decide +kernel), true, rfl, iteB1 (by rfl) (fin rfl)⟩
        | none => exact ⟨x, rfl, x, .ty "int", .type "NoneType", .type "int", false, rfl, .ty _, ty_q hq3, kit_ty (by decide +kernel), false, rfl, iteB1 (by rfl) (iteB1 (by rfl) (fin rfl))⟩
        | str z => exact ⟨x, rfl, x, .ty "int", .type "str", .type "int", false, rfl, .ty _, ty_q hq3, kit_ty (by decide +kernel), false, rfl, iteB1 (by rfl) (iteB1 (by rfl) (fin rfl))⟩
        | list z => exact ⟨x, rfl, x, .ty "int", .type "list", .type "int", false, rfl, .ty _, ty_q hq3, kit_ty (by decide +kernel), false, rfl, iteB1 (by rfl) (iteB1 (by rfl) (fin rfl))⟩
        | tuple z => exact ⟨x, rfl, x, .ty "int", .type "tuple", .type "int", false, rfl, .ty _, ty_q hq3, kit_ty (by decide +kernel), false, rfl, iteB1 (by rfl) (iteB1 (by rfl) (fin rfl))⟩
        | dict z => exact ⟨x, rfl, x, .ty "int", .type "dict", .type "int", false, rfl, .ty _, ty_q hq3, kit_ty (by decide +kernel), false, rfl, iteB1 (by rfl) (iteB1 (by rfl) (fin rfl))⟩
      · rintro σ G3 ⟨y, rfl, s3, hok⟩
        have hall : (dr.map okB).all id = true := by
          rw [List.all_map]
          refine List.all_eq_true.mpr fun d hd => ?_
          obtain ⟨i, hi⟩ := List.mem_iff_getElem?.mp hd
          exact hok i (by rw [hdl]; exact (List.getElem?_eq_some_iff.mp hi).1) d hi
        rw [ht, hall, Bool.and_true] at q
        have hS3 := Same.tup (s2.trans s3) hSG
        refine ⟨.ref a, rfl, a, _, rfl, .inr hS3, fun D nD => ⟨upd_same, [(.inr "manual", .int 1), (.inr "runs", .int 2), (.inr "budget", .int 3)], rfl, by simp, ?_⟩⟩
        rw [upd_upd, show mergeK [] ([(Sum.inr (Str.ofString "manual"), V.int 1), (Sum.inr (Str.ofString "runs"), V.int 2), (Sum.inr (Str.ofString "budget"), V.int 3)] : List (Key × V)) = [(Sum.inr (Str.ofString "manual"), V.int 1), (Sum.inr (Str.ofString "runs"), V.int 2), (Sum.inr (Str.ofString "budget"), V.int 3)] by decide +kernel]
        have w5 := same_upd (o := .dK [(Sum.inr (Str.ofString "manual"), V.int 1), (Sum.inr (Str.ofString "runs"), V.int 2), (Sum.inr (Str.ofString "budget"), V.int 3)]) nD
        have h0 : atI (V.str nm :: vs) 0 = some (.str nm) := atI_nat (j := 0) rfl
        have hv : valV ([(Sum.inr (Str.ofString "manual"), V.int 1), (Sum.inr (Str.ofString "runs"), V.int 2), (Sum.inr (Str.ofString "budget"), V.int 3)] : List (Key × V)) (.inr nm) = some (.int ((pn nm + 1 : Nat) : Int)) := by
          unfold pnames at hp
          simp only [List.mem_cons, List.not_mem_nil, or_false] at hp
          rcases hp with rfl | rfl | rfl <;> decide +kernel
        refine ⟨.ref a, rfl, a, _, 0, _, rfl, rfl, Same.tup w5 hS3, h0, D, _, rfl, hv ▸ DGet.k (k := .inr nm) upd_same, rfl, ?_⟩
        have e : decide (V.int (((V.str nm :: vs).length : Nat) : Int) = V.int ((pn nm + 1 : Nat) : Int)) = decide (dr.length = pn nm) := by
          refine decide_eq_decide.mpr ⟨fun z => ?_, fun z => ?_⟩
          · have := V.int.inj z
            simp at this
            omega
          · congr 1
            simp
            omega
        rw [e]
        exact q _ ((sHG2.trans s3).trans w5)
end
def Wz (K : PySem.W.Frag) (a : Addr) (H : Hp) (x : V) : Prop := ∃ d, Dq K (off a H) x d ∧ Sm 31 400 d ∧ NmOk d ∧ ∀ ds, d = .tuple ds → ds.length ≤ 100
theorem Wz.but {K : PySem.W.Frag} {a : Addr} {H H' : Hp} {x : V} (h : Wz K a H x) (b : But a H H') : Wz K a H' x := by
  obtain ⟨d, h1, h2⟩ := h
  exact ⟨d, Dq.same (off_but b) h1, h2⟩
theorem nm_plB {d : PyData} (h : plB d = true) : NmOk d ∧ ∀ ds, d = .tuple ds → ds.length ≤ 100 := by
  refine ⟨fun nm ds e => ?_, fun ds e => ?_⟩
  · subst e
    have h2 : ((nm == Str.ofString "" || nm == Str.ofString "a" || nm == Str.ofString "1" || nm == Str.ofString "runs" || nm == Str.ofString "manual") && decide (ds.length ≤ 1)) = true := h
    simp only [Bool.and_eq_true, Bool.or_eq_true, beq_iff_eq] at h2
    unfold pnames nonames
    rcases h2.1 with (((rfl | rfl) | rfl) | rfl) | rfl <;> first | (left; decide +kernel) | (right; decide +kernel)
  · subst e
    cases ds with
    | nil => decide
    | cons d0 ds =>
      cases d0 with
      | str z =>
        have h2 : (_ && decide (ds.length ≤ 1)) = true := h
        rw [Bool.and_eq_true, decide_eq_true_eq] at h2
        have := h2.2
        simp only [List.length_cons]
        omega
      | _ =>
        have h2 : (_ :: ds : List PyData).length ≤ 1 := of_decide_eq_true h
        omega
/-- values picked, each out of a list -/
theorem lc_picked {lo : Int} {n j : Nat} {vs : List Nat} {σ : L2.St} {H1 : Hp} {D a : Addr} {Qd : Hp → Prop} {te : TE} {n0 : Int} {zs : List V} (hn : n ≤ 60) (hD : H1 D = none) (hp : Deal H1 a n0)
    (hw : ∀ x, wipe ((wipe σ vs).set j (some x)) vs = wipe σ vs)
    (ht : ∀ x H' m (R : V → Hp → Prop), m < n0 + n → But a H1 (H') → Deal H' a m → (∀ H'' v, But a H' H'' → Deal H'' a (m + 1) → v ∈ zs → R v H'') → te ((wipe σ vs).set j (some x)) H' R)
    (hd : ∀ H xs, But a H1 H → Deal H a (n0 + n) → H D = some (.lst xs) → xs.length = n → (∀ x, x ∈ xs → x ∈ zs) → Qd H) :
    ∃ W : Nat → Nat → Hp → Prop, (∃ m, W 0 m (upd H1 D (.lst []))) ∧ ∀ i m H, W i m H →
      ((Itr lo n).stop i H ∧ Qd H) ∨ ((Itr lo n).go i H ∧ ∃ Nx : Hp → Prop, (∀ H', Nx H' → ∃ m', m' < m ∧ W (i + 1) m' H') ∧ ∀ x H', (Itr lo n).yld i H x H' → gName j x (wipe σ vs) H' fun σ2 H2 => wipe σ2 vs = wipe σ vs ∧ tYes σ2 H2 fun b H3 =>
        if b = true then te σ2 H3 fun y H4 => ∃ acc, H4 D = some (.lst acc) ∧ acc.length < sizeLine ∧ Nx (upd H4 D (.lst (acc ++ [y]))) else Nx H3) := by
  have nDa : D ≠ a := hp.ne hD
  refine lc_it walk_range (fun i H => ∃ xs : List V, But a H1 H ∧ Deal H a (n0 + (i : Int)) ∧ H D = some (.lst xs) ∧ xs.length = i ∧ ∀ x, x ∈ xs → x ∈ zs)
    ⟨[], .of (same_upd hD), (hp.upd nDa).mono (by omega), upd_same, rfl, fun x h => nomatch h⟩ (fun _ _ _ _ => trivial) ?_ ?_
  · rintro i x H H' hi ⟨xs, b, p, hx, hl, hz⟩ ⟨rfl, rfl⟩
    refine ⟨hw _, ?_⟩
    simp only [tYes, if_true]
    refine ht _ _ _ _ (by omega) b p fun H2 r b2 p2 hr => ?_
    have hx2 := b2 _ _ nDa hx
    refine ⟨_, hx2, sz61 (by omega), xs ++ [r], (b.trans b2).mut hD, (p2.upd nDa).mono (by omega), upd_same, by rw [List.length_append, hl]; rfl, fun y hy => ?_⟩
    rcases List.mem_append.mp hy with h | h
    · exact hz y h
    · rw [List.mem_singleton.mp h]; exact hr
  · rintro H ⟨xs, b, p, hx, hl, hz⟩
    exact hd H xs b p hx hl hz
theorem Sm.intN {i : Int} (h : i.natAbs < 10 ^ 35) : Sm 2 40 (.int i) := by
  refine ⟨by simp [PyData.depth], ?_, ?_, by simp [PyData.bulk], SOk.int⟩
  · simp only [PyData.showable]
    refine decide_eq_true ?_
    by_cases h0 : i.natAbs = 0
    · rw [h0]; decide
    · exact Nat.lt_trans ((Nat.log2_lt h0).mpr (show i.natAbs < 2 ^ 200 from Nat.lt_trans h (by decide +kernel))) (by decide)
  · simp only [PyData.leavesShort]
    refine decide_eq_true ?_
    have e := int_text_length_le10 (a := i) (k := 35) (by decide) h
    have e2 : (PyData.shown (.int i)).length = (toString i).length := by
      simp only [PyData.shown]
      exact PySem.ofString_length _
    omega
theorem sm_all {k n : Nat} : ∀ {ds : List PyData}, (∀ d, d ∈ ds → Sm k n d) → PyData.depthAll ds ≤ k ∧ PyData.showableAll ds = true ∧ PyData.leavesShortAll 40 ds = true ∧ PyData.bulkAll ds ≤ (n + 1) * ds.length
  | [], _ => ⟨by simp [PyData.depthAll], by simp [PyData.showableAll], by simp [PyData.leavesShortAll], by simp [PyData.bulkAll]⟩
  | d :: ds, h => by
    have h1 := h d (List.mem_cons_self ..)
    obtain ⟨a, b, c, e⟩ := sm_all fun x hx => h x (List.mem_cons_of_mem _ hx)
    refine ⟨?_, by simp only [PyData.showableAll, h1.shw, b, Bool.and_self], by simp only [PyData.leavesShortAll, h1.short, c, Bool.and_self], ?_⟩
    · simp only [PyData.depthAll]
      have := h1.dep
      omega
    · simp only [PyData.bulkAll, List.length_cons]
      have := h1.bulk
      rw [Nat.mul_add]
      omega
theorem sm_seq {ds : List PyData} (h : ∀ d, d ∈ ds → Sm 2 40 d) (hl : ds.length ≤ 5) : Sm 31 400 (.tuple ds) ∧ Sm 31 400 (.list ds) := by
  obtain ⟨a, b, c, e⟩ := sm_all h
  have e2 : (40 + 1) * ds.length ≤ 41 * 5 := Nat.mul_le_mul (Nat.le_refl _) hl
  refine ⟨⟨?_, ?_, ?_, ?_, SOk.tup fun d hd => (h d hd).sok⟩, ⟨?_, ?_, ?_, ?_, SOk.lst fun d hd => (h d hd).sok⟩⟩
  · simp only [PyData.depth]; omega
  · simp only [PyData.showable]; exact b
  · simp only [PyData.leavesShort]; exact c
  · simp only [PyData.bulk]; omega
  · simp only [PyData.depth]; omega
  · simp only [PyData.showable]; exact b
  · simp only [PyData.leavesShort]; exact c
  · simp only [PyData.bulk]; omega
theorem dqAll_of {K : PySem.W.Frag} {F : Hp} {Pr : PyData → Prop} : ∀ {vs : List V}, (∀ v, v ∈ vs → ∃ d, Dq K F v d ∧ Pr d) → ∃ ds, DqAll K F vs ds ∧ ds.length = vs.length ∧ ∀ d, d ∈ ds → Pr d
  | [], _ => ⟨[], .nil, rfl, fun _ h => nomatch h⟩
  | v :: vs, h => by
    obtain ⟨d, h1, h2⟩ := h v (List.mem_cons_self ..)
    obtain ⟨ds, g1, g2, g3⟩ := dqAll_of fun x hx => h x (List.mem_cons_of_mem _ hx)
    refine ⟨d :: ds, .cons h1 g1, by simp [g2], fun x hx => ?_⟩
    rcases List.mem_cons.mp hx with rfl | hx
    · exact h2
    · exact g3 x hx
theorem off_sq {K : PySem.W.Frag} {H : Hp} {a c : Addr} {ys xs : List V} (ha : H a = some (.lst ys)) (h : SqT K H c xs) : SqT K (off a H) c xs := by
  have ne : ∀ {u : HO}, H c = some u → (∀ l, u ≠ .lst l) → c ≠ a := fun e k z => by
    rw [z, ha] at e
    exact k _ (Option.some.inj e).symm
  rcases h with (h | ⟨u, h⟩) | h
  · exact .inl (.inl (by rw [off_at (ne h fun _ z => (nomatch z))]; exact h))
  · exact .inl (.inr ⟨u, by rw [off_at (ne h fun _ z => (nomatch z))]; exact h⟩)
  · exact .inr h
section
variable {P : Program} {w : World} {K : PySem.W.Frag} {mg : Str → Option Value} {base : Heap}
def sp_L_some_rule (K : PySem.W.Frag) : Sp := fun vs H Q _ => ∃ (a : Addr) (n : Int) (o : HO), vs = [.ref a] ∧ Deal H a n ∧ n ≤ 40000 ∧ H sysModules = some o ∧ a ≠ sysModules ∧ ∀ H' x, But a H H' → Deal H' a (n + 50) → Wz K a H' x → Q x H'
theorem ok_L_some_rule (TX : Tx K mg) : FnOk P w K mg base CX0 4 TX.a_L_some_rule TX.fd_L_some_rule ["_law_deal"] (sp_L_some_rule K) := by
  refine TX.f_L_some_rule.ok sc_L_some_rule (fun vs H Q E h => ?_) (fun cdv A outer s H vs Q E hr h => ?_)
  · obtain ⟨a, n, o, rfl, _⟩ := h; rfl
  · obtain ⟨a, n, o, rfl, hd, hn, hsys, nas, q⟩ := h
    refine ⟨_, (pss_cons (ps_set (i := 1) sc_L_some_rule.nd rfl (.inr rfl) (pe_lst (pa_cons pe_int (pa_cons pe_int (pa_cons (pe_op op_add pe_int (pe_call (ok_L_next TX) (hr.mono (by decide)) (by rfl) TX.g_L_next TX.f_L_next.kp TX.bd_L_next .nil pass0 (pa_cons (pv 0) (pa_cons pe_int pa_nil)))) (pa_cons pe_int (pa_cons pe_int (pa_cons pe_int (pa_cons (pe_un un_neg pe_int) (pa_cons pe_bl (pa_cons pe_non (pa_cons pe_str (pa_cons (pe_tup (pa_cons pe_int pa_nil)) (pa_cons (pe_op op_powW pe_int pe_int) pa_nil))))))))))))))
      (pss_cons (ps_set (i := 2) sc_L_some_rule.nd rfl (.inl rfl) (pe_call (ok_L_pick TX) (hr.mono (by decide)) (by rfl) TX.g_L_pick TX.f_L_pick.kp TX.bd_L_pick .nil pass0 (pa_cons (pv 0) (pa_cons (pe_lst (pa_cons pe_str (pa_cons pe_str (pa_cons pe_str (pa_cons pe_str (pa_cons pe_str (pa_cons pe_str (pa_cons pe_int (pa_cons pe_non pa_nil))))))))) pa_nil))))
      (pss_cons (ps_set (i := 3) sc_L_some_rule.nd rfl (.inl rfl) (pe_op (k_catT (K := K) rfl) (pe_tup (pa_cons (pv 2) pa_nil)) (pe_callTy (T := "tuple") (k_tupOf (K := K) rfl) (by rfl) TX.b_tuple (by decide +kernel) (pa_cons (pe_lc (own := [("_law_turn", 4)]) (by rfl) sc_L_some_rule.nd (pi_range1 (by rfl) TX.b_range (pa_cons (pe_call (ok_L_next TX) (hr.mono (by decide)) (by rfl) TX.g_L_next TX.f_L_next.kp TX.bd_L_next .nil pass0 (pa_cons (pv 0) (pa_cons pe_int pa_nil))) pa_nil)) (blkOk_by (own := [("_law_turn", 4)]) (N := N_L_some_rule) (sc := defScope s_L_some_rule) (by decide +kernel)) (fun _ _ _ _ _ => (pg_name (i := 4) sc_L_some_rule.nd rfl (Or.inl rfl))) (fun _ _ _ _ _ => pts_nil) (fun _ _ _ _ _ => (pe_call (ok_L_pick TX) (hr.mono (by decide)) (by rfl) TX.g_L_pick TX.f_L_pick.kp TX.bd_L_pick .nil pass0 (pa_cons (pv 0) (pa_cons (pv 1) pa_nil))))) pa_nil))))
      (pss_one (ps_ret (pe_ifExp (pt_cmpR op_eq (pe_call (ok_L_next TX) (hr.mono (by decide)) (by rfl) TX.g_L_next TX.f_L_next.kp TX.bd_L_next .nil pass0 (pa_cons (pv 0) (pa_cons pe_int pa_nil))) pe_int (nomark _)) (pe_callTy (T := "list") (k_listOf (K := K) rfl) (by rfl) TX.b_list (by decide +kernel) (pa_cons (pv 3) pa_nil)) (pv 3))))))), ?_⟩
    refine ⟨.ref a, rfl, a, 60, n, rfl, hd, by omega, by decide, by decide, fun H1 r b1 d1 r0 r1 => ⟨_, _, rfl, rfl, _, rfl, sz60 (by simp), fun p1 n1 => ⟨_, _, rfl, rfl, ⟨by decide, by decide +kernel⟩, sz60 (by simp), fun l nl => ?_⟩⟩⟩
    have w1 := same_upd (o := .tup [V.int 1]) n1
    have w2 := same_upd (o := .lst [V.int 1, V.int 60, V.int (1 + r), V.int 2, V.int 0, V.int 61, V.int (-1), V.bl true, V.non, V.str "1", V.ref p1, V.int (10 ^ (30 : Int).toNat)]) nl
    have e1 := w2 _ _ (upd_same (H := H1) (a := p1) (o := .tup [V.int 1]))
    have el := upd_same (H := upd H1 p1 (.tup [V.int 1])) (a := l) (o := .lst [V.int 1, V.int 60, V.int (1 + r), V.int 2, V.int 0, V.int 61, V.int (-1), V.bl true, V.non, V.str "1", V.ref p1, V.int (10 ^ (30 : Int).toNat)])
    have g1 : p1 ≠ a := d1.ne n1
    have gl : l ≠ a := (d1.same w1).ne nl
    have s12 := w1.trans w2
    generalize upd (upd H1 p1 (.tup [V.int 1])) l _ = H2 at e1 el s12 ⊢
    clear w1 w2 n1 nl
    have b2 := b1.trans (But.of s12)
    have d2 := d1.same s12
    refine ⟨.ref a, rfl, sz60 (by simp), fun l2 nl2 => ?_⟩
    have w3 := same_upd (o := .lst [V.str "manual", V.str "runs", V.str "budget", V.str "budget", V.str "run", V.str "", V.int 0, V.non]) nl2
    refine ⟨a, l2, _, _, rfl, d2.same w3, by omega, upd_same, d2.ne nl2, by simp, by simp, fun H3 wv b3 d3 hw => ?_⟩
    have b23 : But a H2 H3 := (But.of w3).trans b3
    have e1 := b23 _ _ g1 e1
    have el := b23 _ _ gl el
    have b3 := b2.trans b23
    clear w3 b23 nl2 b2 d2 s12 b1 d1
    refine ⟨_, rfl, sz60 (by simp), fun p2 n2 => ?_⟩
    have w4 := same_upd (o := .tup [wv]) n2
    have e2 := upd_same (H := H3) (a := p2) (o := .tup [wv])
    have g2 : p2 ≠ a := d3.ne n2
    have e1 := w4 _ _ e1
    have el := w4 _ _ el
    have b4 := b3.trans (But.of w4)
    have d4 := d3.same w4
    generalize upd H3 p2 _ = H4 at e1 e2 el b4 d4 ⊢
    clear w4 n2 b3 d3
    refine ⟨.ref a, rfl, a, 4, _, rfl, d4, by omega, by decide, by decide, fun H5 k b5 d5 k0 k1 => ?_⟩
    have e1 := b5 _ _ g1 e1
    have e2 := b5 _ _ g2 e2
    have el := b5 _ _ gl el
    have b5 := b4.trans b5
    clear b4 d4
    obtain ⟨k, rfl⟩ : ∃ k' : Nat, k = (k' : Int) := ⟨k.toNat, by omega⟩
    refine ⟨_, rfl, by omega, by omega, fun D nD => ?_⟩
    rw [show ((k : Int)).toNat = k by omega]
    refine lc_picked (lo := 0) (n := k) (j := 4) (a := a) (n0 := n + 1 + 1 + 1) (zs := [V.int 1, V.int 60, V.int (1 + r), V.int 2, V.int 0, V.int 61, V.int (-1), V.bl true, V.non, V.str "1", V.ref p1, V.int (10 ^ (30 : Int).toNat)]) (by omega) nD d5 (fun _ => rfl) ?_ ?_
    · intro x H' m R hm bb dd kk
      exact ⟨.ref a, rfl, .ref l, rfl, a, l, _, m, rfl, dd, by omega, bb _ _ gl el, gl, by simp, by simp, fun H'' v b' d' hv => kk H'' v b' d' hv⟩
    intro H6 xs b6 d6 hx6 hl6 hz6
    have e1 := b6 _ _ g1 e1
    have e2 := b6 _ _ g2 e2
    have b6 := b5.trans b6
    refine ⟨D, xs, rfl, .inl ⟨.inl (.inl hx6), fun tt nt => ?_⟩⟩
    have w7 := same_upd (o := .tup xs) nt
    refine cat_read (xs := [wv]) (ys := xs) (.inl (.inl (w7 _ _ e2))) (.inl (.inl upd_same)) (by simp; omega) fun p3 H7 s7 h7 => ?_
    have s67 := w7.trans s7
    have e1 := s67 _ _ e1
    have d7 := d6.same s67
    have b7 := b6.trans (But.of s67)
    clear w7 s7 s67 e2 hx6 d6 b6 nt
    refine ⟨.ref a, rfl, a, 10, _, rfl, d7, by omega, by decide, by decide, fun H8 r8 b8 d8 r80 r81 => ⟨rfl, _, rfl, ?_⟩⟩
    have e1 := b8 _ _ g1 e1
    have h8 := d7.keep b8 _ _ h7
    have b9 := b7.trans b8
    have hsys8 := b9 _ _ (Ne.symm nas) hsys
    clear b7 b8 h7 d7
    have big1 : (10 : Int) ^ (30 : Int).toNat = 1000000000000000000000000000000 := by decide +kernel
    obtain ⟨q1, q2, q3, ha8, _⟩ := id d8
    have hall : ∀ v, v ∈ [wv] ++ xs → ∃ d, Dq K (off a H8) v d ∧ (Sm 2 40 d ∧ ∀ z, d = .str z → z ∈ pnames ∨ z ∈ nonames) := by
      intro v hv
      rcases List.mem_append.mp hv with hv | hv
      · rw [List.mem_singleton.mp hv]
        simp only [List.mem_cons, List.not_mem_nil, or_false] at hw
        rcases hw with rfl | rfl | rfl | rfl | rfl | rfl | rfl | rfl
        · exact ⟨_, .strq _, by constructor <;> decide +kernel, fun z e => by cases e; left; decide +kernel⟩
        · exact ⟨_, .strq _, by constructor <;> decide +kernel, fun z e => by cases e; left; decide +kernel⟩
        · exact ⟨_, .strq _, by constructor <;> decide +kernel, fun z e => by cases e; left; decide +kernel⟩
        · exact ⟨_, .strq _, by constructor <;> decide +kernel, fun z e => by cases e; left; decide +kernel⟩
        · exact ⟨_, .strq _, by constructor <;> decide +kernel, fun z e => by cases e; right; decide +kernel⟩
        · exact ⟨_, .strq _, by constructor <;> decide +kernel, fun z e => by cases e; right; decide +kernel⟩
        · exact ⟨_, .intq _, Sm.intN (by decide +kernel), fun z e => by cases e⟩
        · exact ⟨_, .nonq, by constructor <;> decide +kernel, fun z e => by cases e⟩
      · have hv := hz6 v hv
        simp only [List.mem_cons, List.not_mem_nil, or_false] at hv
        rcases hv with rfl | rfl | rfl | rfl | rfl | rfl | rfl | rfl | rfl | rfl | rfl | rfl
        · exact ⟨_, .intq _, Sm.intN (by decide +kernel), fun z e => by cases e⟩
        · exact ⟨_, .intq _, Sm.intN (by decide +kernel), fun z e => by cases e⟩
        · exact ⟨_, .intq _, Sm.intN (by have : (10 : Nat) ^ 35 = 100000000000000000000000000000000000 := by decide +kernel
                                         omega), fun z e => by cases e⟩
        · exact ⟨_, .intq _, Sm.intN (by decide +kernel), fun z e => by cases e⟩
        · exact ⟨_, .intq _, Sm.intN (by decide +kernel), fun z e => by cases e⟩
        · exact ⟨_, .intq _, Sm.intN (by decide +kernel), fun z e => by cases e⟩
        · exact ⟨_, .intq _, Sm.intN (by decide +kernel), fun z e => by cases e⟩
        · exact ⟨_, .blq _, by constructor <;> decide +kernel, fun z e => by cases e⟩
        · exact ⟨_, .nonq, by constructor <;> decide +kernel, fun z e => by cases e⟩
        · exact ⟨_, .strq _, by constructor <;> decide +kernel, fun z e => by cases e; right; decide +kernel⟩
        · exact ⟨.tuple [.int 1], .tupq (.inl (.inl (by rw [off_at g1]; exact e1))) (.cons (.intq _) .nil), by constructor <;> decide +kernel, fun z e => by cases e⟩
        · exact ⟨_, .intq _, Sm.intN (by rw [big1]; decide +kernel), fun z e => by cases e⟩
    obtain ⟨ds, hA, hdl, hPr⟩ := dqAll_of hall
    have hl5 : ds.length ≤ 5 := by rw [hdl]; simp; omega
    obtain ⟨sm1, sm2⟩ := sm_seq (fun d h => (hPr d h).1) hl5
    have nok : NmOk (.tuple ds) := fun nm ds2 e => by
      cases e
      exact (hPr _ (List.mem_cons_self ..)).2 nm rfl
    by_cases h : r8 = 0
    · subst h
      refine decT rfl ⟨_, rfl, p3, _, rfl, .inr h8, fun l9 n9 => ?_⟩
      have w9 := same_upd (o := .lst ([wv] ++ xs)) n9
      have g9 : l9 ≠ a := d8.ne n9
      have y9 : l9 ≠ sysModules := fun z => by rw [z, hsys8] at n9; cases n9
      exact q _ _ (b9.trans (But.of w9)) ((d8.same w9).mono (by omega)) ⟨.list ds, .lstq (.inl (.inl (by rw [off_at g9]; exact upd_same))) y9 (DqAll.same (off_same w9) hA), sm2, fun _ _ e => (nomatch e), fun _ e => (nomatch e)⟩
    · exact decF (fun z => h (V.int.inj z)) ⟨_, rfl, q _ _ b9 (d8.mono (by omega)) ⟨.tuple ds, .tupq (off_sq ha8 h8) hA, sm1, nok, fun ds2 e => by cases e; omega⟩⟩
end
section
variable {P : Program} {w : World} {K : PySem.W.Frag} {mg : Str → Option Value} {base : Heap}
/-- what met makes of a call: the names of the ten classes in their order -/
def metC (TX : Tx K mg) : List Addr := [TX.c_InvalidPolicy, TX.c_InvalidKey, TX.c_InvalidValue, TX.c_InvalidMerge, TX.c_InvalidMoment, TX.c_Exhausted, TX.c_NothingToUndo, TX.c_InvalidText, TX.c_InvalidLine, TX.c_InvalidReads]
def metN : List Str := ["policy", "key", "value", "merge", "moment", "exhausted", "undo", "text", "line", "reads"]
def TMet (TX : Tx K mg) : (XK → Hp → VK → Prop) → Hp → VK → Prop := fun tl H Q => ∀ H1, Same H H1 → ∀ (E' : XK) (R : VK),
  (∀ (i : Nat) (C dd : Addr) (x : Str) (v : V) (d : PyData) (H' : Hp), i ≠ 5 → i ≠ 6 → (metC TX)[i]? = some C → metN[i]? = some x → H' dd = some (.xd [("value", v)]) → Dq K H' v d → d.showable = true → d.depth ≤ 60 → d.shown.length ≤ sizeLine → (∀ H'' t, Same H' H'' → H'' t = some (.tup [.str x, .str d.shown]) → Q (.ref t) H'') → E' (.ref C) (some dd) H') →
  (∀ (i : Nat) (C : Addr) (x : Str) (H' : Hp), i = 5 ∨ i = 6 → (metC TX)[i]? = some C → metN[i]? = some x → (∀ H'' t, Same H' H'' → H'' t = some (.tup [.str x, .str ""]) → Q (.ref t) H'') → E' (.ref C) none H') →
  (∀ (v : V) (H' : Hp), (∀ H'', Same H' H'' → Q .non H'') → R v H') → tl E' H1 R
theorem metC_mem (TX : Tx K mg) {C : Addr} (h : C ∈ metC TX) : C ∈ [TX.c_InvalidSchedule, TX.c_InvalidCount, TX.c_InvalidBudget, TX.c_InvalidSizes, TX.c_InvalidReads, TX.c_InvalidState, TX.c_InvalidMerge, TX.c_InvalidPolicy, TX.c_InvalidKey, TX.c_InvalidValue, TX.c_InvalidMoment, TX.c_InvalidText, TX.c_InvalidLine, TX.c_Exhausted, TX.c_NothingToUndo] := by
  unfold metC at h
  simp only [List.mem_cons, List.not_mem_nil, or_false] at h ⊢
  rcases h with rfl | rfl | rfl | rfl | rfl | rfl | rfl | rfl | rfl | rfl <;> simp
theorem exm_of (TX : Tx K mg) {C : Addr} (h : C ∈ metC TX) : PySem.W.exmOne K (.ref C) (.ref TX.c_MergeBudgetError) = some true := by
  have hm := metC_mem TX h
  obtain ⟨_, k2, _⟩ := kitB_ok TX.kits hm
  have hne : C ≠ TX.c_MergeBudgetError := fun e => TX.kitz (by rw [← e]; exact hm)
  unfold PySem.W.exmOne
  rw [if_pos (by rw [TX.xf_MergeBudgetError.exC]; rfl)]
  unfold PySem.W.kitOne at k2
  rw [if_neg (fun z => hne (Value.ref.inj (beq_iff_eq.mp z)))] at k2
  exact k2
theorem met_nd (TX : Tx K mg) : (metC TX).Nodup := by
  have hn := TX.kitn
  unfold metC
  simp only [List.nodup_cons, List.mem_cons, List.not_mem_nil, or_false, not_or, List.nodup_nil, and_true]
  repeat' apply And.intro
  all_goals first
    | exact fun h => h
    | (intro h; rw [h] at hn; simp at hn)
theorem met_kit (TX : Tx K mg) {i j : Nat} {C D : Addr} (hi : (metC TX)[i]? = some C) (hj : (metC TX)[j]? = some D) : PySem.W.kitOne K (.ref C) (.ref D) = some (decide (i = j)) := by
  obtain ⟨k1, _, _⟩ := kitB_ok TX.kits (metC_mem TX (List.mem_of_getElem? hi))
  rw [k1 D (metC_mem TX (List.mem_of_getElem? hj))]
  have nd := met_nd TX
  congr 1
  by_cases e : i = j
  · subst e
    rw [hi] at hj
    cases hj
    simp
  · have : C ≠ D := fun z => by
      subst z
      obtain ⟨q1, r1⟩ := List.getElem?_eq_some_iff.mp hi
      obtain ⟨q2, r2⟩ := List.getElem?_eq_some_iff.mp hj
      exact e ((List.getElem_inj nd).mp (r1.trans r2.symm))
    rw [decide_eq_false e]
    simpa using this
theorem met_exc (TX : Tx K mg) {C : Addr} (h : C ∈ metC TX) : ExcC K C ∧ PySem.W.kitOne K (.ref C) (.type "ValueError") = some true := by
  obtain ⟨_, _, k3⟩ := kitB_ok TX.kits (metC_mem TX h)
  unfold metC at h
  simp only [List.mem_cons, List.not_mem_nil, or_false] at h
  rcases h with rfl | rfl | rfl | rfl | rfl | rfl | rfl | rfl | rfl | rfl
  · exact ⟨TX.xe_InvalidPolicy, k3⟩
  · exact ⟨TX.xe_InvalidKey, k3⟩
  · exact ⟨TX.xe_InvalidValue, k3⟩
  · exact ⟨TX.xe_InvalidMerge, k3⟩
  · exact ⟨TX.xe_InvalidMoment, k3⟩
  · exact ⟨TX.xe_Exhausted, k3⟩
  · exact ⟨TX.xe_NothingToUndo, k3⟩
  · exact ⟨TX.xe_InvalidText, k3⟩
  · exact ⟨TX.xe_InvalidLine, k3⟩
  · exact ⟨TX.xe_InvalidReads, k3⟩
theorem met_val (TX : Tx K mg) {i : Nat} {C : Addr} (h : (metC TX)[i]? = some C) (h5 : i ≠ 5) (h6 : i ≠ 6) : XfC K C ∧ PySem.W.findIn K (.ref C) "value" = some none := by
  have hi : i < 10 := (List.getElem?_eq_some_iff.mp h).1
  have hc : i = 0 ∨ i = 1 ∨ i = 2 ∨ i = 3 ∨ i = 4 ∨ i = 7 ∨ i = 8 ∨ i = 9 := by omega
  rcases hc with rfl | rfl | rfl | rfl | rfl | rfl | rfl | rfl
  · cases h; exact ⟨TX.xf_InvalidPolicy, TX.no_InvalidPolicy⟩
  · cases h; exact ⟨TX.xf_InvalidKey, TX.no_InvalidKey⟩
  · cases h; exact ⟨TX.xf_InvalidValue, TX.no_InvalidValue⟩
  · cases h; exact ⟨TX.xf_InvalidMerge, TX.no_InvalidMerge⟩
  · cases h; exact ⟨TX.xf_InvalidMoment, TX.no_InvalidMoment⟩
  · cases h; exact ⟨TX.xf_InvalidText, TX.no_InvalidText⟩
  · cases h; exact ⟨TX.xf_InvalidLine, TX.no_InvalidLine⟩
  · cases h; exact ⟨TX.xf_InvalidReads, TX.no_InvalidReads⟩
end
def TTs {K : PySem.W.Frag} {mg : Str → Option Value} (TX : Tx K mg) : List (Addr × Str) := [(TX.ptl_L_right, Str.ofString "_law_right" ++ ".<locals>." ++ "<lambda>")]
section
variable {P : Program} {w : World} {K : PySem.W.Frag} {mg : Str → Option Value} {base : Heap}
theorem met_gives_R (TX : Tx K mg) {cdv cdg : Value} {A : Around} {outer : List Env} {s0 : Shared} {H0 : Hp} {E : XK} {q : Str} {n : Nat} (hr0 : Room (n + 1) (cxOf CX0 P w K mg base N_L_right (Str.ofString "_law_right") (defScope s_L_right) TX.a_L_right cdv A outer s0 H0 E).nox.A) (hgd0 : A.guards = some []) :
    GivesE (cxOf CX0 P w K mg base N_L_right (Str.ofString "_law_right") (defScope s_L_right) TX.a_L_right cdv A outer s0 H0 E).nox N_L_refusal "_law_refusal" (defScope s_L_refusal) TX.a_L_refusal cdg (defBody s_L_refusal) "_law_ask" q (TMet TX) := by
  intro f c' s H Q tl act hc h
  have hgd : (cxOf CX0 P w K mg base N_L_right (Str.ofString "_law_right") (defScope s_L_right) TX.a_L_right cdv A outer s0 H0 E).nox.A.guards = some [] := hgd0
  have hr := hr0.deeper (envOfC "_law_refusal" (defScope s_L_refusal) s.heap.objs.size TX.a_L_refusal cdg)
  have HB : ∀ (p1 p2 p3 : PySem.Pos) (W : WX) (pn : List (Addr × Obj)) (xe : Value → Shared → Prop), Takes ((cxOf CX0 P w K mg base N_L_refusal "_law_refusal" (defScope s_L_refusal) TX.a_L_refusal cdg (cxOf CX0 P w K mg base N_L_right (Str.ofString "_law_right") (defScope s_L_right) TX.a_L_right cdv A outer s0 H0 E).nox.A (cxOf CX0 P w K mg base N_L_right (Str.ofString "_law_right") (defScope s_L_right) TX.a_L_right cdv A outer s0 H0 E).nox.stack s H E0).nox.tr pn xe) W →
      PassesOwn (model P w) (cxOf CX0 P w K mg base N_L_refusal "_law_refusal" (defScope s_L_refusal) TX.a_L_refusal cdg (cxOf CX0 P w K mg base N_L_right (Str.ofString "_law_right") (defScope s_L_right) TX.a_L_right cdv A outer s0 H0 E).nox.A (cxOf CX0 P w K mg base N_L_right (Str.ofString "_law_right") (defScope s_L_right) TX.a_L_right cdv A outer s0 H0 E).nox.stack s H E0).nox.A (cxOf CX0 P w K mg base N_L_refusal "_law_refusal" (defScope s_L_refusal) TX.a_L_refusal cdg (cxOf CX0 P w K mg base N_L_right (Str.ofString "_law_right") (defScope s_L_right) TX.a_L_right cdv A outer s0 H0 E).nox.A (cxOf CX0 P w K mg base N_L_right (Str.ofString "_law_right") (defScope s_L_right) TX.a_L_right cdv A outer s0 H0 E).nox.stack s H E0).nox.env xe →
      PSs ((cxOf CX0 P w K mg base N_L_refusal "_law_refusal" (defScope s_L_refusal) TX.a_L_refusal cdg (cxOf CX0 P w K mg base N_L_right (Str.ofString "_law_right") (defScope s_L_right) TX.a_L_right cdv A outer s0 H0 E).nox.A (cxOf CX0 P w K mg base N_L_right (Str.ofString "_law_right") (defScope s_L_right) TX.a_L_right cdv A outer s0 H0 E).nox.stack s H E0).nox.tr pn xe) [.Expr (.Call (.Name "_law_ask" p1) [] [] p2) p3]
        (fun D σ H' => ∃ Ech : XK, (∀ cls d H'', Ech cls d H'' → W cls d σ H'') ∧ σ[0]? = some (some (.ref f)) ∧ H' c' = some (LamX.CodeO c' q) ∧ tl Ech H' fun _ H'' => D.nx σ H'') := fun p1 p2 p3 W pn xe tk _ => by
    refine ⟨fun pins s' σ H' D I h' => ?_⟩
    obtain ⟨Ech, hW, h1, h2, h3⟩ := h'
    have hp := act W pn xe Ech p1 p2 tk
    have hq := pss_one (ps_expr (pos := p3) hp)
    exact hq.run pins s' σ H' D I ⟨h1, h2, hW, h3⟩
  refine ⟨_, (pss_cons (ps_set (i := 1) sc_L_refusal.nd rfl (.inl rfl) pe_non)
      (pss_cons (ps_try_kept (c := .ref TX.c_MergeBudgetError) (i := 2) rfl rfl sc_L_refusal.nd rfl rfl ⟨by rfl, by decide, .inl TX.gc_MergeBudgetError⟩ (HB _ _ _) (fun _ _ _ _ _ _ _ => (pss_one (ps_set (i := 1) sc_L_refusal.nd rfl (.inl rfl) (pv 2)))))
      (pss_cons (ps_if (pt_cmpR op_isN (pv 1) pe_non (nomark _))
        (pss_one (ps_ret pe_non))
        pss_nil)
      (pss_cons (ps_set (i := 3) sc_L_refusal.nd rfl (.inl rfl) (pe_lst (pa_cons pe_str (pa_cons pe_str (pa_cons pe_str (pa_cons pe_str (pa_cons pe_str (pa_cons pe_str (pa_cons pe_str (pa_cons pe_str (pa_cons pe_str (pa_cons pe_str pa_nil))))))))))))
      (pss_cons (ps_set (i := 4) sc_L_refusal.nd rfl (.inl rfl) (pe_lst (pa_cons (pe_callB (id := "isinstance") (call_isK (K := K) rfl) (by rfl) TX.b_isinstance (by decide +kernel) (pa_cons (pv 1) (pa_cons (pe_glob (v := .ref TX.c_InvalidPolicy) (by rfl) TX.gc_InvalidPolicy rfl) pa_nil))) (pa_cons (pe_callB (id := "isinstance") (call_isK (K := K) rfl) (by rfl) TX.b_isinstance (by decide +kernel) (pa_cons (pv 1) (pa_cons (pe_glob (v := .ref TX.c_InvalidKey) (by rfl) TX.gc_InvalidKey rfl) pa_nil))) (pa_cons (pe_callB (id := "isinstance") (call_isK (K := K) rfl) (by rfl) TX.b_isinstance (by decide +kernel) (pa_cons (pv 1) (pa_cons (pe_glob (v := .ref TX.c_InvalidValue) (by rfl) TX.gc_InvalidValue rfl) pa_nil))) pa_nil)))))
      (pss_cons (ps_set (i := 4) sc_L_refusal.nd rfl (.inl rfl) (pe_op op_cat (pv 4) (pe_lst (pa_cons (pe_callB (id := "isinstance") (call_isK (K := K) rfl) (by rfl) TX.b_isinstance (by decide +kernel) (pa_cons (pv 1) (pa_cons (pe_glob (v := .ref TX.c_InvalidMerge) (by rfl) TX.gc_InvalidMerge rfl) pa_nil))) (pa_cons (pe_callB (id := "isinstance") (call_isK (K := K) rfl) (by rfl) TX.b_isinstance (by decide +kernel) (pa_cons (pv 1) (pa_cons (pe_glob (v := .ref TX.c_InvalidMoment) (by rfl) TX.gc_InvalidMoment rfl) pa_nil))) (pa_cons (pe_callB (id := "isinstance") (call_isK (K := K) rfl) (by rfl) TX.b_isinstance (by decide +kernel) (pa_cons (pv 1) (pa_cons (pe_glob (v := .ref TX.c_Exhausted) (by rfl) TX.gc_Exhausted rfl) pa_nil))) pa_nil))))))
      (pss_cons (ps_set (i := 4) sc_L_refusal.nd rfl (.inl rfl) (pe_op op_cat (pv 4) (pe_lst (pa_cons (pe_callB (id := "isinstance") (call_isK (K := K) rfl) (by rfl) TX.b_isinstance (by decide +kernel) (pa_cons (pv 1) (pa_cons (pe_glob (v := .ref TX.c_NothingToUndo) (by rfl) TX.gc_NothingToUndo rfl) pa_nil))) (pa_cons (pe_callB (id := "isinstance") (call_isK (K := K) rfl) (by rfl) TX.b_isinstance (by decide +kernel) (pa_cons (pv 1) (pa_cons (pe_glob (v := .ref TX.c_InvalidText) (by rfl) TX.gc_InvalidText rfl) pa_nil))) (pa_cons (pe_callB (id := "isinstance") (call_isK (K := K) rfl) (by rfl) TX.b_isinstance (by decide +kernel) (pa_cons (pv 1) (pa_cons (pe_glob (v := .ref TX.c_InvalidLine) (by rfl) TX.gc_InvalidLine rfl) pa_nil))) pa_nil))))))
      (pss_cons (ps_expr (pe_bm PySem.F.plainAttrs_list PySem.F.slot_list_append PySem.F.type_list_append mt_append (pv 4) (pa_cons (pe_callB (id := "isinstance") (call_isK (K := K) rfl) (by rfl) TX.b_isinstance (by decide +kernel) (pa_cons (pv 1) (pa_cons (pe_glob (v := .ref TX.c_InvalidReads) (by rfl) TX.gc_InvalidReads rfl) pa_nil))) pa_nil)))
      (pss_cons (ps_setLc (i := 5) (own := [("_law_name", 6), ("_law_good", 7)]) (by rfl) sc_L_refusal.nd rfl rfl (sw_true rfl rfl rfl (by decide +kernel)) (pi_zip (by rfl) TX.b_zip (pa_cons (pv 3) (pa_cons (pv 4) pa_nil))) (blkOk_by (own := [("_law_name", 6), ("_law_good", 7)]) (N := N_L_refusal) (sc := defScope s_L_refusal) (by decide +kernel)) (fun _ _ _ _ _ => (k_pgT2 (K := K) rfl rfl (pg_name (i := 6) sc_L_refusal.nd rfl (Or.inl rfl)) (pg_name (i := 7) sc_L_refusal.nd rfl (Or.inl rfl)))) (fun _ _ _ _ _ => (pts_one (pt_val (pv 7)))) (fun _ _ _ _ _ => (pv 6)))
      (pss_cons (ps_if (PW.pt (pw_or (pt_cmpR op_ne (pe_callB (id := "len") (k_len (K := K) rfl) (by rfl) TX.b_len (by decide +kernel) (pa_cons (pv 5) pa_nil)) pe_int (nomark _)) (pw_or1 (pt_not (pt_val (pe_callB (id := "isinstance") (call_isK (K := K) rfl) (by rfl) TX.b_isinstance (by decide +kernel) (pa_cons (pv 1) (pa_cons (pe_bltn (v := .ty "ValueError") (by rfl) TX.b_ValueError (by decide +kernel) rfl) pa_nil))))))))
        (pss_one (ps_ret (pe_tup (pa_cons pe_str (pa_cons pe_str pa_nil)))))
        pss_nil)
      (pss_one (ps_ret (pe_tup (pa_cons (pe_ix (k_ixL (K := K) rfl) (pv 5) pe_int (fun _ _ => rfl)) (pa_cons (pe_ifExp (pt_cmpR op_in_seq (pe_ix (k_ixL (K := K) rfl) (pv 5) pe_int (fun _ _ => rfl)) (pe_tup (pa_cons pe_str (pa_cons pe_str pa_nil))) (by rfl)) pe_str (pe_callB (id := "repr") (k_reprQ (K := K) rfl hgd hr.units) (by rfl) TX.b_repr (by decide +kernel) (pa_cons (pe_xv (pv 1)) pa_nil))) pa_nil))))))))))))))), ?_⟩
  refine ⟨fun cls dd' H' => (∃ (i : Nat) (C dd : Addr) (x : Str) (v : V) (d : PyData), i ≠ 5 ∧ i ≠ 6 ∧ (metC TX)[i]? = some C ∧ metN[i]? = some x ∧ cls = .ref C ∧ dd' = some dd ∧ H' dd = some (.xd [("value", v)]) ∧ (Dq K H' v d ∧ d.showable = true ∧ d.depth ≤ 60 ∧ d.shown.length ≤ sizeLine) ∧ ∀ H'' t, Same H' H'' → H'' t = some (.tup [.str x, .str d.shown]) → Q (.ref t) H'') ∨
    (∃ (i : Nat) (C : Addr) (x : Str), (i = 5 ∨ i = 6) ∧ (metC TX)[i]? = some C ∧ metN[i]? = some x ∧ cls = .ref C ∧ dd' = none ∧ ∀ H'' t, Same H' H'' → H'' t = some (.tup [.str x, .str ""]) → Q (.ref t) H''), ?_, rfl, hc, h _ (Same.refl _) _ _ (fun i C dd x v d H' n5 n6 a1 a2 a3 b1 b2 b3 b4 a4 => .inl ⟨i, C, dd, x, v, d, n5, n6, a1, a2, rfl, rfl, a3, ⟨b1, b2, b3, b4⟩, a4⟩) (fun i C x H' h56 a1 a2 a4 => .inr ⟨i, C, x, h56, a1, a2, rfl, rfl, a4⟩) fun v H' q => ?_⟩
  rotate_left
  · refine ⟨_, rfl, rfl, _, rfl, iteB1 (by rfl) ?_⟩
    exact q _ (Same.refl _)
  intro cls d' H' hcase
  have hgen : ∃ (i : Nat) (C : Addr) (x : Str), (metC TX)[i]? = some C ∧ metN[i]? = some x ∧ cls = .ref C := by
    rcases hcase with ⟨i, C, _, x, _, _, _, _, h1, h2, h3, _⟩ | ⟨i, C, x, _, h1, h2, h3, _⟩
    · exact ⟨i, C, x, h1, h2, h3⟩
    · exact ⟨i, C, x, h1, h2, h3⟩
  obtain ⟨i, C, x, hi, hx, rfl⟩ := hgen
  have hmem := List.mem_of_getElem? hi
  obtain ⟨x1, x4⟩ := met_exc TX hmem
  refine ⟨exm_of TX hmem, fun a na => ⟨_, rfl, ?_⟩⟩
  have za := same_upd (o := KeO a (.ref C) d') na
  have hX : ∃ o, KAt (upd H' a (KeO a (.ref C) d')) a C o := by
    rcases hcase with ⟨_, _, dd, _, v, _, _, _, _, _, _, rfl, h3, _⟩ | ⟨_, _, _, _, _, _, _, rfl, _⟩
    · exact ⟨_, .inl (.keptd upd_same (za _ _ h3))⟩
    · exact ⟨_, .inr ⟨rfl, upd_same⟩⟩
  obtain ⟨o, hX⟩ := hX
  have hXa := upd_same (H := H') (a := a) (o := KeO a (.ref C) d')
  refine ⟨_, rfl, rfl, _, rfl, iteB0 (by rfl) ?_⟩
  have kit := fun j D hj => met_kit TX (j := j) (D := D) hi hj
  have hi10 : i < 10 := (List.getElem?_eq_some_iff.mp hi).1
  refine ⟨sz60 (by simp), fun ln nln => ?_⟩
  generalize upd H' a (KeO a (.ref C) d') = H1 at za hX hXa nln ⊢
  have zn := same_upd (o := .lst [V.str "policy", V.str "key", V.str "value", V.str "merge", V.str "moment", V.str "exhausted", V.str "undo", V.str "text", V.str "line", V.str "reads"]) nln
  have hn := upd_same (H := H1) (a := ln) (o := .lst [V.str "policy", V.str "key", V.str "value", V.str "merge", V.str "moment", V.str "exhausted", V.str "undo", V.str "text", V.str "line", V.str "reads"])
  have hX1 := hX.same zn
  generalize upd H1 ln _ = H2 at zn hn hX1 ⊢
  refine ⟨_, rfl, a, C, _, _, _, decide (i = 0), rfl, .own _, hX1, x1, kit 0 _ rfl, _, rfl, a, C, _, _, _, decide (i = 1), rfl, .own _, hX1, x1, kit 1 _ rfl, _, rfl, a, C, _, _, _, decide (i = 2), rfl, .own _, hX1, x1, kit 2 _ rfl, sz60 (by simp), fun l1 n1 => ?_⟩
  have z1 := same_upd (o := .lst [V.bl (decide (i = 0)), V.bl (decide (i = 1)), V.bl (decide (i = 2))]) n1
  have hl1 := upd_same (H := H2) (a := l1) (o := .lst [V.bl (decide (i = 0)), V.bl (decide (i = 1)), V.bl (decide (i = 2))])
  have hX2 := hX1.same z1
  have hn2 := z1 _ _ hn
  generalize upd H2 l1 _ = H3 at z1 hl1 hX2 hn2 ⊢
  refine ⟨_, rfl, _, rfl, a, C, _, _, _, decide (i = 3), rfl, .own _, hX2, x1, kit 3 _ rfl, _, rfl, a, C, _, _, _, decide (i = 4), rfl, .own _, hX2, x1, kit 4 _ rfl, _, rfl, a, C, _, _, _, decide (i = 5), rfl, .own _, hX2, x1, kit 5 _ rfl, sz60 (by simp), fun l2 n2 => ?_⟩
  have z2 := same_upd (o := .lst [V.bl (decide (i = 3)), V.bl (decide (i = 4)), V.bl (decide (i = 5))]) n2
  have hl2 := upd_same (H := H3) (a := l2) (o := .lst [V.bl (decide (i = 3)), V.bl (decide (i = 4)), V.bl (decide (i = 5))])
  refine ⟨l1, l2, _, _, rfl, rfl, z2 _ _ hl1, hl2, sz60 (by simp), fun l3 n3 => ?_⟩
  have z3 := z2.trans (same_upd (o := .lst ([V.bl (decide (i = 0)), V.bl (decide (i = 1)), V.bl (decide (i = 2))] ++ [V.bl (decide (i = 3)), V.bl (decide (i = 4)), V.bl (decide (i = 5))])) n3)
  have hl3 := upd_same (H := (upd H3 l2 (.lst [V.bl (decide (i = 3)), V.bl (decide (i = 4)), V.bl (decide (i = 5))]))) (a := l3) (o := .lst ([V.bl (decide (i = 0)), V.bl (decide (i = 1)), V.bl (decide (i = 2))] ++ [V.bl (decide (i = 3)), V.bl (decide (i = 4)), V.bl (decide (i = 5))]))
  have hX3 := hX2.same z3
  have hn3 := z3 _ _ hn2
  generalize upd (upd H3 l2 _) l3 _ = H4 at z3 hl3 hX3 hn3 ⊢
  clear z2 hl2 n2 n3
  refine ⟨_, rfl, _, rfl, a, C, _, _, _, decide (i = 6), rfl, .own _, hX3, x1, kit 6 _ rfl, _, rfl, a, C, _, _, _, decide (i = 7), rfl, .own _, hX3, x1, kit 7 _ rfl, _, rfl, a, C, _, _, _, decide (i = 8), rfl, .own _, hX3, x1, kit 8 _ rfl, sz60 (by simp), fun l4 n4 => ?_⟩
  have z4 := same_upd (o := .lst [V.bl (decide (i = 6)), V.bl (decide (i = 7)), V.bl (decide (i = 8))]) n4
  have hl4 := upd_same (H := H4) (a := l4) (o := .lst [V.bl (decide (i = 6)), V.bl (decide (i = 7)), V.bl (decide (i = 8))])
  refine ⟨l3, l4, _, _, rfl, rfl, z4 _ _ hl3, hl4, sz60 (by simp), fun l5 n5 => ?_⟩
  have z5 := z4.trans (same_upd (o := .lst (([V.bl (decide (i = 0)), V.bl (decide (i = 1)), V.bl (decide (i = 2))] ++ [V.bl (decide (i = 3)), V.bl (decide (i = 4)), V.bl (decide (i = 5))]) ++ [V.bl (decide (i = 6)), V.bl (decide (i = 7)), V.bl (decide (i = 8))])) n5)
  have hX5 := hX3.same z5
  have hn5 := z5 _ _ hn3
  refine ⟨_, rfl, .inl ⟨rfl, _, .inl (.inl upd_same)⟩, _, rfl, a, C, _, _, _, decide (i = 9), rfl, .own _, hX5, x1, kit 9 _ rfl, l5, _, _, rfl, rfl, upd_same, sz61 (by simp), ?_⟩
  rw [upd_upd]
  obtain ⟨bs, hbs⟩ : ∃ bs : List Bool, bs = (List.range 10).map fun j => decide (i = j) := ⟨_, rfl⟩
  have ebs : ([V.bl (decide (i = 0)), V.bl (decide (i = 1)), V.bl (decide (i = 2))] ++ [V.bl (decide (i = 3)), V.bl (decide (i = 4)), V.bl (decide (i = 5))]) ++ [V.bl (decide (i = 6)), V.bl (decide (i = 7)), V.bl (decide (i = 8))] ++ [V.bl (decide (i = 9))] = bs.map V.bl := by rw [hbs]; rfl
  rw [ebs]
  have nl5 : H4 l5 = none := by
    cases e : H4 l5 with
    | none => rfl
    | some o => rw [z4 _ _ e] at n5; cases n5
  have z6 := z4.trans (same_upd (o := .lst (bs.map V.bl)) n5)
  have hX6 := hX3.same z6
  have hn6 := z6 _ _ hn3
  have hl6 := upd_same (H := (upd H4 l4 (.lst [V.bl (decide (i = 6)), V.bl (decide (i = 7)), V.bl (decide (i = 8))]))) (a := l5) (o := .lst (bs.map V.bl))
  generalize upd (upd H4 l4 _) l5 (.lst (bs.map V.bl)) = H5 at z6 hX6 hn6 hl6 ⊢
  clear z4 z5 hl4 hX5 hn5 n4 n5 nl5 ebs
  have s05 := (((za.trans zn).trans z1).trans z3).trans z6
  have hXa5 := (((zn.trans z1).trans z3).trans z6) _ _ hXa
  clear hX1 hX2 hX3 hn hn2 hn3 hl1 hl3 zn z1 z3 z6 n1 nln
  have hbl : bs.length = 10 := by rw [hbs]; rfl
  have hbg : ∀ j, j < 10 → bs[j]? = some (decide (i = j)) := fun j hj => by
    rw [hbs, List.getElem?_map, List.getElem?_range hj]; rfl
  have hfl : (List.range 10).filter (fun j => decide (i = j)) = [i] := by
    have h10 : i = 0 ∨ i = 1 ∨ i = 2 ∨ i = 3 ∨ i = 4 ∨ i = 5 ∨ i = 6 ∨ i = 7 ∨ i = 8 ∨ i = 9 := by omega
    rcases h10 with rfl | rfl | rfl | rfl | rfl | rfl | rfl | rfl | rfl | rfl <;> rfl
  refine ⟨_, rfl, _, rfl, ln, l5, _, _, rfl, .inl (.inl hn6), .inl (.inl hl6), fun D nD => ?_⟩
  refine lc_sel (K := K) (walk_zip (xs := [V.str "policy", V.str "key", V.str "value", V.str "merge", V.str "moment", V.str "exhausted", V.str "undo", V.str "text", V.str "line", V.str "reads"]) (ys := bs.map V.bl) (n := 10) (by simp [hbl])) (fun j => decide (i = j)) (fun j => .str (metN.getD j "")) (fun j _ => .str _) (by omega) nD (fun H' s' => ⟨.inl (.inl (s' _ _ hn6)), .inl (.inl (s' _ _ hl6))⟩) ?_ ?_ mono_pair (fun σ' H' Q Q' h ⟨v, e, b, eb, z⟩ => ⟨v, e, b, eb, h _ _ z⟩)
  · rintro j y Hx Hx' hj sx ⟨T, v1, v2, rfl, nT, rfl, e1, e2⟩ R hR
    dsimp only at e1 e2
    rw [List.getElem?_map, hbg j hj] at e2
    cases e2
    have ev1 : v1 = .str (metN.getD j "") := by
      have h10 : j = 0 ∨ j = 1 ∨ j = 2 ∨ j = 3 ∨ j = 4 ∨ j = 5 ∨ j = 6 ∨ j = 7 ∨ j = 8 ∨ j = 9 := by omega
      rcases h10 with rfl | rfl | rfl | rfl | rfl | rfl | rfl | rfl | rfl | rfl <;> (cases e1; rfl)
    subst ev1
    exact ⟨T, _, rfl, .inl (.inl upd_same), rfl, _, _, rfl, _, _, rfl, rfl, rfl, _, rfl, _, rfl, rfl, same_upd nT, fun _ => ⟨_, rfl, hR _ _ (same_upd nT) (.str _)⟩⟩
  · intro H6 acc s6 hD6 hacc
    rw [hfl] at hacc
    have eacc : acc = [V.str x] := by
      have ex : metN.getD i "" = x := by rw [List.getD_eq_getElem?_getD, hx]; rfl
      cases hacc with
      | cons h1 h2 =>
        cases h2
        cases h1
        rw [ex]
    subst eacc
    have hX7 := hX6.same s6
    have s06 := s05.trans s6
    refine ⟨_, rfl, D, _, rfl, .inl (.inl (.inl hD6)), rfl, _, rfl, iteB0 (by rfl) ?_⟩
    refine ⟨_, rfl, a, C, _, .ty "ValueError", .type "ValueError", true, rfl, .ty _, hX7, x1, x4, true, rfl, iteF ?_⟩
    refine ⟨_, rfl, D, _, 0, _, rfl, rfl, .inl (.inl hD6), rfl, ?_⟩
    refine ⟨_, rfl, D, _, 0, _, rfl, rfl, .inl (.inl hD6), rfl, sz60 (by simp), fun tp ntp => ?_⟩
    have s7 := same_upd (o := .tup [V.str "exhausted", V.str "undo"]) ntp
    have htp : SqT K (upd H6 tp (.tup [V.str "exhausted", V.str "undo"])) tp [V.str "exhausted", V.str "undo"] := .inl (.inl upd_same)
    have hX8 := hX7.same s7
    have s07 := s06.trans s7
    generalize upd H6 tp _ = H7 at s7 htp hX8 s07 ⊢
    have hXa7 := s7 _ _ (s6 _ _ hXa5)
    refine ⟨tp, _, rfl, .inr htp, rfl, rfl, _, rfl, ?_⟩
    have uniq : ∀ (i2 : Nat) (C2 : Addr) (x2 : Str), (metC TX)[i2]? = some C2 → Value.ref C = Value.ref C2 → i2 = i := fun i2 C2 _ h1 h2 => by
      have e := Value.ref.inj h2
      subst e
      obtain ⟨q1, r1⟩ := List.getElem?_eq_some_iff.mp hi
      obtain ⟨q2, r2⟩ := List.getElem?_eq_some_iff.mp h1
      exact (List.getElem_inj (met_nd TX)).mp (r2.trans r1.symm)
    rcases hcase with ⟨i2, C2, dd, y, v, d, n5, n6, h1, h2, h3, rfl, hdd, ⟨hq1, hq2, hq3, hq4⟩, q⟩ | ⟨i2, C2, y, h56, h1, h2, h3, rfl, q⟩
    · have e := uniq i2 C2 y h1 h3
      subst e
      rw [hx] at h2
      cases h2
      obtain ⟨x2, x3⟩ := met_val TX hi n5 n6
      have hin : inV (.str x) [V.str "exhausted", V.str "undo"] = false := by
        have h10 : i2 = 0 ∨ i2 = 1 ∨ i2 = 2 ∨ i2 = 3 ∨ i2 = 4 ∨ i2 = 7 ∨ i2 = 8 ∨ i2 = 9 := by omega
        rcases h10 with rfl | rfl | rfl | rfl | rfl | rfl | rfl | rfl <;> (cases hx; decide +kernel)
      refine iteB0 hin ?_
      have hXX : XAt H7 a C (some [("value", v)]) := .keptd hXa7 (s07 _ _ hdd)
      refine ⟨_, rfl, a, C, [("value", v)], v, rfl, hXX, x2, x3, rfl, v, d, rfl, Dq.same s07 hq1, hq2, hq3, hq4, sz60 (by simp), fun t1 n1 => ?_⟩
      exact q _ t1 (s07.trans (same_upd n1)) upd_same
    · have e := uniq i2 C2 y h1 h3
      subst e
      rw [hx] at h2
      cases h2
      have hin : inV (.str x) [V.str "exhausted", V.str "undo"] = true := by
        rcases h56 with rfl | rfl <;> (cases hx; decide +kernel)
      refine iteB1 hin ?_
      refine ⟨sz60 (by simp), fun t1 n1 => ?_⟩
      exact q _ t1 (s07.trans (same_upd n1)) upd_same
end
section
variable {P : Program} {w : World} {K : PySem.W.Frag} {mg : Str → Option Value} {base : Heap}
/-- the context of the law's own body -/
abbrev lawX_R (P : Program) (w : World) (K : PySem.W.Frag) (mg : Str → Option Value) (base : Heap) (f : Addr) (cd : Value) (A : Around) (outer : List Env) (s : Shared) (H : Hp) (E : XK) : Cx := (cxOf CX0 P w K mg base N_L_right (Str.ofString "_law_right") (defScope s_L_right) f cd A outer s H E).nox
theorem passLw_R {P : Program} {w : World} {K : PySem.W.Frag} {mg : Str → Option Value} {base : Heap} {f : Addr} {cd : Value} {A : Around} {outer : List Env} {s : Shared} {H : Hp} {E E' : XK} {A' : Around} {outer' : List Env} {s' : Shared} {H' : Hp} {scope : Scope} {f' c' : Addr} :
    Passes (L2.CX P w) (LamX.lamCx (lawX_R P w K mg base f cd A outer s H E) A' outer' s' H' E' scope f' c') E' := passL' (X := lawX_R P w K mg base f cd A outer s H E)
/-- met(lambda: body), within the law -/
theorem pe_met_R (TX : Tx K mg) {A : Around} {outer : List Env} {s0 : Shared} {H0 : Hp} {E0' : XK} {n : Nat} (TB : LamX.TabB base mg TX.cdl_L_right TX.ptl_L_right) (hr : Room (n + 2) (lawX_R P w K mg base TX.a_L_right (.ref TX.cdl_L_right) A outer s0 H0 E0').A)
    (hgd : A.guards = some []) {params : Arguments} {body : Expr} {scope : Scope} {t : XK → TE} {p lpos pos : PySem.Pos} (L : LamX.LamS (defScope s_L_right) scope) (hdef : defaultsOf params (lawX_R P w K mg base TX.a_L_right (.ref TX.cdl_L_right) A outer s0 H0 E0').env = ([], []))
    (hbind : ∀ (q : Str) (cl : List (Str × Addr)) (pm cv ctv : Value), bindArgs (PySem.W.kla_fn "<lambda>" q params body scope cl pm cv ctv) ⟨[], []⟩ = pure [])
    (hbody : ∀ (A' : Around) (outer' : List Env) (s : Shared) (H : Hp) (E : XK) (f c' : Addr), Room n (A'.deeper (LamX.lamEnv (lawX_R P w K mg base TX.a_L_right (.ref TX.cdl_L_right) A outer s0 H0 E0') scope s.heap.objs.size f c')) → PE (LamX.lamCx (lawX_R P w K mg base TX.a_L_right (.ref TX.cdl_L_right) A outer s0 H0 E0') A' outer' s H E scope f c') body (t E)) :
    PE (lawX_R P w K mg base TX.a_L_right (.ref TX.cdl_L_right) A outer s0 H0 E0') (.Call (.Name "_law_refusal" p) [.Lambda params body scope lpos] [] pos) (LamX.tLam (TTs TX) (TMet TX) t) := by
  obtain ⟨oc, od, kV, doc, pm, an, cdm, ct, osl, efd, lkm, hcm⟩ := TX.f_L_refusal.ex
  have hb := TX.bd_L_refusal
  rw [efd] at hb lkm
  exact pe_lamE (by rfl) TX.g_L_refusal TX.f_L_refusal.kp lkm hcm hb sc_L_refusal rfl (.inl rfl) (met_gives_R TX (n := n + 1) hr hgd) TB rfl (List.mem_singleton.mpr rfl) (fun q hq _ => by rw [List.mem_singleton.mp hq]; rfl) hr L hdef hbind hbody
end
/-! ### a store along calls by lambdas: what stood before stays, tables aside -/
theorem StAt.extN {K : PySem.W.Frag} {C : Addr} {H H' : Hp} {s : St} {pol : List V} {t : T} {L : List (List (Key × V))} {kvs : List (Key × V)} {hs : List V} {n : Int} (a : StAt K C H s pol t L kvs hs n) (e : LamX.ExtN H H') : StAt K C H' s pol t L kvs hs n := by
  obtain ⟨dx, r, e1, e2⟩ := a.ex
  refine ⟨⟨dx, r, e _ _ e1 fun _ z => (nomatch z), extN_tup e e2⟩, e _ _ a.hm fun _ z => (nomatch z), e _ _ a.hb fun _ z => (nomatch z), e _ _ a.hh fun _ z => (nomatch z), e _ _ a.hd fun _ z => (nomatch z), a.mb, a.mh, a.bh, a.nd, a.l1, a.l2, fun i di h => ?_⟩
  obtain ⟨kv, g1, g2⟩ := a.bat i di h
  exact ⟨kv, g1, e _ _ g2 fun _ z => (nomatch z)⟩
theorem Deal.extN {H H' : Hp} {a : Addr} {n : Int} (h : Deal H a n) (e : LamX.ExtN H H') : Deal H' a n := by
  obtain ⟨d, s, m, h1, r⟩ := h
  exact ⟨d, s, m, e _ _ h1 fun _ z => (nomatch z), r⟩
theorem keep_extN {K : PySem.W.Frag} {H H' : Hp} (e : LamX.ExtN H H') : Keep K H H' := fun _ _ h => extN_tup e h
/-- the tables of lambdas stand at none of these -/
def NoTb (o : HO) : Prop := (∀ ps, o ≠ .tbl ps) ∧ ∀ c q, o ≠ LamX.CodeO c q
theorem noTb_lst {l : List V} : NoTb (.lst l) := ⟨fun _ z => (nomatch z), fun c q z => by unfold LamX.CodeO at z; cases z⟩
theorem noTb_dK {l : List (Key × V)} : NoTb (.dK l) := ⟨fun _ z => (nomatch z), fun c q z => by unfold LamX.CodeO at z; cases z⟩
theorem noTb_ins {C d : Addr} {fs : List (Str × V)} : NoTb (.ins C d fs) := ⟨fun _ z => (nomatch z), fun c q z => by unfold LamX.CodeO at z; cases z⟩
theorem tabs_butL {T : List (Addr × Str)} {H H' : Hp} {S : List Addr} (t : LamX.Tabs T H) (b : ButL S H H') (h : ∀ a, a ∈ S → ∃ o, H a = some o ∧ NoTb o) : LamX.Tabs T H' := fun p hp => by
  obtain ⟨ps, h1, h2, h3⟩ := t p hp
  refine ⟨ps, b _ _ (fun z => ?_) h1, h2, fun pos cv hc => ?_⟩
  · obtain ⟨o, e, n, _⟩ := h _ z
    rw [h1] at e
    exact n _ (Option.some.inj e).symm
  · obtain ⟨c, e1, e2⟩ := h3 pos cv hc
    refine ⟨c, e1, b _ _ (fun z => ?_) e2⟩
    obtain ⟨o, e, _, n⟩ := h _ z
    rw [e2] at e
    exact n _ _ (Option.some.inj e).symm
theorem StAt.noTb {K : PySem.W.Frag} {C : Addr} {H : Hp} {s : St} {pol : List V} {t : T} {L : List (List (Key × V))} {kvs : List (Key × V)} {hs : List V} {n : Int} (a : StAt K C H s pol t L kvs hs n) : ∀ z, z ∈ s.own → ∃ o, H z = some o ∧ NoTb o := fun z hz => by
  obtain ⟨dx, r, e1, e2⟩ := a.ex
  simp only [St.own, List.mem_cons, List.not_mem_nil, or_false] at hz
  rcases hz with rfl | rfl | rfl | rfl | rfl
  · exact ⟨_, e1, noTb_ins⟩
  · exact ⟨_, a.hm, noTb_lst⟩
  · exact ⟨_, a.hb, noTb_lst⟩
  · exact ⟨_, a.hh, noTb_lst⟩
  · exact ⟨_, a.hd, noTb_dK⟩
/-- what stands at a store's places: no table, no tuple -/
theorem StAt.kindAll {K : PySem.W.Frag} {C : Addr} {H : Hp} {s : St} {pol : List V} {t : T} {L : List (List (Key × V))} {kvs : List (Key × V)} {hs : List V} {n : Int} (a : StAt K C H s pol t L kvs hs n) : ∀ z, z ∈ s.all → ∃ o, H z = some o ∧ (∀ ps, o ≠ .tbl ps) ∧ (∀ xs, o ≠ .tup xs) ∧ ∀ u xs, o ≠ .frz u (.tup xs) := fun z hz => by
  obtain ⟨dx, r, e1, e2⟩ := a.ex
  rcases List.mem_append.mp hz with hz | hz
  · simp only [St.own, List.mem_cons, List.not_mem_nil, or_false] at hz
    rcases hz with rfl | rfl | rfl | rfl | rfl
    · exact ⟨_, e1, fun _ z => (nomatch z), fun _ z => (nomatch z), fun _ _ z => (nomatch z)⟩
    · exact ⟨_, a.hm, fun _ z => (nomatch z), fun _ z => (nomatch z), fun _ _ z => (nomatch z)⟩
    · exact ⟨_, a.hb, fun _ z => (nomatch z), fun _ z => (nomatch z), fun _ _ z => (nomatch z)⟩
    · exact ⟨_, a.hh, fun _ z => (nomatch z), fun _ z => (nomatch z), fun _ _ z => (nomatch z)⟩
    · exact ⟨_, a.hd, fun _ z => (nomatch z), fun _ z => (nomatch z), fun _ _ z => (nomatch z)⟩
  · obtain ⟨i, hi⟩ := List.mem_iff_getElem?.mp hz
    obtain ⟨kv, _, g2⟩ := a.bat i z hi
    exact ⟨_, g2, fun _ z => (nomatch z), fun _ z => (nomatch z), fun _ _ z => (nomatch z)⟩
/-- what stood before stays, tables aside -/
def Old (H0 : Hp) (S0 : List Addr) (H : Hp) : Prop := ∀ c o, c ∉ S0 → H0 c = some o → (∀ ps, o ≠ .tbl ps) → H c = some o
theorem Old.refl {H : Hp} {S : List Addr} : Old H S H := fun _ _ _ h _ => h
theorem Old.extN {H0 H H' : Hp} {S0 : List Addr} (o : Old H0 S0 H) (e : LamX.ExtN H H') : Old H0 S0 H' := fun c u h1 h2 h3 => e _ _ (o c u h1 h2 h3) h3
theorem Old.toExtN {H0 H : Hp} (o : Old H0 [] H) : LamX.ExtN H0 H := fun c u h1 h2 => o c u (fun z => nomatch z) h1 h2
theorem old_keep {K : PySem.W.Frag} {C : Addr} {H0 H : Hp} {s : St} {pol : List V} {t : T} {L : List (List (Key × V))} {kvs : List (Key × V)} {hs : List V} {n : Int} (a : StAt K C H0 s pol t L kvs hs n) (o : Old H0 s.all H) : Keep K H0 H := fun c xs h => by
  rcases h with (h | ⟨u, h⟩) | h
  · exact .inl (.inl (o _ _ (fun z => by obtain ⟨v, e, _, k, _⟩ := a.kindAll _ z; rw [h] at e; exact k _ (Option.some.inj e).symm) h fun _ z => (nomatch z)))
  · exact .inl (.inr ⟨u, o _ _ (fun z => by obtain ⟨v, e, _, _, k⟩ := a.kindAll _ z; rw [h] at e; exact k _ _ (Option.some.inj e).symm) h fun _ z => (nomatch z)⟩)
  · exact .inr h
section
variable {P : Program} {w : World} {K : PySem.W.Frag} {mg : Str → Option Value} {base : Heap} {TX : Tx K mg} {H H' H0 H1 : Hp} {S0 : List Addr} {s s' s1 : St} {nm : Str} {ks : List Int} {t t' t1 : T} {L L' L1 : List (List (Key × V))} {kvs kvs' kvs1 : List (Key × V)} {hs hs' hs1 : List V} {n n' n1 : Int}
/-- a store at H, which has come out of H0 by calls: what stood at H0 outside S0 stays, tables aside; its places are of S0 or new -/
structure Gs (TX : Tx K mg) (H0 : Hp) (S0 : List Addr) (H : Hp) (s : St) (nm : Str) (ks : List Int) (t : T) (L : List (List (Key × V))) (kvs : List (Key × V)) (hs : List V) (n : Int) : Prop where
  st : StAt K TX.C_Store H s (polV nm ks) t L kvs hs n
  tb : LamX.Tabs (TTs TX) H
  old : Old H0 S0 H
  fs : ∀ z, z ∈ s.all → z ∈ S0 ∨ ∀ o, H0 z = some o → ∃ ps, o = .tbl ps
theorem Gs.refl (st : StAt K TX.C_Store H s (polV nm ks) t L kvs hs n) (tb : LamX.Tabs (TTs TX) H) : Gs TX H s.all H s nm ks t L kvs hs n := ⟨st, tb, .refl, fun z h => .inl h⟩
theorem Gs.extN (g : Gs TX H0 S0 H s nm ks t L kvs hs n) (e : LamX.ExtN H H') (tb : LamX.Tabs (TTs TX) H') : Gs TX H0 S0 H' s nm ks t L kvs hs n := ⟨g.st.extN e, tb, g.old.extN e, g.fs⟩
theorem Gs.same (g : Gs TX H0 S0 H s nm ks t L kvs hs n) (e : Same H H') : Gs TX H0 S0 H' s nm ks t L kvs hs n := g.extN (.of e) (Tabs.same g.tb e)
/-- the store is changed -/
theorem Gs.store (g : Gs TX H0 S0 H s nm ks t L kvs hs n) (sub : ∀ z, z ∈ s'.all → z ∈ s.all ∨ H z = none) (b : ButL s.own H H') (st : StAt K TX.C_Store H' s' (polV nm ks) t' L' kvs' hs' n') : Gs TX H0 S0 H' s' nm ks t' L' kvs' hs' n' := by
  refine ⟨st, tabs_butL g.tb b g.st.noTb, fun c o h1 h2 h3 => b _ _ (fun z => ?_) (g.old c o h1 h2 h3), fun z hz => ?_⟩
  · rcases g.fs c (List.mem_append_left _ z) with h4 | h4
    · exact h1 h4
    · obtain ⟨ps, e⟩ := h4 o h2
      exact h3 ps e
  · rcases sub z hz with h | h
    · exact g.fs z h
    · by_cases h1 : z ∈ S0
      · exact .inl h1
      · refine .inr fun o h2 => Classical.byContradiction fun h3 => ?_
        rw [g.old z o h1 h2 fun ps e => h3 ⟨ps, e⟩] at h; cases h
theorem Gs.trans (g : Gs TX H0 S0 H1 s nm ks t L kvs hs n) (g' : Gs TX H1 s.all H s' nm ks t' L' kvs' hs' n') : Gs TX H0 S0 H s' nm ks t' L' kvs' hs' n' := by
  refine ⟨g'.st, g'.tb, fun c o h1 h2 h3 => g'.old c o (fun z => ?_) (g.old c o h1 h2 h3) h3, fun z hz => ?_⟩
  · rcases g.fs c z with h4 | h4
    · exact h1 h4
    · obtain ⟨ps, e⟩ := h4 o h2
      exact h3 ps e
  · rcases g'.fs z hz with h | h
    · exact g.fs z h
    · by_cases h1 : z ∈ S0
      · exact .inl h1
      · refine .inr fun o h2 => Classical.byContradiction fun h3 => ?_
        obtain ⟨ps, e⟩ := h o (g.old z o h1 h2 fun ps e => h3 ⟨ps, e⟩)
        exact h3 ⟨ps, e⟩
/-- another store stays as it is -/
theorem Gs.other (a0 : StAt K TX.C_Store H0 s (polV nm ks) t L kvs hs n) (g : Gs TX H0 s.all H s' nm ks t' L' kvs' hs' n') {s2 : St} {pol : List V} {t2 : T} {L2 : List (List (Key × V))} {kv2 : List (Key × V)} {hs2 : List V} {n2 : Int} (y : StAt K TX.C_Store H0 s2 pol t2 L2 kv2 hs2 n2) (d : ∀ z, z ∈ s2.all → z ∉ s.all) :
    StAt K TX.C_Store H s2 pol t2 L2 kv2 hs2 n2 ∧ ∀ z, z ∈ s2.all → z ∉ s'.all := by
  have kp := old_keep a0 g.old
  have mv : ∀ {z o}, z ∈ s2.all → H0 z = some o → H z = some o := fun {z o} hz e => g.old z o (d z hz) e fun ps q => by
    obtain ⟨u, e2, k, _⟩ := y.kindAll z hz
    rw [e] at e2
    exact k ps (by rw [← Option.some.inj e2]; exact q)
  refine ⟨?_, fun z hz hz' => ?_⟩
  · obtain ⟨dx, r, e1, e2⟩ := y.ex
    refine ⟨⟨dx, r, mv (by simp [St.all, St.own]) e1, kp _ _ e2⟩, mv (by simp [St.all, St.own]) y.hm, mv (by simp [St.all, St.own]) y.hb, mv (by simp [St.all, St.own]) y.hh, mv (by simp [St.all, St.own]) y.hd, y.mb, y.mh, y.bh, y.nd, y.l1, y.l2, fun i di h => ?_⟩
    obtain ⟨kv, g1, g2⟩ := y.bat i di h
    exact ⟨kv, g1, mv (by simp [St.all, List.mem_of_getElem? h]) g2⟩
  · obtain ⟨u, e2, k, _⟩ := y.kindAll z hz
    rcases g.fs z hz' with h | h
    · exact d z hz h
    · obtain ⟨ps, e⟩ := h u e2
      exact k ps e
end
theorem Sm.rq {k n : Nat} {d : PyData} (h : Sm k n d) (hk : k ≤ 60) (hn : n ≤ 200000) : d.showable = true ∧ d.depth ≤ 60 ∧ d.shown.length ≤ sizeLine := by
  refine ⟨h.shw, Nat.le_trans h.dep hk, ?_⟩
  have h1 := PyData.shown_le_bulk 40 (by decide) d h.short
  have h3 : (40 + 2) * d.bulk ≤ 42 * 200000 := Nat.mul_le_mul (Nat.le_refl _) (Nat.le_trans h.bulk hn)
  have h4 : sizeLine = 16777216 := by decide
  omega
theorem rp12 {ds : List PyData} (h : ∀ d, d ∈ ds → Sm 31 400 d) (hl : ds.length = 12) : (PyData.list ds).showable = true ∧ (PyData.list ds).depth ≤ 60 ∧ (PyData.list ds).shown.length ≤ sizeLine := by
  obtain ⟨a, b, c, e⟩ := sm_all h
  refine ⟨by simp only [PyData.showable]; exact b, by simp only [PyData.depth]; omega, ?_⟩
  have h1 := PyData.shown_le_bulk 40 (by decide) (.list ds) (by simp only [PyData.leavesShort]; exact c)
  have h2 : (PyData.list ds).bulk ≤ 401 * 12 + 2 := by simp only [PyData.bulk]; rw [hl] at e; omega
  have h3 : (40 + 2) * (PyData.list ds).bulk ≤ 42 * (401 * 12 + 2) := Nat.mul_le_mul (Nat.le_refl _) h2
  have h4 : sizeLine = 16777216 := by decide
  omega
theorem dq_nil {K : PySem.W.Frag} {H : Hp} {a : Addr} (h : SqT K H a []) : Dq K H (.ref a) (.tuple []) := .tupq h .nil
theorem dq_ints {K : PySem.W.Frag} {H : Hp} : ∀ (ks : List Int), DqAll K H (ks.map V.int) (ks.map PyData.int)
  | [] => .nil
  | k :: ks => .cons (.intq k) (dq_ints ks)
theorem dq_pol {K : PySem.W.Frag} {H : Hp} {a : Addr} {nm : Str} {ks : List Int} (h : SqT K H a (polV nm ks)) : Dq K H (.ref a) (.tuple (.str nm :: ks.map PyData.int)) := .tupq h (.cons (.strq nm) (dq_ints ks))
theorem polB_inv {K : PySem.W.Frag} {H : Hp} {x : V} {d : PyData} (h : Dq K H x d) (hb : polB d = true) : ∃ r nm ks, x = .ref r ∧ SqT K H r (polV nm ks) ∧ PolN nm ks ∧ d = .tuple (.str nm :: ks.map PyData.int) := by
  cases h with
  | @tupq a xs ds hS hA =>
    cases hA with
    | nil => cases hb
    | @cons v vs d0 dr hv hA =>
      cases hv with
      | strq nm =>
        have h2 : (decide (nm ∈ pnames) && decide (dr.length = pn nm) && (dr.map okB).all id) = true := hb
        simp only [Bool.and_eq_true, decide_eq_true_eq] at h2
        obtain ⟨⟨h1, h2⟩, h3⟩ := h2
        have key : ∀ {vs : List V} {dr : List PyData}, DqAll K H vs dr → (dr.map okB).all id = true → ∃ ks : List Int, vs = ks.map V.int ∧ dr = ks.map PyData.int ∧ ∀ k ∈ ks, 1 ≤ k ∧ k ≤ 60 := by
          intro vs dr hA
          induction hA using DqAll.rec (motive_1 := fun _ _ _ => True) with
          | nil => intro _; exact ⟨[], rfl, rfl, fun _ h => nomatch h⟩
          | cons hd _ _ ih =>
            intro h
            simp only [List.map_cons, List.all_cons, Bool.and_eq_true, id] at h
            obtain ⟨ks, rfl, rfl, h4⟩ := ih h.2
            cases hd with
            | intq i =>
              have h5 : (decide (1 ≤ i) && decide (i ≤ 60)) = true := h.1
              simp only [Bool.and_eq_true, decide_eq_true_eq] at h5
              refine ⟨i :: ks, rfl, rfl, fun k hk => ?_⟩
              rcases List.mem_cons.mp hk with rfl | hk
              · exact h5
              · exact h4 k hk
            | _ => cases h.1
          | _ => trivial
        obtain ⟨ks, rfl, rfl, h4⟩ := key hA h3
        have hl : ks.length = pn nm := by simpa using h2
        refine ⟨a, nm, ks, rfl, hS, ⟨?_, h4⟩, rfl⟩
        unfold pnames at h1
        simp only [List.mem_cons, List.not_mem_nil, or_false] at h1
        rcases h1 with rfl | rfl | rfl
        · exact .inl ⟨rfl, hl⟩
        · exact .inr (.inl ⟨rfl, hl⟩)
        · exact .inr (.inr ⟨rfl, hl⟩)
      | _ => cases hb
  | _ => cases hb
section
variable {P : Program} {w : World} {K : PySem.W.Frag} {mg : Str → Option Value} {base : Heap}
def sp_L_right (TX : Tx K mg) : Sp := fun vs H Q _ => ∃ (x : V) (d : PyData) (o : HO), vs = [x] ∧ Dq K H x d ∧ Sm 31 400 d ∧ NmOk d ∧ (∀ ds, d = .tuple ds → ds.length ≤ 100) ∧ LamX.Tabs (TTs TX) H ∧ H sysModules = some o ∧ (∀ ps, o ≠ .tbl ps) ∧ ∀ H', LamX.ExtN H H' → LamX.Tabs (TTs TX) H' → Q (.bl true) H'
theorem ok_L_right (TX : Tx K mg) [WP w TX] (TB : LamX.TabB base mg TX.cdl_L_right TX.ptl_L_right) : FnG P w K mg base CX0 12 TX.a_L_right TX.fd_L_right ["_law_thing"] (sp_L_right TX) := by
  obtain ⟨oc, od, kV, doc, pm, an, ct, osl, efd, lk, hcd⟩ := TX.lawc_L_right
  rw [efd] at lk ⊢
  refine fnG_of lk hcd sc_L_right (fun vs H Q E h => ?_) (fun A hgd outer s0 H vs Q E hr h => ?_)
  · obtain ⟨x, d, o, rfl, _⟩ := h; rfl
  · obtain ⟨x, d, o, rfl, hq, hsm, hnm, hlen, tb, hsys, hot, q⟩ := h
    suffices hh : ∃ t, PSs (lawX_R P w K mg base TX.a_L_right (.ref TX.cdl_L_right) A outer s0 H E) (defBody s_L_right) t ∧ t { nx := fun _ H' => Q .non H', rt := Q } (start N_L_right [x]) H from (let ⟨t, h1, h2⟩ := hh; ⟨t, h1.nox, h2⟩)
    refine ⟨_, (pss_cons (ps_if (pt_not (pt_val (pe_call (ok_L_is_policy TX) (hr.mono (by decide)) (by rfl) TX.g_L_is_policy TX.f_L_is_policy.kp TX.bd_L_is_policy .nil pass0 (pa_cons (pv 0) pa_nil))))
        (pss_one (ps_ret (pe_cmpR (op_eqD hr.units) (pe_met_R (n := 9) TX TB (hr.mono (by decide)) hgd (LamX.lamS_by (by decide +kernel)) rfl (fun _ _ _ _ _ => rfl) (fun _ _ _ _ _ _ _ hr => (pe_make TX.mk_Store (ok_Store___init__X (w := w) TX) (hr.mono (by decide)) (by rfl) TX.gc_Store TX.bd_Store___init__ .nil passLw_R (pa_cons (pv 0) pa_nil)))) (pe_tup (pa_cons pe_str (pa_cons (pe_callB (id := "repr") (k_reprQ (K := K) rfl hgd hr.units) (by rfl) TX.b_repr (by decide +kernel) (pa_cons (pv 0) pa_nil)) pa_nil))) (nomark _))))
        pss_nil)
      (pss_cons (ps_set (i := 1) sc_L_right.nd rfl (.inr rfl) (pe_make TX.mk_Store (ok_Store___init__ (w := w) TX) (hr.mono (by decide)) (by rfl) TX.gc_Store TX.bd_Store___init__ .nil pass0 (pa_cons (pv 0) pa_nil)))
      (pss_cons (ps_set (i := 2) sc_L_right.nd rfl (.inl rfl) (pe_lst (pa_cons (pe_meth0 (pv 1) TX.cl_Store TX.m_Store_stack (ok_Store_stack TX) (hr.mono (by decide)) TX.bd_Store_stack .nil pass0) (pa_cons (pe_meth0 (pv 1) TX.cl_Store TX.m_Store_state (ok_Store_state TX) (hr.mono (by decide)) TX.bd_Store_state .nil pass0) (pa_cons (pe_meth0 (pv 1) TX.cl_Store TX.m_Store_schedule (ok_Store_schedule TX) (hr.mono (by decide)) TX.bd_Store_schedule .nil pass0) (pa_cons (pe_meth0 (pv 1) TX.cl_Store TX.m_Store_sizes (ok_Store_sizes TX) (hr.mono (by decide)) TX.bd_Store_sizes .nil pass0) (pa_cons (pe_meth0 (pv 1) TX.cl_Store TX.m_Store_written (ok_Store_written TX) (hr.mono (by decide)) TX.bd_Store_written .nil pass0) (pa_cons (pe_meth0 (pv 1) TX.cl_Store TX.m_Store_pending (ok_Store_pending TX) (hr.mono (by decide)) TX.bd_Store_pending .nil pass0) pa_nil))))))))
      (pss_cons (ps_set (i := 2) sc_L_right.nd rfl (.inl rfl) (pe_op op_cat (pv 2) (pe_lst (pa_cons (pe_meth0 (pv 1) TX.cl_Store TX.m_Store_policy (ok_Store_policy TX) (hr.mono (by decide)) TX.bd_Store_policy .nil pass0) (pa_cons (pe_meth0 (pv 1) TX.cl_Store TX.m_Store_present (ok_Store_present TX) (hr.mono (by decide)) TX.bd_Store_present TX.vd_Store_present pass0) (pa_cons (pe_callB (id := "len") (call_lenO (ok_Store___len__ TX) (hr.mono (by decide)) TX.m_Store___len__.at_ TX.m_Store___len__.fn TX.bd_Store___len__ pass0) (by rfl) TX.b_len (by decide +kernel) (pa_cons (pv 1) pa_nil)) (pa_cons (pe_meth0 (pv 1) TX.cl_Store TX.m_Store_visited (ok_Store_visited TX) (hr.mono (by decide)) TX.bd_Store_visited .nil pass0) (pa_cons (pe_meth (pv 1) TX.cl_Store TX.m_Store_read (ok_Store_read TX) (hr.mono (by decide)) TX.bd_Store_read TX.vd_Store_read pass0 (pa_cons pe_str pa_nil)) pa_nil))))))))
      (pss_cons (ps_expr (pe_bm PySem.F.plainAttrs_list PySem.F.slot_list_append PySem.F.type_list_append mt_append (pv 2) (pa_cons (pe_methK0 (pv 1) TX.cl_Store TX.m_Store_present (ok_Store_present TX) (hr.mono (by decide)) TX.kb_Store_present_moment pass0 (pk_cons pe_int pk_nil)) pa_nil)))
      (pss_cons (ps_set (i := 3) sc_L_right.nd rfl (.inl rfl) (pe_lst (pa_cons (pe_tup pa_nil) (pa_cons (pe_tup pa_nil) (pa_cons (pe_tup pa_nil) (pa_cons (pe_tup pa_nil) (pa_cons pe_int (pa_cons (pe_tup pa_nil) (pa_cons (pv 0) (pa_cons (pe_tup pa_nil) (pa_cons pe_int (pa_cons pe_int (pa_cons pe_non (pa_cons (pe_tup pa_nil) pa_nil))))))))))))))
      (pss_one (ps_ret (pe_and (pe_cmpR op_eq (pe_callB (id := "repr") (k_reprQ (K := K) rfl hgd hr.units) (by rfl) TX.b_repr (by decide +kernel) (pa_cons (pv 2) pa_nil)) (pe_callB (id := "repr") (k_reprQ (K := K) rfl hgd hr.units) (by rfl) TX.b_repr (by decide +kernel) (pa_cons (pv 3) pa_nil)) (nomark _)) (pe_one (pe_cmpR (op_eqD hr.units) (pe_met_R (n := 9) TX TB (hr.mono (by decide)) hgd (LamX.lamS_by (by decide +kernel)) rfl (fun _ _ _ _ _ => rfl) (fun _ _ _ _ _ _ _ hr => (pe_meth0 (pv 1) TX.cl_Store TX.m_Store_undo (ok_Store_undoX TX) (hr.mono (by decide)) TX.bd_Store_undo .nil passLw_R))) (pe_tup (pa_cons pe_str (pa_cons pe_str pa_nil))) (nomark _)))))))))))), ?_⟩
    have rd := hsm.rq (by decide) (by decide)
    refine ⟨_, rfl, x, d, rfl, hq, hnm, hlen, fun H1 s1 => ?_⟩
    have tb1 := Tabs.same tb s1
    have hq1 := Dq.same s1 hq
    have x1 : LamX.ExtN H H1 := .of s1
    cases hb : polB d with
    | false =>
      refine ⟨false, rfl, iteB1 (by rfl) ?_⟩
      refine ⟨tb1, fun HA xA tA => ?_⟩
      have hqA := Dq.extN xA hq1
      have xA := x1.trans xA
      intro HB sB E' R hE1 hE2 hR
      have hqB := Dq.same sB hqA
      have tB := Tabs.same tA sB
      have xB := xA.trans (.of sB)
      refine ⟨_, rfl, fun p dx hp0 hd0 ndp => ?_⟩
      have w2 := same_upd (o := .own p) hd0
      have hp1 : (upd HB dx (.own p)) p = none := by rw [upd_ne ndp.symm]; exact hp0
      have w3 := w2.trans (same_upd (o := .ins TX.C_Store dx []) hp1)
      refine ⟨.ref p, x, d, rfl, Dq.same w3 hqB, hnm, hlen, hb, fun d0 H' sH' hd0' => hE1 0 TX.c_InvalidPolicy d0 "policy" x d H' (by decide) (by decide) rfl rfl hd0' (Dq.same (w3.trans sH') hqB) rd.1 rd.2.1 rd.2.2 fun HD tq sD htq => ?_⟩
      have sBD := (w3.trans sH').trans sD
      refine ⟨_, rfl, _, d, rfl, Dq.same sBD hqB, rd.1, rd.2.1, rd.2.2, sz60 (by simp), fun tp ntp => ?_⟩
      have w4 := same_upd (o := .tup [V.str "policy", V.str d.shown]) ntp
      have hsh : Sh 4 (.tuple [.str "policy", .str d.shown]) := .tup fun y hy => by
        simp only [List.mem_cons, List.not_mem_nil, or_false] at hy
        rcases hy with rfl | rfl
        · exact .str (by decide +kernel)
        · exact .str hsm.sok
      refine ⟨.tuple [.str "policy", .str d.shown], .tuple [.str "policy", .str d.shown], .tup (.inl (.inl (w4 _ _ htq))) (.cons (.str _) (.cons (.str _) .nil)), .tup (.inl (.inl upd_same)) (.cons (.str _) (.cons (.str _) .nil)), hsh.shaped (by decide), hsh.shaped (by decide), ?_⟩
      have he : PyData.eqv (.tuple [.str "policy", .str d.shown]) (.tuple [.str "policy", .str d.shown]) = true := by simp [PyData.eqv, PyData.eqvAll]
      rw [he]
      have sBE := sBD.trans w4
      exact q _ (xB.trans (.of sBE)) (Tabs.same tB sBE)
    | true =>
      obtain ⟨r, nm, ks, rfl, hr1, hpn, rfl⟩ := polB_inv hq1 hb
      refine ⟨true, rfl, iteB0 (by rfl) ?_⟩
      refine ⟨_, rfl, fun pst dx hp0 hd0 ndp => ?_⟩
      refine mk_store hr1 hpn hp0 hd0 ndp fun H2 s s2 ep at0 fr => ⟨rfl, ?_⟩
      subst ep
      have nsp : H s.p = none := s1.free hp0
      have a1 : StAt K TX.C_Store H2 s (polV nm ks) .nil [] [] [] 0 := at0
      have tb2 := Tabs.same tb1 s2
      have x2 := x1.trans (.of s2)
      have hr2 := Same.tup s2 hr1
      clear at0 hr1 hq1 x1 tb1 s2 s1 fr hp0 hd0 ndp
      refine ⟨_, rfl, f_meth a1 (by decide +kernel) ⟨s, _, .nil, [], [], [], 0, rfl, a1, by decide, fun G2 b1 s2 hb1 => ?_⟩⟩
      have a2 := a1.same s2
      refine ⟨_, rfl, f_meth a2 (by decide +kernel) ⟨s, _, .nil, [], [], [], 0, rfl, a2, by decide, fun G3 b2 s3 hb2 => ?_⟩⟩
      have a3 := a2.same s3
      refine ⟨_, rfl, f_meth a3 (by decide +kernel) ⟨s, _, .nil, [], [], [], 0, rfl, a3, fun G4 b3 s4 hb3 => ?_⟩⟩
      have a4 := a3.same s4
      refine ⟨_, rfl, f_meth a4 (by decide +kernel) ⟨s, _, .nil, [], [], [], 0, rfl, a4, by decide, fun G5 b4 s5 hb4 => ?_⟩⟩
      have a5 := a4.same s5
      refine ⟨_, rfl, f_meth a5 (by decide +kernel) ⟨s, _, .nil, [], [], [], 0, rfl, a5, by decide, fun v hv => (nomatch hv), fun G6 s6 => ?_⟩⟩
      have a6 := a5.same s6
      refine ⟨_, rfl, f_meth a6 (by decide +kernel) ⟨s, _, .nil, [], [], [], 0, rfl, a6, Ek.nil, fun G7 b6 ys s7 hp hs hb6 => ?_⟩⟩
      have a7 := a6.same s7
      have s37 := (((s4.trans s5).trans s6).trans s7)
      have q1 : SqT K G7 b1 [] := by
        obtain ⟨g, xs, e, hX, hA⟩ := Dp.tupInv (Dp.same (s3.trans s37) hb1)
        cases e; cases hA
        exact hX
      have q2 : SqT K G7 b2 [] := Same.tup s37 hb2
      have q3 : SqT K G7 b3 [] := Same.tup ((s5.trans s6).trans s7) hb3
      have q4 : SqT K G7 b4 [] := Same.tup (s6.trans s7) hb4
      have hys : ys = [] := by
        have := hp.length_eq
        exact List.length_eq_zero_iff.mp this
      subst hys
      have q6 : SqT K G7 b6 [] := by
        obtain ⟨g, xs, e, hX, hA⟩ := Dp.tupInv hb6
        cases e; cases hA
        exact hX
      have sH := ((s2.trans s3).trans s37)
      have x7 := x2.trans (.of sH)
      have tb7 := Tabs.same tb2 sH
      have hr7 := Same.tup sH hr2
      clear a1 a2 a3 a4 a5 a6 s2 s3 s4 s5 s6 s7 s37 hb1 hb2 hb3 hb4 hb6 hp hs tb2 x2 hr2 sH
      refine ⟨sz60 (by simp), fun f nf => ?_⟩
      have hw : dot (szL []) T.nil.wr = 0 := rfl
      rw [hw]
      have s8 := same_upd (o := .lst [V.ref b1, V.ref b2, V.ref b3, V.ref b4, V.int 0, V.ref b6]) nf
      have h8 := upd_same (H := G7) (a := f) (o := .lst [V.ref b1, V.ref b2, V.ref b3, V.ref b4, V.int 0, V.ref b6])
      have a8 := a7.same s8
      have k8 := Keep.of s8 (K := K)
      have q1 := k8 _ _ q1
      have q2 := k8 _ _ q2
      have q3 := k8 _ _ q3
      have q4 := k8 _ _ q4
      have q6 := k8 _ _ q6
      have hr8 := k8 _ _ hr7
      have x8 := x7.trans (.of s8)
      have tb8 := Tabs.same tb7 s8
      generalize upd G7 f _ = G8 at h8 a8 q1 q2 q3 q4 q6 hr8 x8 tb8 ⊢
      clear s8 k8 nf a7 x7 tb7 hr7
      refine ⟨_, rfl, _, rfl, f_meth a8 (by decide +kernel) ⟨s, _, .nil, [], [], [], 0, rfl, a8, fun rr hrr => ?_⟩⟩
      refine ⟨_, rfl, f_meth a8 (by decide +kernel) ⟨s, _, .nil, [], [], [], 0, .non, 0, rfl, a8, by decide, .inl ⟨rfl, rfl⟩, Ek.nil, fun _ h => (nomatch h), fun G9 pn zs s9 asc hpn9 => ?_⟩⟩
      have hzs : zs = [] := by
        cases zs with
        | nil => rfl
        | cons z zs =>
          have := (asc.mem z).mp (List.mem_cons_self ..)
          exact absurd rfl this
      subst hzs
      have a9 := a8.same s9
      have k9 := Keep.of s9 (K := K)
      have q1 := k9 _ _ q1
      have q2 := k9 _ _ q2
      have q3 := k9 _ _ q3
      have q4 := k9 _ _ q4
      have q6 := k9 _ _ q6
      have hr9 := k9 _ _ hr8
      have hrr := k9 _ _ hrr
      have h9 := s9 _ _ h8
      have x9 := x8.trans (.of s9)
      have tb9 := Tabs.same tb8 s9
      clear s9 k9 a8 h8 hr8 x8 tb8 asc
      refine ⟨_, rfl, ?_⟩
      dsimp only [tNil]
      refine len_store a9 (by decide) ?_
      refine ⟨_, rfl, f_meth a9 (by decide +kernel) ⟨s, _, .nil, [], [], [], 0, rfl, a9, ?_⟩⟩
      refine ⟨_, rfl, f_meth a9 (by decide +kernel) ?_⟩
      dsimp only [tNil, tCons, List.cons_append, List.nil_append, List.append_nil]
      refine ⟨s, _, .nil, [], [], [], 0, "a", .non, 0, rfl, a9, by decide +kernel, by decide, .inl ⟨rfl, rfl⟩, fun GA bA stA => ?_⟩
      have stA : StAt K TX.C_Store GA s (polV nm ks) .nil [] [] [] 0 := stA
      have hrd : rdV .non [] [] .nil "a" 0 = .non := rfl
      rw [hrd]
      have bA' : ButL s.own G9 GA := bA.mono fun c h => by rw [List.mem_singleton.mp h]; simp [St.own]
      have kA : Keep K G9 GA := a9.keep bA'
      have q1 := kA _ _ q1
      have q2 := kA _ _ q2
      have q3 := kA _ _ q3
      have q4 := kA _ _ q4
      have q6 := kA _ _ q6
      have hrA := kA _ _ hr9
      have hrr := kA _ _ hrr
      have hpnA := kA _ _ hpn9
      obtain ⟨dS, rS, iS, _⟩ := id a9.ex
      have nfp : f ∉ [s.p] := fun z => by rw [List.mem_singleton.mp z, iS] at h9; cases h9
      have hA := bA _ _ nfp h9
      have xA : LamX.ExtN H GA := fun c u h1 h2 => bA _ _ (fun z => by rw [List.mem_singleton.mp z, nsp] at h1; cases h1) (x9 _ _ h1 h2)
      have tbA := tabs_butL tb9 bA (fun c hc => by rw [List.mem_singleton.mp hc]; exact ⟨_, iS, noTb_ins⟩)
      have hsysA := xA _ _ hsys hot
      clear bA bA' kA a9 iS nfp h9 x9 tb9 hr9 hpn9
      refine ⟨sz60 (by simp), fun b nb => ?_⟩
      have sb := same_upd (o := .lst [V.ref rr, V.ref pn, V.int ((T.nil.size : Nat) : Int), V.int 0, V.non]) nb
      refine ⟨f, b, _, _, rfl, rfl, sb _ _ hA, upd_same, sz60 (by simp), fun r2 nr => ?_⟩
      have sr := same_upd (o := .lst ([V.ref b1, V.ref b2, V.ref b3, V.ref b4, V.int 0, V.ref b6] ++ [V.ref rr, V.ref pn, V.int ((T.nil.size : Nat) : Int), V.int 0, V.non])) nr
      have hr2 := upd_same (H := upd GA b (.lst [V.ref rr, V.ref pn, V.int ((T.nil.size : Nat) : Int), V.int 0, V.non])) (a := r2) (o := .lst ([V.ref b1, V.ref b2, V.ref b3, V.ref b4, V.int 0, V.ref b6] ++ [V.ref rr, V.ref pn, V.int ((T.nil.size : Nat) : Int), V.int 0, V.non]))
      have nr2 : GA r2 = none := sb.free nr
      have nys : r2 ≠ sysModules := fun z => by rw [z, hsysA] at nr2; cases nr2
      have sGr := sb.trans sr
      generalize upd (upd GA b _) r2 _ = Gr at hr2 sGr ⊢
      clear sb sr nb nr
      have aR := stA.same sGr
      refine ⟨_, rfl, .inl ⟨rfl, _, .inl (.inl hr2)⟩, _, rfl, f_meth aR (by decide +kernel) ?_⟩
      refine ⟨rfl, ?_⟩
      show sp_Store_present TX [.ref s.p, .int 0] Gr _ _
      refine ⟨s, _, .nil, [], [], [], 0, .int 0, 0, rfl, aR, by decide, .inr ⟨rfl, by decide⟩, Ek.nil, fun _ h => (nomatch h), fun GB pm zs sB asc hpm => ?_⟩
      have hzs : zs = [] := by
        cases zs with
        | nil => rfl
        | cons z zs =>
          have := (asc.mem z).mp (List.mem_cons_self ..)
          exact absurd rfl this
      subst hzs
      have hrB := sB _ _ hr2
      refine ⟨r2, _, _, rfl, rfl, hrB, sz61 (by simp), ?_⟩
      have bC : But r2 GB (upd GB r2 (.lst ([V.ref b1, V.ref b2, V.ref b3, V.ref b4, V.int 0, V.ref b6] ++ [V.ref rr, V.ref pn, V.int ((T.nil.size : Nat) : Int), V.int 0, V.non] ++ [V.ref pm]))) := But.upd
      have hpm := bC.keep hrB _ _ hpm
      have hC := upd_same (H := GB) (a := r2) (o := .lst ([V.ref b1, V.ref b2, V.ref b3, V.ref b4, V.int 0, V.ref b6] ++ [V.ref rr, V.ref pn, V.int ((T.nil.size : Nat) : Int), V.int 0, V.non] ++ [V.ref pm]))
      have sC : Same GA (upd GB r2 (.lst ([V.ref b1, V.ref b2, V.ref b3, V.ref b4, V.int 0, V.ref b6] ++ [V.ref rr, V.ref pn, V.int ((T.nil.size : Nat) : Int), V.int 0, V.non] ++ [V.ref pm]))) := fun c u e => bC _ _ (fun z => by rw [z, nr2] at e; cases e) (sB _ _ (sGr _ _ e))
      generalize upd GB r2 _ = GC at hpm hC sC ⊢
      clear bC hrB sB hr2 sGr aR asc
      have kC := Keep.of sC (K := K)
      have q1 := kC _ _ q1
      have q2 := kC _ _ q2
      have q3 := kC _ _ q3
      have q4 := kC _ _ q4
      have q6 := kC _ _ q6
      have hrC := kC _ _ hrA
      have hrr := kC _ _ hrr
      have hpnC := kC _ _ hpnA
      have aC := stA.same sC
      have xC := xA.trans (.of sC)
      have tbC := Tabs.same tbA sC
      have hsysC := sC _ _ hsysA
      clear kC hrA hpnA stA sC xA tbA hsysA hA nr2
      refine ⟨sz60 (by simp), fun u1 m1 => ⟨sz60 (by simp), fun u2 m2 => ⟨sz60 (by simp), fun u3 m3 => ⟨sz60 (by simp), fun u4 m4 => ⟨sz60 (by simp), fun u5 m5 => ⟨_, rfl, sz60 (by simp), fun u6 m6 => ⟨sz60 (by simp), fun u7 m7 => ⟨sz60 (by simp), fun l2 ml => ?_⟩⟩⟩⟩⟩⟩⟩⟩
      have v1 := same_upd (o := .tup []) m1
      have v2 := same_upd (o := .tup []) m2
      have v3 := same_upd (o := .tup []) m3
      have v4 := same_upd (o := .tup []) m4
      have v5 := same_upd (o := .tup []) m5
      have v6 := same_upd (o := .tup []) m6
      have v7 := same_upd (o := .tup []) m7
      have v8 := same_upd (o := .lst [V.ref u1, V.ref u2, V.ref u3, V.ref u4, V.int 0, V.ref u5, V.ref r, V.ref u6, V.int 0, V.int 0, V.non, V.ref u7]) ml
      have t7 := v7.trans v8
      have t6 := v6.trans t7
      have t5 := v5.trans t6
      have t4 := v4.trans t5
      have t3 := v3.trans t4
      have t2 := v2.trans t3
      have t1 := v1.trans t2
      have w1 := t2 _ _ (upd_same (H := GC) (a := u1) (o := .tup []))
      have w2 := t3 _ _ (upd_same (a := u2) (o := .tup []))
      have w3 := t4 _ _ (upd_same (a := u3) (o := .tup []))
      have w4 := t5 _ _ (upd_same (a := u4) (o := .tup []))
      have w5 := t6 _ _ (upd_same (a := u5) (o := .tup []))
      have w6 := t7 _ _ (upd_same (a := u6) (o := .tup []))
      have w7 := v8 _ _ (upd_same (a := u7) (o := .tup []))
      have wl := upd_same (H := upd (upd (upd (upd (upd (upd (upd GC u1 (.tup [])) u2 (.tup [])) u3 (.tup [])) u4 (.tup [])) u5 (.tup [])) u6 (.tup [])) u7 (.tup [])) (a := l2) (o := .lst [V.ref u1, V.ref u2, V.ref u3, V.ref u4, V.int 0, V.ref u5, V.ref r, V.ref u6, V.int 0, V.int 0, V.non, V.ref u7])
      have nl2 : l2 ≠ sysModules := fun z => by
        have := (v1.trans (v2.trans (v3.trans (v4.trans (v5.trans (v6.trans v7)))))) _ _ hsysC
        rw [← z, ml] at this; cases this
      generalize upd (upd (upd (upd (upd (upd (upd (upd GC u1 (.tup [])) u2 (.tup [])) u3 (.tup [])) u4 (.tup [])) u5 (.tup [])) u6 (.tup [])) u7 (.tup [])) l2 _ = GD at w1 w2 w3 w4 w5 w6 w7 wl t1 ⊢
      clear v1 v2 v3 v4 v5 v6 v7 v8 t2 t3 t4 t5 t6 t7 m1 m2 m3 m4 m5 m6 m7 ml
      have smN : ∀ {k n : Nat} {d : PyData}, d ∈ [PyData.tuple [], .int 0, .none] → Sm 31 400 d := fun {k n d} h => by
        simp only [List.mem_cons, List.not_mem_nil, or_false] at h
        rcases h with rfl | rfl | rfl <;> constructor <;> decide +kernel
      have rp := rp12 (ds := [.tuple [], .tuple [], .tuple [], .tuple [], .int 0, .tuple [], .tuple (.str nm :: ks.map PyData.int), .tuple [], .int 0, .int 0, .none, .tuple []]) (fun d h => by
        simp only [List.mem_cons, List.not_mem_nil, or_false] at h
        rcases h with rfl | rfl | rfl | rfl | rfl | rfl | rfl | rfl | rfl | rfl | rfl | rfl <;> first | exact hsm | exact smN (k := 0) (n := 0) (by simp)) rfl
      have dq1 : Dq K GD (.ref r2) (.list [.tuple [], .tuple [], .tuple [], .tuple [], .int 0, .tuple [], .tuple (.str nm :: ks.map PyData.int), .tuple [], .int 0, .int 0, .none, .tuple []]) := Dq.same t1 (.lstq (.inl (.inl hC)) nys (.cons (dq_nil q1) (.cons (dq_nil q2) (.cons (dq_nil q3) (.cons (dq_nil q4) (.cons (.intq _) (.cons (dq_nil q6) (.cons (dq_pol hrr) (.cons (dq_nil hpnC) (.cons (.intq _) (.cons (.intq _) (.cons .nonq (.cons (dq_nil hpm) .nil)))))))))))))
      have dq2 : Dq K GD (.ref l2) (.list [.tuple [], .tuple [], .tuple [], .tuple [], .int 0, .tuple [], .tuple (.str nm :: ks.map PyData.int), .tuple [], .int 0, .int 0, .none, .tuple []]) := .lstq (.inl (.inl wl)) nl2 (.cons (dq_nil (.inl (.inl w1))) (.cons (dq_nil (.inl (.inl w2))) (.cons (dq_nil (.inl (.inl w3))) (.cons (dq_nil (.inl (.inl w4))) (.cons (.intq _) (.cons (dq_nil (.inl (.inl w5))) (.cons (dq_pol (Same.tup t1 hrC)) (.cons (dq_nil (.inl (.inl w6))) (.cons (.intq _) (.cons (.intq _) (.cons .nonq (.cons (dq_nil (.inl (.inl w7))) .nil))))))))))))
      generalize PyData.list [.tuple [], .tuple [], .tuple [], .tuple [], .int 0, .tuple [], .tuple (.str nm :: ks.map PyData.int), .tuple [], .int 0, .int 0, .none, .tuple []] = DL at rp dq1 dq2
      refine ⟨_, rfl, .ref r2, DL, rfl, dq1, rp.1, rp.2.1, rp.2.2, _, rfl, .ref l2, DL, rfl, dq2, rp.1, rp.2.1, rp.2.2, ?_⟩
      generalize DL.shown = zz
      refine ⟨rfl, _, rfl, iteB1 (decide_eq_true rfl) ?_⟩
      have aD := aC.same t1
      have xD := xC.trans (.of t1)
      have tbD := Tabs.same tbC t1
      refine ⟨tbD, fun HA xE tE => ?_⟩
      have aE := aD.extN xE
      have xE := xD.trans xE
      intro HB sB E' R hE1 hE2 hR
      have aB := aE.same sB
      have tB := Tabs.same tE sB
      have xB := xE.trans (.of sB)
      refine ⟨_, rfl, f_meth aB (by decide +kernel) ⟨s, _, .nil, [], [], 0, rfl, aB, ?_⟩⟩
      refine hE2 6 TX.c_NothingToUndo "undo" HB (.inr rfl) rfl rfl fun HD tq sD htq => ?_
      refine ⟨sz60 (by simp), fun tp ntp => ?_⟩
      have w9 := same_upd (o := .tup [V.str "undo", V.str ""]) ntp
      have hsh : Sh 4 (.tuple [.str "undo", .str ""]) := .tup fun y hy => by
        simp only [List.mem_cons, List.not_mem_nil, or_false] at hy
        rcases hy with rfl | rfl <;> exact .str (by decide +kernel)
      refine ⟨.tuple [.str "undo", .str ""], .tuple [.str "undo", .str ""], .tup (.inl (.inl (w9 _ _ htq))) (.cons (.str _) (.cons (.str _) .nil)), .tup (.inl (.inl upd_same)) (.cons (.str _) (.cons (.str _) .nil)), hsh.shaped (by decide), hsh.shaped (by decide), ?_⟩
      have he : PyData.eqv (.tuple [.str "undo", .str ""]) (.tuple [.str "undo", .str ""]) = true := by simp [PyData.eqv, PyData.eqvAll]
      rw [he]
      exact q _ ((xB.trans (.of sD)).trans (.of w9)) (Tabs.same (Tabs.same tB sD) w9)
end
/-- what is tried -/
def Kn (K : PySem.W.Frag) (H : Hp) (x : V) : Prop := ∃ d, Dq K H x d ∧ Sm 31 400 d ∧ NmOk d ∧ ∀ ds, d = .tuple ds → ds.length ≤ 100
theorem Kn.extN {K : PySem.W.Frag} {H H' : Hp} {x : V} (h : Kn K H x) (e : LamX.ExtN H H') : Kn K H' x := by
  obtain ⟨d, h1, h2⟩ := h
  exact ⟨d, Dq.extN e h1, h2⟩
theorem kn_tup {K : PySem.W.Frag} {H : Hp} {p : Addr} {nm : Str} {vs : List V} {ds : List PyData} (h : H p = some (.tup (.str nm :: vs))) (hA : DqAll K H vs ds) (hs : Sm 31 400 (.tuple (.str nm :: ds))) (hn : nm ∈ pnames) (hl : ds.length ≤ 9) : Kn K H (.ref p) :=
  ⟨.tuple (.str nm :: ds), .tupq (.inl (.inl h)) (.cons (.strq nm) hA), hs, fun _ _ e => by cases e; exact .inl hn, fun _ e => by cases e; simp; omega⟩
section
variable {P : Program} {w : World} {K : PySem.W.Frag} {mg : Str → Option Value} {base : Heap}
def sp_law (K : PySem.W.Frag) (cs : List (Addr × Addr)) : Sp := fun vs H Q _ => ∃ (a : Addr) (ns : List Int) (o : HO), vs = [.ref a] ∧ SqL K H a (ns.map V.int) ∧ ns.length ≤ 63 ∧ H sysModules = some o ∧ (∀ ps, o ≠ .tbl ps) ∧ (∀ p ∈ cs, H p.2 = some (.tbl #[])) ∧ ∀ H', Q (.bl true) H'
theorem ok_law (TX : Tx K mg) [WP w TX] (TB : LamX.TabB base mg TX.cdl_L_right TX.ptl_L_right) : FnG P w K mg base CX0 13 TX.a_law TX.fd_law ["_law_script"] (sp_law K [(TX.cdl_L_right, TX.ptl_L_right)]) := by
  refine Fun.okG TX.f_law sc_law (fun vs H Q E h => ?_) (fun cdv A hgd outer s H vs Q E hr h => ?_)
  · obtain ⟨a, ns, o, rfl, _⟩ := h; rfl
  · obtain ⟨a, ns, o, rfl, hS, hlen, hsys, hot, htab, q⟩ := h
    refine ⟨_, (pss_cons (ps_set (i := 1) sc_law.nd rfl (.inl rfl) (pe_lst (pa_cons (pe_tup (pa_cons pe_str pa_nil)) (pa_cons (pe_tup (pa_cons pe_str (pa_cons pe_int pa_nil))) (pa_cons (pe_tup (pa_cons pe_str (pa_cons pe_int pa_nil))) (pa_cons (pe_tup (pa_cons pe_str (pa_cons pe_int (pa_cons pe_int pa_nil)))) (pa_cons (pe_tup (pa_cons pe_str (pa_cons pe_int (pa_cons pe_int pa_nil)))) (pa_cons (pe_tup (pa_cons pe_str (pa_cons pe_int pa_nil))) pa_nil))))))))
      (pss_cons (ps_set (i := 1) sc_law.nd rfl (.inl rfl) (pe_op op_cat (pv 1) (pe_lst (pa_cons (pe_tup (pa_cons pe_str (pa_cons pe_int (pa_cons pe_int pa_nil)))) (pa_cons (pe_tup (pa_cons pe_str (pa_cons pe_int pa_nil))) (pa_cons (pe_tup (pa_cons pe_str (pa_cons pe_int pa_nil))) (pa_cons (pe_tup (pa_cons pe_str (pa_cons pe_int (pa_cons pe_int pa_nil)))) (pa_cons (pe_tup (pa_cons pe_str pa_nil)) pa_nil))))))))
      (pss_cons (ps_if (pt_not (pt_val (pe_callB (id := "all") (cr_all rfl) (by rfl) TX.b_all (by decide +kernel) (pa_cons (pe_lc (own := [("_law_thing", 5)]) (by rfl) sc_law.nd (k_piL (K := K) rfl (pv 1)) (blkOk_by (own := [("_law_thing", 5)]) (N := N_law) (sc := defScope s_law) (by decide +kernel)) (fun _ _ _ _ _ => (pg_name (i := 5) sc_law.nd rfl (Or.inl rfl))) (fun _ _ _ _ _ => pts_nil) (fun _ _ _ _ _ => (pe_callG ((fun _ => ok_L_right (w := w) TX TB) TX) hgd (hr.mono (by decide)) (by rfl) TX.g_L_right TX.f_L_right.kp TX.bd_L_right .nil pass0 (pa_cons (pv 5) pa_nil)))) pa_nil))))
        (pss_one (ps_ret pe_bl))
        pss_nil)
      (pss_cons (ps_for PassesOwn.never rfl (pi_range1 (by rfl) TX.b_range (pa_cons (pe_callB (id := "max") (call_max2 rfl) (by rfl) TX.b_max (by decide +kernel) (pa_cons pe_int (pa_cons (pe_callB (id := "min") (call_min2 rfl) (by rfl) TX.b_min (by decide +kernel) (pa_cons pe_int (pa_cons (pe_callB (id := "len") (k_len (K := K) rfl) (by rfl) TX.b_len (by decide +kernel) (pa_cons (pv 0) pa_nil)) pa_nil))) pa_nil))) pa_nil)) (pg_name (i := 2) sc_law.nd rfl (.inl rfl))
        (pss_cons (ps_set (i := 3) sc_law.nd rfl (.inl rfl) (pe_call (ok_L_start_draws TX) (hr.mono (by decide)) (by rfl) TX.g_L_start_draws TX.f_L_start_draws.kp TX.bd_L_start_draws .nil pass0 (pa_cons (pv 0) (pa_cons (pv 2) pa_nil))))
        (pss_one (ps_for PassesOwn.never rfl (pi_range1 (by rfl) TX.b_range (pa_cons pe_int pa_nil)) (pg_name (i := 4) sc_law.nd rfl (.inl rfl))
          (pss_cons (ps_set (i := 5) sc_law.nd rfl (.inl rfl) (pe_ifExp (pt_cmpR op_eq (pe_call (ok_L_next TX) (hr.mono (by decide)) (by rfl) TX.g_L_next TX.f_L_next.kp TX.bd_L_next .nil pass0 (pa_cons (pv 3) (pa_cons pe_int pa_nil))) pe_int (nomark _)) (pe_call (ok_L_odd TX) (hr.mono (by decide)) (by rfl) TX.g_L_odd TX.f_L_odd.kp TX.bd_L_odd .nil pass0 (pa_cons (pv 3) pa_nil)) (pe_call (ok_L_some_rule TX) (hr.mono (by decide)) (by rfl) TX.g_L_some_rule TX.f_L_some_rule.kp TX.bd_L_some_rule .nil pass0 (pa_cons (pv 3) pa_nil))))
          (pss_one (ps_if (pt_not (pt_val (pe_callG ((fun _ => ok_L_right (w := w) TX TB) TX) hgd (hr.mono (by decide)) (by rfl) TX.g_L_right TX.f_L_right.kp TX.bd_L_right .nil pass0 (pa_cons (pv 5) pa_nil))))
            (pss_one (ps_ret pe_bl))
            pss_nil)))))))
      (pss_one (ps_ret pe_bl)))))), ?_⟩
    have tb0 : LamX.Tabs (TTs TX) H := fun p hp => by
      rw [List.mem_singleton.mp hp]; exact LamX.TabS.nil (htab _ (List.mem_cons_self ..))
    refine ⟨sz60 (by simp), fun p1 n1 => ⟨sz60 (by simp), fun p2 n2 => ⟨sz60 (by simp), fun p3 n3 => ⟨sz60 (by simp), fun p4 n4 => ⟨sz60 (by simp), fun p5 n5 => ⟨sz60 (by simp), fun p6 n6 => ⟨sz60 (by simp), fun l1 nl1 => ?_⟩⟩⟩⟩⟩⟩⟩
    refine ⟨_, rfl, sz60 (by simp), fun p7 n7 => ⟨sz60 (by simp), fun p8 n8 => ⟨sz60 (by simp), fun p9 n9 => ⟨sz60 (by simp), fun p10 n10 => ⟨sz60 (by simp), fun p11 n11 => ⟨sz60 (by simp), fun l2 nl2 => ?_⟩⟩⟩⟩⟩⟩
    have w_p1 := same_upd (o := .tup [V.str "manual"]) n1
    have w_p2 := same_upd (o := .tup [V.str "runs", V.int 1]) n2
    have w_p3 := same_upd (o := .tup [V.str "runs", V.int 60]) n3
    have w_p4 := same_upd (o := .tup [V.str "budget", V.int 1, V.int 1]) n4
    have w_p5 := same_upd (o := .tup [V.str "budget", V.int 60, V.int 60]) n5
    have w_p6 := same_upd (o := .tup [V.str "runs", V.int 0]) n6
    have w_l1 := same_upd (o := .lst [V.ref p1, V.ref p2, V.ref p3, V.ref p4, V.ref p5, V.ref p6]) nl1
    have w_p7 := same_upd (o := .tup [V.str "budget", V.int 61, V.int 1]) n7
    have w_p8 := same_upd (o := .tup [V.str "budget", V.int 1]) n8
    have w_p9 := same_upd (o := .tup [V.str "manual", V.int 1]) n9
    have w_p10 := same_upd (o := .tup [V.str "runs", V.int 1, V.int 1]) n10
    have w_p11 := same_upd (o := .tup [V.str "runs"]) n11
    have w_l2 := same_upd (o := .lst [V.ref p7, V.ref p8, V.ref p9, V.ref p10, V.ref p11]) nl2
    have s_p11 := w_p11.trans w_l2
    have s_p10 := w_p10.trans s_p11
    have s_p9 := w_p9.trans s_p10
    have s_p8 := w_p8.trans s_p9
    have s_p7 := w_p7.trans s_p8
    have s_l1 := w_l1.trans s_p7
    have s_p6 := w_p6.trans s_l1
    have s_p5 := w_p5.trans s_p6
    have s_p4 := w_p4.trans s_p5
    have s_p3 := w_p3.trans s_p4
    have s_p2 := w_p2.trans s_p3
    have s_p1 := w_p1.trans s_p2
    have e_p1 := s_p2 _ _ (upd_same (H := H) (a := p1) (o := .tup [V.str "manual"]))
    have e_p2 := s_p3 _ _ (upd_same (H := (upd H p1 (.tup [V.str "manual"]))) (a := p2) (o := .tup [V.str "runs", V.int 1]))
    have e_p3 := s_p4 _ _ (upd_same (H := (upd (upd H p1 (.tup [V.str "manual"])) p2 (.tup [V.str "runs", V.int 1]))) (a := p3) (o := .tup [V.str "runs", V.int 60]))
    have e_p4 := s_p5 _ _ (upd_same (H := (upd (upd (upd H p1 (.tup [V.str "manual"])) p2 (.tup [V.str "runs", V.int 1])) p3 (.tup [V.str "runs", V.int 60]))) (a := p4) (o := .tup [V.str "budget", V.int 1, V.int 1]))
    have e_p5 := s_p6 _ _ (upd_same (H := (upd (upd (upd (upd H p1 (.tup [V.str "manual"])) p2 (.tup [V.str "runs", V.int 1])) p3 (.tup [V.str "runs", V.int 60])) p4 (.tup [V.str "budget", V.int 1, V.int 1]))) (a := p5) (o := .tup [V.str "budget", V.int 60, V.int 60]))
    have e_p6 := s_l1 _ _ (upd_same (H := (upd (upd (upd (upd (upd H p1 (.tup [V.str "manual"])) p2 (.tup [V.str "runs", V.int 1])) p3 (.tup [V.str "runs", V.int 60])) p4 (.tup [V.str "budget", V.int 1, V.int 1])) p5 (.tup [V.str "budget", V.int 60, V.int 60]))) (a := p6) (o := .tup [V.str "runs", V.int 0]))
    have e_l1 := s_p7 _ _ (upd_same (H := (upd (upd (upd (upd (upd (upd H p1 (.tup [V.str "manual"])) p2 (.tup [V.str "runs", V.int 1])) p3 (.tup [V.str "runs", V.int 60])) p4 (.tup [V.str "budget", V.int 1, V.int 1])) p5 (.tup [V.str "budget", V.int 60, V.int 60])) p6 (.tup [V.str "runs", V.int 0]))) (a := l1) (o := .lst [V.ref p1, V.ref p2, V.ref p3, V.ref p4, V.ref p5, V.ref p6]))
    have e_p7 := s_p8 _ _ (upd_same (H := (upd (upd (upd (upd (upd (upd (upd H p1 (.tup [V.str "manual"])) p2 (.tup [V.str "runs", V.int 1])) p3 (.tup [V.str "runs", V.int 60])) p4 (.tup [V.str "budget", V.int 1, V.int 1])) p5 (.tup [V.str "budget", V.int 60, V.int 60])) p6 (.tup [V.str "runs", V.int 0])) l1 (.lst [V.ref p1, V.ref p2, V.ref p3, V.ref p4, V.ref p5, V.ref p6]))) (a := p7) (o := .tup [V.str "budget", V.int 61, V.int 1]))
    have e_p8 := s_p9 _ _ (upd_same (H := (upd (upd (upd (upd (upd (upd (upd (upd H p1 (.tup [V.str "manual"])) p2 (.tup [V.str "runs", V.int 1])) p3 (.tup [V.str "runs", V.int 60])) p4 (.tup [V.str "budget", V.int 1, V.int 1])) p5 (.tup [V.str "budget", V.int 60, V.int 60])) p6 (.tup [V.str "runs", V.int 0])) l1 (.lst [V.ref p1, V.ref p2, V.ref p3, V.ref p4, V.ref p5, V.ref p6])) p7 (.tup [V.str "budget", V.int 61, V.int 1]))) (a := p8) (o := .tup [V.str "budget", V.int 1]))
    have e_p9 := s_p10 _ _ (upd_same (H := (upd (upd (upd (upd (upd (upd (upd (upd (upd H p1 (.tup [V.str "manual"])) p2 (.tup [V.str "runs", V.int 1])) p3 (.tup [V.str "runs", V.int 60])) p4 (.tup [V.str "budget", V.int 1, V.int 1])) p5 (.tup [V.str "budget", V.int 60, V.int 60])) p6 (.tup [V.str "runs", V.int 0])) l1 (.lst [V.ref p1, V.ref p2, V.ref p3, V.ref p4, V.ref p5, V.ref p6])) p7 (.tup [V.str "budget", V.int 61, V.int 1])) p8 (.tup [V.str "budget", V.int 1]))) (a := p9) (o := .tup [V.str "manual", V.int 1]))
    have e_p10 := s_p11 _ _ (upd_same (H := (upd (upd (upd (upd (upd (upd (upd (upd (upd (upd H p1 (.tup [V.str "manual"])) p2 (.tup [V.str "runs", V.int 1])) p3 (.tup [V.str "runs", V.int 60])) p4 (.tup [V.str "budget", V.int 1, V.int 1])) p5 (.tup [V.str "budget", V.int 60, V.int 60])) p6 (.tup [V.str "runs", V.int 0])) l1 (.lst [V.ref p1, V.ref p2, V.ref p3, V.ref p4, V.ref p5, V.ref p6])) p7 (.tup [V.str "budget", V.int 61, V.int 1])) p8 (.tup [V.str "budget", V.int 1])) p9 (.tup [V.str "manual", V.int 1]))) (a := p10) (o := .tup [V.str "runs", V.int 1, V.int 1]))
    have e_p11 := w_l2 _ _ (upd_same (H := (upd (upd (upd (upd (upd (upd (upd (upd (upd (upd (upd H p1 (.tup [V.str "manual"])) p2 (.tup [V.str "runs", V.int 1])) p3 (.tup [V.str "runs", V.int 60])) p4 (.tup [V.str "budget", V.int 1, V.int 1])) p5 (.tup [V.str "budget", V.int 60, V.int 60])) p6 (.tup [V.str "runs", V.int 0])) l1 (.lst [V.ref p1, V.ref p2, V.ref p3, V.ref p4, V.ref p5, V.ref p6])) p7 (.tup [V.str "budget", V.int 61, V.int 1])) p8 (.tup [V.str "budget", V.int 1])) p9 (.tup [V.str "manual", V.int 1])) p10 (.tup [V.str "runs", V.int 1, V.int 1]))) (a := p11) (o := .tup [V.str "runs"]))
    have e_l2 := upd_same (H := (upd (upd (upd (upd (upd (upd (upd (upd (upd (upd (upd (upd H p1 (.tup [V.str "manual"])) p2 (.tup [V.str "runs", V.int 1])) p3 (.tup [V.str "runs", V.int 60])) p4 (.tup [V.str "budget", V.int 1, V.int 1])) p5 (.tup [V.str "budget", V.int 60, V.int 60])) p6 (.tup [V.str "runs", V.int 0])) l1 (.lst [V.ref p1, V.ref p2, V.ref p3, V.ref p4, V.ref p5, V.ref p6])) p7 (.tup [V.str "budget", V.int 61, V.int 1])) p8 (.tup [V.str "budget", V.int 1])) p9 (.tup [V.str "manual", V.int 1])) p10 (.tup [V.str "runs", V.int 1, V.int 1])) p11 (.tup [V.str "runs"]))) (a := l2) (o := .lst [V.ref p7, V.ref p8, V.ref p9, V.ref p10, V.ref p11])
    generalize upd (upd (upd (upd (upd (upd (upd (upd (upd (upd (upd (upd (upd H p1 (.tup [V.str "manual"])) p2 (.tup [V.str "runs", V.int 1])) p3 (.tup [V.str "runs", V.int 60])) p4 (.tup [V.str "budget", V.int 1, V.int 1])) p5 (.tup [V.str "budget", V.int 60, V.int 60])) p6 (.tup [V.str "runs", V.int 0])) l1 (.lst [V.ref p1, V.ref p2, V.ref p3, V.ref p4, V.ref p5, V.ref p6])) p7 (.tup [V.str "budget", V.int 61, V.int 1])) p8 (.tup [V.str "budget", V.int 1])) p9 (.tup [V.str "manual", V.int 1])) p10 (.tup [V.str "runs", V.int 1, V.int 1])) p11 (.tup [V.str "runs"])) l2 (.lst [V.ref p7, V.ref p8, V.ref p9, V.ref p10, V.ref p11]) = H1 at e_p1 e_p2 e_p3 e_p4 e_p5 e_p6 e_l1 e_p7 e_p8 e_p9 e_p10 e_p11 e_l2 s_p1 ⊢
    clear w_p1 w_p2 w_p3 w_p4 w_p5 w_p6 w_l1 w_p7 w_p8 w_p9 w_p10 w_p11 w_l2 s_p2 s_p3 s_p4 s_p5 s_p6 s_l1 s_p7 s_p8 s_p9 s_p10 s_p11 n1 n2 n3 n4 n5 n6 nl1 n7 n8 n9 n10 n11 nl2
    refine ⟨l1, l2, _, _, rfl, rfl, e_l1, e_l2, sz60 (by simp), fun kl nkl => ?_⟩
    have wk := same_upd (o := .lst ([V.ref p1, V.ref p2, V.ref p3, V.ref p4, V.ref p5, V.ref p6] ++ [V.ref p7, V.ref p8, V.ref p9, V.ref p10, V.ref p11])) nkl
    have hkl := upd_same (H := H1) (a := kl) (o := .lst ([V.ref p1, V.ref p2, V.ref p3, V.ref p4, V.ref p5, V.ref p6] ++ [V.ref p7, V.ref p8, V.ref p9, V.ref p10, V.ref p11]))
    have sH := s_p1.trans wk
    have hkn : ∀ x, x ∈ [V.ref p1, V.ref p2, V.ref p3, V.ref p4, V.ref p5, V.ref p6] ++ [V.ref p7, V.ref p8, V.ref p9, V.ref p10, V.ref p11] → Kn K (upd H1 kl (.lst ([V.ref p1, V.ref p2, V.ref p3, V.ref p4, V.ref p5, V.ref p6] ++ [V.ref p7, V.ref p8, V.ref p9, V.ref p10, V.ref p11]))) x := fun x hx => by
      simp only [List.cons_append, List.nil_append, List.mem_cons, List.not_mem_nil, or_false] at hx
      rcases hx with rfl | rfl | rfl | rfl | rfl | rfl | rfl | rfl | rfl | rfl | rfl
      · exact kn_tup (wk _ _ e_p1) .nil (by constructor <;> decide +kernel) (by decide +kernel) (by decide)
      · exact kn_tup (wk _ _ e_p2) (.cons (.intq _) .nil) (by constructor <;> decide +kernel) (by decide +kernel) (by decide)
      · exact kn_tup (wk _ _ e_p3) (.cons (.intq _) .nil) (by constructor <;> decide +kernel) (by decide +kernel) (by decide)
      · exact kn_tup (wk _ _ e_p4) (.cons (.intq _) (.cons (.intq _) .nil)) (by constructor <;> decide +kernel) (by decide +kernel) (by decide)
      · exact kn_tup (wk _ _ e_p5) (.cons (.intq _) (.cons (.intq _) .nil)) (by constructor <;> decide +kernel) (by decide +kernel) (by decide)
      · exact kn_tup (wk _ _ e_p6) (.cons (.intq _) .nil) (by constructor <;> decide +kernel) (by decide +kernel) (by decide)
      · exact kn_tup (wk _ _ e_p7) (.cons (.intq _) (.cons (.intq _) .nil)) (by constructor <;> decide +kernel) (by decide +kernel) (by decide)
      · exact kn_tup (wk _ _ e_p8) (.cons (.intq _) .nil) (by constructor <;> decide +kernel) (by decide +kernel) (by decide)
      · exact kn_tup (wk _ _ e_p9) (.cons (.intq _) .nil) (by constructor <;> decide +kernel) (by decide +kernel) (by decide)
      · exact kn_tup (wk _ _ e_p10) (.cons (.intq _) (.cons (.intq _) .nil)) (by constructor <;> decide +kernel) (by decide +kernel) (by decide)
      · exact kn_tup (wk _ _ e_p11) .nil (by constructor <;> decide +kernel) (by decide +kernel) (by decide)
    generalize upd H1 kl _ = H2 at hkl sH hkn ⊢
    clear wk nkl s_p1 e_p1 e_p2 e_p3 e_p4 e_p5 e_p6 e_l1 e_p7 e_p8 e_p9 e_p10 e_p11 e_l2
    have x2 : LamX.ExtN H H2 := .of sH
    have tb2 := Tabs.same tb0 sH
    clear sH
    refine ⟨_, rfl, kl, rfl, ⟨_, .inl (.inl hkl)⟩, fun D nD => ?_⟩
    refine lc_it (walk_list (K := K) (a := kl) (xs := [V.ref p1, V.ref p2, V.ref p3, V.ref p4, V.ref p5, V.ref p6] ++ [V.ref p7, V.ref p8, V.ref p9, V.ref p10, V.ref p11])) (fun i G => LamX.ExtN H2 G ∧ LamX.Tabs (TTs TX) G ∧ G D = some (.lst (List.replicate i (.bl true)))) ⟨.of (same_upd nD), Tabs.same tb2 (same_upd nD), upd_same⟩ (fun i G _ h => .inl (.inl (h.1 _ _ hkl fun _ z => (nomatch z)))) ?_ ?_
    · rintro i x G G' hi ⟨xG, tG, hD⟩ ⟨rfl, hx⟩
      obtain ⟨d, hq, hsm, hnm, hl⟩ := (hkn x (List.mem_of_getElem? hx)).extN xG
      refine ⟨rfl, ?_⟩
      simp only [tYes, if_true]
      refine ⟨x, rfl, x, d, o, rfl, hq, hsm, hnm, hl, tG, xG _ _ (x2 _ _ hsys hot) hot, hot, fun G2 e2 t2 => ?_⟩
      have hD2 := e2 _ _ hD fun _ z => (nomatch z)
      have hi11 : i < 11 := hi
      refine ⟨_, hD2, sz60 (by rw [List.length_replicate]; omega), ?_, tabs_but t2 (But.upd) hD2, by rw [upd_same, List.replicate_succ']⟩
      exact fun c u h1 h2 => by
        rw [upd_ne (fun z => by rw [z, nD] at h1; cases h1)]
        exact e2 _ _ (xG _ _ h1 h2) h2
    rintro G ⟨xG, tG, hD⟩
    refine ⟨D, List.replicate 11 true, rfl, .inl (.inl ?_), ?_⟩
    · rw [hD]; rfl
    have x3 := x2.trans xG
    clear hD xG nD hkn x2 tb2 hkl
    refine ⟨true, rfl, iteB0 (by rfl) ?_⟩
    refine ⟨_, rfl, a, _, rfl, .inl (extN_seq x3 hS), _, _, rfl, _, _, rfl, ?_⟩
    obtain ⟨m, hm, hm2⟩ : ∃ m : Nat, (if (if ((ns.map V.int).length : Int) < 3 then ((ns.map V.int).length : Int) else 3) > 1 then (if ((ns.map V.int).length : Int) < 3 then ((ns.map V.int).length : Int) else 3) else 1) = (m : Int) ∧ m ≤ 3 := by
      refine ⟨(if (if ((ns.map V.int).length : Int) < 3 then ((ns.map V.int).length : Int) else 3) > 1 then (if ((ns.map V.int).length : Int) < 3 then ((ns.map V.int).length : Int) else 3) else 1).toNat, ?_, ?_⟩ <;> (split <;> split <;> omega)
    rw [hm]
    refine ⟨_, rfl, by omega, by omega, for_range (lo := 0) (n := m) (fun i σ G => ∃ y1 y2 y3 y4 y5, σ = [some (.ref a), y1, y2, y3, y4, y5] ∧ LamX.ExtN H G ∧ LamX.Tabs (TTs TX) G) ⟨_, _, _, _, _, rfl, x3, tG⟩ ?_ ?_⟩
    · rintro i σ H1 hi ⟨y1, y2, y3, y4, y5, rfl, x1, tb1⟩
      have ei : (0 : Int) + ((i : Nat) : Int) = ((i : Nat) : Int) := by omega
      rw [ei]
      refine ⟨_, rfl, _, rfl, a, ns, i, rfl, extN_seq x1 hS, by omega, fun H2 pd s2 np dp => ?_⟩
      have np0 : ∀ u, H pd = some u → ∃ ps, u = .tbl ps := fun u h => Classical.byContradiction fun h3 => by
        have := x1 _ _ h fun ps e => h3 ⟨ps, e⟩
        rw [np] at this; cases this
      have nps : pd ≠ sysModules := fun z => by
        have := x1 _ _ hsys hot
        rw [← z, np] at this; cases this
      have xb : ∀ {G G' : Hp}, LamX.ExtN H G → But pd G G' → LamX.ExtN H G' := fun e b c u h1 h2 => b _ _ (fun z => by
        rw [z] at h1
        obtain ⟨ps, hps⟩ := np0 u h1
        exact h2 ps hps) (e _ _ h1 h2)
      have tdraw : ∀ {G G' : Hp} {k : Int}, LamX.Tabs (TTs TX) G → Deal G pd k → But pd G G' → LamX.Tabs (TTs TX) G' := fun t d b => by
        obtain ⟨_, _, _, h, _⟩ := d
        exact tabs_but t b h
      refine ⟨_, rfl, by omega, by omega, for_range (lo := 0) (n := 12) (fun j σ G => ∃ y4 y5, σ = [some (.ref a), y1, some (.int (i : Int)), some (.ref pd), y4, y5] ∧ LamX.ExtN H G ∧ LamX.Tabs (TTs TX) G ∧ Deal G pd (100 * (j : Int))) ⟨_, _, rfl, x1.trans (.of s2), Tabs.same tb1 s2, by simpa using dp⟩ ?_ ?_⟩
      · rintro j σ G hj ⟨z4, z5, rfl, xG, tG, dG⟩
        refine ⟨_, rfl, pd, 4, _, rfl, dG, by omega, by decide, by decide, fun G1 r b1 d1 r0 r1 => ⟨rfl, _, rfl, ?_⟩⟩
        have xG1 := xb xG b1
        have tG1 := tdraw tG dG b1
        have hs1 := xG1 _ _ hsys hot
        by_cases h0 : r = 0
        · subst h0
          refine decT rfl ⟨_, rfl, pd, _, o, rfl, d1, by omega, hs1, nps, fun G2 x d b2 d2 hq hsm hp => ?_⟩
          have xG2 := xb xG1 b2
          have tG2 := tdraw tG1 d1 b2
          obtain ⟨k1, k2⟩ := nm_plB hp
          refine ⟨_, rfl, x, d, o, rfl, Dq.same nw_sub hq, hsm.mono (by decide) (by decide), k1, k2, tG2, xG2 _ _ hsys hot, hot, fun G3 e3 t3 => ⟨_, rfl, iteB0 (by rfl) ?_⟩⟩
          exact ⟨_, _, rfl, xG2.trans e3, t3, (d2.extN e3).mono (by omega)⟩
        · refine decF (fun z => h0 (V.int.inj z)) ⟨_, rfl, pd, _, o, rfl, d1, by omega, hs1, nps, fun G2 x b2 d2 hx => ?_⟩
          have xG2 := xb xG1 b2
          have tG2 := tdraw tG1 d1 b2
          obtain ⟨d, hq, hsm, k1, k2⟩ := hx
          refine ⟨_, rfl, x, d, o, rfl, Dq.same off_sub hq, hsm, k1, k2, tG2, xG2 _ _ hsys hot, hot, fun G3 e3 t3 => ⟨_, rfl, iteB0 (by rfl) ?_⟩⟩
          exact ⟨_, _, rfl, xG2.trans e3, t3, (d2.extN e3).mono (by omega)⟩
      · rintro σ G ⟨z4, z5, rfl, xG, tG, dG⟩
        exact ⟨_, _, _, _, _, rfl, xG, tG⟩
    · rintro σ G _
      exact q _
end
theorem all_mk {l : PySem.W.OpenLaw} {w : World} {K : PySem.W.Frag} {h : Heap} {mg : Str → Option Value} {fa : Addr} (X : K.In h) (G : h.Ns mainGlobals mg) (hfa : mg "law" = some (.ref fa))
    {C_Store : Addr} (ac_Store : PySem.W.nsIn K mainGlobals "Store" = some (some (.ref C_Store))) (pg_Store : PySem.W.plainGet K C_Store Str.empty = true) (hd_Store : PySem.W.hasDictIn K C_Store = true) (po_Store : PySem.W.plainOver K C_Store = true) (sa_Store : PySem.W.findIn K (.ref C_Store) "__setattr__" = some (some (.builtin "object.__setattr__"))) (mm_Store : PySem.W.makesIn K C_Store = true) (kc_Store : PySem.W.keepIn K (.ref C_Store) = true)
    (na_Store_rule : PySem.W.findIn K (.ref C_Store) "rule" = some none)
    (na_Store_merges : PySem.W.findIn K (.ref C_Store) "merges" = some none)
    (na_Store_batches : PySem.W.findIn K (.ref C_Store) "batches" = some none)
    (na_Store_buffer : PySem.W.findIn K (.ref C_Store) "buffer" = some none)
    (na_Store_history : PySem.W.findIn K (.ref C_Store) "history" = some none)
    (na_Store_searched : PySem.W.findIn K (.ref C_Store) "searched" = some none)
    {d_POLICIES : Addr} {es_POLICIES : Array DictEntry} {en_POLICIES : Nat} (ad_POLICIES : PySem.W.nsIn K mainGlobals "POLICIES" = some (some (.ref d_POLICIES))) (kl_POLICIES : K.lookup d_POLICIES = some ⟨.type "dict", none, .dict es_POLICIES en_POLICIES, #[]⟩) (ks_POLICIES : PySem.W.KeysLit w.params es_POLICIES.toList) (kn_POLICIES : (d_POLICIES == sysModules) = false)
    (ko_POLICIES_0 : PySem.W.nsIn K d_POLICIES "" = some none)
    (ko_POLICIES_1 : PySem.W.nsIn K d_POLICIES "a" = some none)
    (ko_POLICIES_2 : PySem.W.nsIn K d_POLICIES "1" = some none)
    (ko_POLICIES_3 : PySem.W.nsIn K d_POLICIES "run" = some none)
    {t_POLICIES_manual : Tok} (ke_POLICIES_manual : PySem.W.nsIn K d_POLICIES "manual" = some (some (.int 0 t_POLICIES_manual)))
    {t_POLICIES_runs : Tok} (ke_POLICIES_runs : PySem.W.nsIn K d_POLICIES "runs" = some (some (.int 1 t_POLICIES_runs)))
    {t_POLICIES_budget : Tok} (ke_POLICIES_budget : PySem.W.nsIn K d_POLICIES "budget" = some (some (.int 2 t_POLICIES_budget)))
    {f_is_int : Addr} {od_is_int an_is_int : Option Addr} {sl_is_int : Array (Option Value)} {oc_is_int kV_is_int dc_is_int pm_is_int cd_is_int ct_is_int : Value}
    (a_is_int : PySem.W.nsIn K mainGlobals "is_int" = some (some (.ref f_is_int))) (l_is_int : K.lookup f_is_int = some ⟨oc_is_int, od_is_int, .func (PySem.W.fnOf "is_int" "is_int" (defArgs s_is_int) (defBody s_is_int) (defScope s_is_int) .none kV_is_int dc_is_int pm_is_int an_is_int cd_is_int ct_is_int), sl_is_int⟩) (c_is_int : PySem.W.codeIn K cd_is_int "is_int" = true) (k_is_int : PySem.W.keepIn K (.ref f_is_int) = true)
    {f_is_count : Addr} {od_is_count an_is_count : Option Addr} {sl_is_count : Array (Option Value)} {oc_is_count kV_is_count dc_is_count pm_is_count cd_is_count ct_is_count : Value}
    (a_is_count : PySem.W.nsIn K mainGlobals "is_count" = some (some (.ref f_is_count))) (l_is_count : K.lookup f_is_count = some ⟨oc_is_count, od_is_count, .func (PySem.W.fnOf "is_count" "is_count" (defArgs s_is_count) (defBody s_is_count) (defScope s_is_count) .none kV_is_count dc_is_count pm_is_count an_is_count cd_is_count ct_is_count), sl_is_count⟩) (c_is_count : PySem.W.codeIn K cd_is_count "is_count" = true) (k_is_count : PySem.W.keepIn K (.ref f_is_count) = true)
    {f_is_count_up_to : Addr} {od_is_count_up_to an_is_count_up_to : Option Addr} {sl_is_count_up_to : Array (Option Value)} {oc_is_count_up_to kV_is_count_up_to dc_is_count_up_to pm_is_count_up_to cd_is_count_up_to ct_is_count_up_to : Value}
    (a_is_count_up_to : PySem.W.nsIn K mainGlobals "is_count_up_to" = some (some (.ref f_is_count_up_to))) (l_is_count_up_to : K.lookup f_is_count_up_to = some ⟨oc_is_count_up_to, od_is_count_up_to, .func (PySem.W.fnOf "is_count_up_to" "is_count_up_to" (defArgs s_is_count_up_to) (defBody s_is_count_up_to) (defScope s_is_count_up_to) .none kV_is_count_up_to dc_is_count_up_to pm_is_count_up_to an_is_count_up_to cd_is_count_up_to ct_is_count_up_to), sl_is_count_up_to⟩) (c_is_count_up_to : PySem.W.codeIn K cd_is_count_up_to "is_count_up_to" = true) (k_is_count_up_to : PySem.W.keepIn K (.ref f_is_count_up_to) = true)
    {f_are_loads : Addr} {od_are_loads an_are_loads : Option Addr} {sl_are_loads : Array (Option Value)} {oc_are_loads kV_are_loads dc_are_loads pm_are_loads cd_are_loads ct_are_loads : Value}
    (a_are_loads : PySem.W.nsIn K mainGlobals "are_loads" = some (some (.ref f_are_loads))) (l_are_loads : K.lookup f_are_loads = some ⟨oc_are_loads, od_are_loads, .func (PySem.W.fnOf "are_loads" "are_loads" (defArgs s_are_loads) (defBody s_are_loads) (defScope s_are_loads) .none kV_are_loads dc_are_loads pm_are_loads an_are_loads cd_are_loads ct_are_loads), sl_are_loads⟩) (c_are_loads : PySem.W.codeIn K cd_are_loads "are_loads" = true) (k_are_loads : PySem.W.keepIn K (.ref f_are_loads) = true)
    {f_check_sizes : Addr} {od_check_sizes an_check_sizes : Option Addr} {sl_check_sizes : Array (Option Value)} {oc_check_sizes kV_check_sizes dc_check_sizes pm_check_sizes cd_check_sizes ct_check_sizes : Value}
    (a_check_sizes : PySem.W.nsIn K mainGlobals "check_sizes" = some (some (.ref f_check_sizes))) (l_check_sizes : K.lookup f_check_sizes = some ⟨oc_check_sizes, od_check_sizes, .func (PySem.W.fnOf "check_sizes" "check_sizes" (defArgs s_check_sizes) (defBody s_check_sizes) (defScope s_check_sizes) .none kV_check_sizes dc_check_sizes pm_check_sizes an_check_sizes cd_check_sizes ct_check_sizes), sl_check_sizes⟩) (c_check_sizes : PySem.W.codeIn K cd_check_sizes "check_sizes" = true) (k_check_sizes : PySem.W.keepIn K (.ref f_check_sizes) = true)
    {f_is_schedule : Addr} {od_is_schedule an_is_schedule : Option Addr} {sl_is_schedule : Array (Option Value)} {oc_is_schedule kV_is_schedule dc_is_schedule pm_is_schedule cd_is_schedule ct_is_schedule : Value}
    (a_is_schedule : PySem.W.nsIn K mainGlobals "is_schedule" = some (some (.ref f_is_schedule))) (l_is_schedule : K.lookup f_is_schedule = some ⟨oc_is_schedule, od_is_schedule, .func (PySem.W.fnOf "is_schedule" "is_schedule" (defArgs s_is_schedule) (defBody s_is_schedule) (defScope s_is_schedule) .none kV_is_schedule dc_is_schedule pm_is_schedule an_is_schedule cd_is_schedule ct_is_schedule), sl_is_schedule⟩) (c_is_schedule : PySem.W.codeIn K cd_is_schedule "is_schedule" = true) (k_is_schedule : PySem.W.keepIn K (.ref f_is_schedule) = true)
    {f_stacks : Addr} {od_stacks an_stacks : Option Addr} {sl_stacks : Array (Option Value)} {oc_stacks kV_stacks dc_stacks pm_stacks cd_stacks ct_stacks : Value}
    (a_stacks : PySem.W.nsIn K mainGlobals "stacks" = some (some (.ref f_stacks))) (l_stacks : K.lookup f_stacks = some ⟨oc_stacks, od_stacks, .func (PySem.W.fnOf "stacks" "stacks" (defArgs s_stacks) (defBody s_stacks) (defScope s_stacks) .none kV_stacks dc_stacks pm_stacks an_stacks cd_stacks ct_stacks), sl_stacks⟩) (c_stacks : PySem.W.codeIn K cd_stacks "stacks" = true) (k_stacks : PySem.W.keepIn K (.ref f_stacks) = true)
    {f_stack_after : Addr} {od_stack_after an_stack_after : Option Addr} {sl_stack_after : Array (Option Value)} {oc_stack_after kV_stack_after dc_stack_after pm_stack_after cd_stack_after ct_stack_after : Value}
    (a_stack_after : PySem.W.nsIn K mainGlobals "stack_after" = some (some (.ref f_stack_after))) (l_stack_after : K.lookup f_stack_after = some ⟨oc_stack_after, od_stack_after, .func (PySem.W.fnOf "stack_after" "stack_after" (defArgs s_stack_after) (defBody s_stack_after) (defScope s_stack_after) .none kV_stack_after dc_stack_after pm_stack_after an_stack_after cd_stack_after ct_stack_after), sl_stack_after⟩) (c_stack_after : PySem.W.codeIn K cd_stack_after "stack_after" = true) (k_stack_after : PySem.W.keepIn K (.ref f_stack_after) = true)
    {f_writes : Addr} {od_writes an_writes : Option Addr} {sl_writes : Array (Option Value)} {oc_writes kV_writes dc_writes pm_writes cd_writes ct_writes : Value}
    (a_writes : PySem.W.nsIn K mainGlobals "writes" = some (some (.ref f_writes))) (l_writes : K.lookup f_writes = some ⟨oc_writes, od_writes, .func (PySem.W.fnOf "writes" "writes" (defArgs s_writes) (defBody s_writes) (defScope s_writes) .none kV_writes dc_writes pm_writes an_writes cd_writes ct_writes), sl_writes⟩) (c_writes : PySem.W.codeIn K cd_writes "writes" = true) (k_writes : PySem.W.keepIn K (.ref f_writes) = true)
    {f_state_of : Addr} {od_state_of an_state_of : Option Addr} {sl_state_of : Array (Option Value)} {oc_state_of kV_state_of dc_state_of pm_state_of cd_state_of ct_state_of : Value}
    (a_state_of : PySem.W.nsIn K mainGlobals "state_of" = some (some (.ref f_state_of))) (l_state_of : K.lookup f_state_of = some ⟨oc_state_of, od_state_of, .func (PySem.W.fnOf "state_of" "state_of" (defArgs s_state_of) (defBody s_state_of) (defScope s_state_of) .none kV_state_of dc_state_of pm_state_of an_state_of cd_state_of ct_state_of), sl_state_of⟩) (c_state_of : PySem.W.codeIn K cd_state_of "state_of" = true) (k_state_of : PySem.W.keepIn K (.ref f_state_of) = true)
    {f_state_after : Addr} {od_state_after an_state_after : Option Addr} {sl_state_after : Array (Option Value)} {oc_state_after kV_state_after dc_state_after pm_state_after cd_state_after ct_state_after : Value}
    (a_state_after : PySem.W.nsIn K mainGlobals "state_after" = some (some (.ref f_state_after))) (l_state_after : K.lookup f_state_after = some ⟨oc_state_after, od_state_after, .func (PySem.W.fnOf "state_after" "state_after" (defArgs s_state_after) (defBody s_state_after) (defScope s_state_after) .none kV_state_after dc_state_after pm_state_after an_state_after cd_state_after ct_state_after), sl_state_after⟩) (c_state_after : PySem.W.codeIn K cd_state_after "state_after" = true) (k_state_after : PySem.W.keepIn K (.ref f_state_after) = true)
    {f_write_work : Addr} {od_write_work an_write_work : Option Addr} {sl_write_work : Array (Option Value)} {oc_write_work kV_write_work dc_write_work pm_write_work cd_write_work ct_write_work : Value}
    (a_write_work : PySem.W.nsIn K mainGlobals "write_work" = some (some (.ref f_write_work))) (l_write_work : K.lookup f_write_work = some ⟨oc_write_work, od_write_work, .func (PySem.W.fnOf "write_work" "write_work" (defArgs s_write_work) (defBody s_write_work) (defScope s_write_work) .none kV_write_work dc_write_work pm_write_work an_write_work cd_write_work ct_write_work), sl_write_work⟩) (c_write_work : PySem.W.codeIn K cd_write_work "write_work" = true) (k_write_work : PySem.W.keepIn K (.ref f_write_work) = true)
    {f_weighted : Addr} {od_weighted an_weighted : Option Addr} {sl_weighted : Array (Option Value)} {oc_weighted kV_weighted dc_weighted pm_weighted cd_weighted ct_weighted : Value}
    (a_weighted : PySem.W.nsIn K mainGlobals "weighted" = some (some (.ref f_weighted))) (l_weighted : K.lookup f_weighted = some ⟨oc_weighted, od_weighted, .func (PySem.W.fnOf "weighted" "weighted" (defArgs s_weighted) (defBody s_weighted) (defScope s_weighted) .none kV_weighted dc_weighted pm_weighted an_weighted cd_weighted ct_weighted), sl_weighted⟩) (c_weighted : PySem.W.codeIn K cd_weighted "weighted" = true) (k_weighted : PySem.W.keepIn K (.ref f_weighted) = true)
    {f_is_key : Addr} {od_is_key an_is_key : Option Addr} {sl_is_key : Array (Option Value)} {oc_is_key kV_is_key dc_is_key pm_is_key cd_is_key ct_is_key : Value}
    (a_is_key : PySem.W.nsIn K mainGlobals "is_key" = some (some (.ref f_is_key))) (l_is_key : K.lookup f_is_key = some ⟨oc_is_key, od_is_key, .func (PySem.W.fnOf "is_key" "is_key" (defArgs s_is_key) (defBody s_is_key) (defScope s_is_key) .none kV_is_key dc_is_key pm_is_key an_is_key cd_is_key ct_is_key), sl_is_key⟩) (c_is_key : PySem.W.codeIn K cd_is_key "is_key" = true) (k_is_key : PySem.W.keepIn K (.ref f_is_key) = true)
    {f_check_key : Addr} {od_check_key an_check_key : Option Addr} {sl_check_key : Array (Option Value)} {oc_check_key kV_check_key dc_check_key pm_check_key cd_check_key ct_check_key : Value}
    (a_check_key : PySem.W.nsIn K mainGlobals "check_key" = some (some (.ref f_check_key))) (l_check_key : K.lookup f_check_key = some ⟨oc_check_key, od_check_key, .func (PySem.W.fnOf "check_key" "check_key" (defArgs s_check_key) (defBody s_check_key) (defScope s_check_key) .none kV_check_key dc_check_key pm_check_key an_check_key cd_check_key ct_check_key), sl_check_key⟩) (c_check_key : PySem.W.codeIn K cd_check_key "check_key" = true) (k_check_key : PySem.W.keepIn K (.ref f_check_key) = true)
    {f_is_policy : Addr} {od_is_policy an_is_policy : Option Addr} {sl_is_policy : Array (Option Value)} {oc_is_policy kV_is_policy dc_is_policy pm_is_policy cd_is_policy ct_is_policy : Value}
    (a_is_policy : PySem.W.nsIn K mainGlobals "is_policy" = some (some (.ref f_is_policy))) (l_is_policy : K.lookup f_is_policy = some ⟨oc_is_policy, od_is_policy, .func (PySem.W.fnOf "is_policy" "is_policy" (defArgs s_is_policy) (defBody s_is_policy) (defScope s_is_policy) .none kV_is_policy dc_is_policy pm_is_policy an_is_policy cd_is_policy ct_is_policy), sl_is_policy⟩) (c_is_policy : PySem.W.codeIn K cd_is_policy "is_policy" = true) (k_is_policy : PySem.W.keepIn K (.ref f_is_policy) = true)
    {f_ascending_pairs : Addr} {od_ascending_pairs an_ascending_pairs : Option Addr} {sl_ascending_pairs : Array (Option Value)} {oc_ascending_pairs kV_ascending_pairs dc_ascending_pairs pm_ascending_pairs cd_ascending_pairs ct_ascending_pairs : Value}
    (a_ascending_pairs : PySem.W.nsIn K mainGlobals "ascending_pairs" = some (some (.ref f_ascending_pairs))) (l_ascending_pairs : K.lookup f_ascending_pairs = some ⟨oc_ascending_pairs, od_ascending_pairs, .func (PySem.W.fnOf "ascending_pairs" "ascending_pairs" (defArgs s_ascending_pairs) (defBody s_ascending_pairs) (defScope s_ascending_pairs) .none kV_ascending_pairs dc_ascending_pairs pm_ascending_pairs an_ascending_pairs cd_ascending_pairs ct_ascending_pairs), sl_ascending_pairs⟩) (c_ascending_pairs : PySem.W.codeIn K cd_ascending_pairs "ascending_pairs" = true) (k_ascending_pairs : PySem.W.keepIn K (.ref f_ascending_pairs) = true)
    {f_Store___init__ : Addr} {od_Store___init__ an_Store___init__ : Option Addr} {sl_Store___init__ : Array (Option Value)} {oc_Store___init__ kV_Store___init__ dc_Store___init__ pm_Store___init__ cd_Store___init__ ct_Store___init__ : Value}
    (a_Store___init__ : PySem.W.findIn K (.ref C_Store) "__init__" = some (some (.ref f_Store___init__))) (if_Store___init__ : PySem.W.isFn K (.ref f_Store___init__) = true) (l_Store___init__ : K.lookup f_Store___init__ = some ⟨oc_Store___init__, od_Store___init__, .func (PySem.W.fnOf "__init__" "Store.__init__" (defArgs s_Store___init__) (defBody s_Store___init__) (defScope s_Store___init__) .none kV_Store___init__ dc_Store___init__ pm_Store___init__ an_Store___init__ cd_Store___init__ ct_Store___init__), sl_Store___init__⟩) (c_Store___init__ : PySem.W.codeIn K cd_Store___init__ "Store.__init__" = true) (k_Store___init__ : PySem.W.keepIn K (.ref f_Store___init__) = true)
    {f_Store_read : Addr} {od_Store_read an_Store_read : Option Addr} {sl_Store_read : Array (Option Value)} {oc_Store_read dc_Store_read pm_Store_read cd_Store_read ct_Store_read : Value}
    {D_Store_read : Addr}
    (kq_Store_read_moment : PySem.W.nsIn K D_Store_read "moment" = some (some .none))
    (a_Store_read : PySem.W.findIn K (.ref C_Store) "read" = some (some (.ref f_Store_read))) (if_Store_read : PySem.W.isFn K (.ref f_Store_read) = true) (l_Store_read : K.lookup f_Store_read = some ⟨oc_Store_read, od_Store_read, .func (PySem.W.fnOf "read" "Store.read" (defArgs s_Store_read) (defBody s_Store_read) (defScope s_Store_read) .none (.ref D_Store_read) dc_Store_read pm_Store_read an_Store_read cd_Store_read ct_Store_read), sl_Store_read⟩) (c_Store_read : PySem.W.codeIn K cd_Store_read "Store.read" = true) (k_Store_read : PySem.W.keepIn K (.ref f_Store_read) = true)
    {f_Store_flushes_until : Addr} {od_Store_flushes_until an_Store_flushes_until : Option Addr} {sl_Store_flushes_until : Array (Option Value)} {oc_Store_flushes_until kV_Store_flushes_until dc_Store_flushes_until pm_Store_flushes_until cd_Store_flushes_until ct_Store_flushes_until : Value}
    (a_Store_flushes_until : PySem.W.findIn K (.ref C_Store) "flushes_until" = some (some (.ref f_Store_flushes_until))) (if_Store_flushes_until : PySem.W.isFn K (.ref f_Store_flushes_until) = true) (l_Store_flushes_until : K.lookup f_Store_flushes_until = some ⟨oc_Store_flushes_until, od_Store_flushes_until, .func (PySem.W.fnOf "flushes_until" "Store.flushes_until" (defArgs s_Store_flushes_until) (defBody s_Store_flushes_until) (defScope s_Store_flushes_until) .none kV_Store_flushes_until dc_Store_flushes_until pm_Store_flushes_until an_Store_flushes_until cd_Store_flushes_until ct_Store_flushes_until), sl_Store_flushes_until⟩) (c_Store_flushes_until : PySem.W.codeIn K cd_Store_flushes_until "Store.flushes_until" = true) (k_Store_flushes_until : PySem.W.keepIn K (.ref f_Store_flushes_until) = true)
    {f_Store_check_moment : Addr} {od_Store_check_moment an_Store_check_moment : Option Addr} {sl_Store_check_moment : Array (Option Value)} {oc_Store_check_moment kV_Store_check_moment dc_Store_check_moment pm_Store_check_moment cd_Store_check_moment ct_Store_check_moment : Value}
    (a_Store_check_moment : PySem.W.findIn K (.ref C_Store) "check_moment" = some (some (.ref f_Store_check_moment))) (if_Store_check_moment : PySem.W.isFn K (.ref f_Store_check_moment) = true) (l_Store_check_moment : K.lookup f_Store_check_moment = some ⟨oc_Store_check_moment, od_Store_check_moment, .func (PySem.W.fnOf "check_moment" "Store.check_moment" (defArgs s_Store_check_moment) (defBody s_Store_check_moment) (defScope s_Store_check_moment) .none kV_Store_check_moment dc_Store_check_moment pm_Store_check_moment an_Store_check_moment cd_Store_check_moment ct_Store_check_moment), sl_Store_check_moment⟩) (c_Store_check_moment : PySem.W.codeIn K cd_Store_check_moment "Store.check_moment" = true) (k_Store_check_moment : PySem.W.keepIn K (.ref f_Store_check_moment) = true)
    {f_Store_visited : Addr} {od_Store_visited an_Store_visited : Option Addr} {sl_Store_visited : Array (Option Value)} {oc_Store_visited kV_Store_visited dc_Store_visited pm_Store_visited cd_Store_visited ct_Store_visited : Value}
    (a_Store_visited : PySem.W.findIn K (.ref C_Store) "visited" = some (some (.ref f_Store_visited))) (if_Store_visited : PySem.W.isFn K (.ref f_Store_visited) = true) (l_Store_visited : K.lookup f_Store_visited = some ⟨oc_Store_visited, od_Store_visited, .func (PySem.W.fnOf "visited" "Store.visited" (defArgs s_Store_visited) (defBody s_Store_visited) (defScope s_Store_visited) .none kV_Store_visited dc_Store_visited pm_Store_visited an_Store_visited cd_Store_visited ct_Store_visited), sl_Store_visited⟩) (c_Store_visited : PySem.W.codeIn K cd_Store_visited "Store.visited" = true) (k_Store_visited : PySem.W.keepIn K (.ref f_Store_visited) = true)
    {f_Store_present : Addr} {od_Store_present an_Store_present : Option Addr} {sl_Store_present : Array (Option Value)} {oc_Store_present dc_Store_present pm_Store_present cd_Store_present ct_Store_present : Value}
    {D_Store_present : Addr}
    (kq_Store_present_moment : PySem.W.nsIn K D_Store_present "moment" = some (some .none))
    (a_Store_present : PySem.W.findIn K (.ref C_Store) "present" = some (some (.ref f_Store_present))) (if_Store_present : PySem.W.isFn K (.ref f_Store_present) = true) (l_Store_present : K.lookup f_Store_present = some ⟨oc_Store_present, od_Store_present, .func (PySem.W.fnOf "present" "Store.present" (defArgs s_Store_present) (defBody s_Store_present) (defScope s_Store_present) .none (.ref D_Store_present) dc_Store_present pm_Store_present an_Store_present cd_Store_present ct_Store_present), sl_Store_present⟩) (c_Store_present : PySem.W.codeIn K cd_Store_present "Store.present" = true) (k_Store_present : PySem.W.keepIn K (.ref f_Store_present) = true)
    {f_Store_stack : Addr} {od_Store_stack an_Store_stack : Option Addr} {sl_Store_stack : Array (Option Value)} {oc_Store_stack kV_Store_stack dc_Store_stack pm_Store_stack cd_Store_stack ct_Store_stack : Value}
    (a_Store_stack : PySem.W.findIn K (.ref C_Store) "stack" = some (some (.ref f_Store_stack))) (if_Store_stack : PySem.W.isFn K (.ref f_Store_stack) = true) (l_Store_stack : K.lookup f_Store_stack = some ⟨oc_Store_stack, od_Store_stack, .func (PySem.W.fnOf "stack" "Store.stack" (defArgs s_Store_stack) (defBody s_Store_stack) (defScope s_Store_stack) .none kV_Store_stack dc_Store_stack pm_Store_stack an_Store_stack cd_Store_stack ct_Store_stack), sl_Store_stack⟩) (c_Store_stack : PySem.W.codeIn K cd_Store_stack "Store.stack" = true) (k_Store_stack : PySem.W.keepIn K (.ref f_Store_stack) = true)
    {f_Store_state : Addr} {od_Store_state an_Store_state : Option Addr} {sl_Store_state : Array (Option Value)} {oc_Store_state kV_Store_state dc_Store_state pm_Store_state cd_Store_state ct_Store_state : Value}
    (a_Store_state : PySem.W.findIn K (.ref C_Store) "state" = some (some (.ref f_Store_state))) (if_Store_state : PySem.W.isFn K (.ref f_Store_state) = true) (l_Store_state : K.lookup f_Store_state = some ⟨oc_Store_state, od_Store_state, .func (PySem.W.fnOf "state" "Store.state" (defArgs s_Store_state) (defBody s_Store_state) (defScope s_Store_state) .none kV_Store_state dc_Store_state pm_Store_state an_Store_state cd_Store_state ct_Store_state), sl_Store_state⟩) (c_Store_state : PySem.W.codeIn K cd_Store_state "Store.state" = true) (k_Store_state : PySem.W.keepIn K (.ref f_Store_state) = true)
    {f_Store_schedule : Addr} {od_Store_schedule an_Store_schedule : Option Addr} {sl_Store_schedule : Array (Option Value)} {oc_Store_schedule kV_Store_schedule dc_Store_schedule pm_Store_schedule cd_Store_schedule ct_Store_schedule : Value}
    (a_Store_schedule : PySem.W.findIn K (.ref C_Store) "schedule" = some (some (.ref f_Store_schedule))) (if_Store_schedule : PySem.W.isFn K (.ref f_Store_schedule) = true) (l_Store_schedule : K.lookup f_Store_schedule = some ⟨oc_Store_schedule, od_Store_schedule, .func (PySem.W.fnOf "schedule" "Store.schedule" (defArgs s_Store_schedule) (defBody s_Store_schedule) (defScope s_Store_schedule) .none kV_Store_schedule dc_Store_schedule pm_Store_schedule an_Store_schedule cd_Store_schedule ct_Store_schedule), sl_Store_schedule⟩) (c_Store_schedule : PySem.W.codeIn K cd_Store_schedule "Store.schedule" = true) (k_Store_schedule : PySem.W.keepIn K (.ref f_Store_schedule) = true)
    {f_Store_sizes : Addr} {od_Store_sizes an_Store_sizes : Option Addr} {sl_Store_sizes : Array (Option Value)} {oc_Store_sizes kV_Store_sizes dc_Store_sizes pm_Store_sizes cd_Store_sizes ct_Store_sizes : Value}
    (a_Store_sizes : PySem.W.findIn K (.ref C_Store) "sizes" = some (some (.ref f_Store_sizes))) (if_Store_sizes : PySem.W.isFn K (.ref f_Store_sizes) = true) (l_Store_sizes : K.lookup f_Store_sizes = some ⟨oc_Store_sizes, od_Store_sizes, .func (PySem.W.fnOf "sizes" "Store.sizes" (defArgs s_Store_sizes) (defBody s_Store_sizes) (defScope s_Store_sizes) .none kV_Store_sizes dc_Store_sizes pm_Store_sizes an_Store_sizes cd_Store_sizes ct_Store_sizes), sl_Store_sizes⟩) (c_Store_sizes : PySem.W.codeIn K cd_Store_sizes "Store.sizes" = true) (k_Store_sizes : PySem.W.keepIn K (.ref f_Store_sizes) = true)
    {f_Store_written : Addr} {od_Store_written an_Store_written : Option Addr} {sl_Store_written : Array (Option Value)} {oc_Store_written kV_Store_written dc_Store_written pm_Store_written cd_Store_written ct_Store_written : Value}
    (a_Store_written : PySem.W.findIn K (.ref C_Store) "written" = some (some (.ref f_Store_written))) (if_Store_written : PySem.W.isFn K (.ref f_Store_written) = true) (l_Store_written : K.lookup f_Store_written = some ⟨oc_Store_written, od_Store_written, .func (PySem.W.fnOf "written" "Store.written" (defArgs s_Store_written) (defBody s_Store_written) (defScope s_Store_written) .none kV_Store_written dc_Store_written pm_Store_written an_Store_written cd_Store_written ct_Store_written), sl_Store_written⟩) (c_Store_written : PySem.W.codeIn K cd_Store_written "Store.written" = true) (k_Store_written : PySem.W.keepIn K (.ref f_Store_written) = true)
    {f_Store_pending : Addr} {od_Store_pending an_Store_pending : Option Addr} {sl_Store_pending : Array (Option Value)} {oc_Store_pending kV_Store_pending dc_Store_pending pm_Store_pending cd_Store_pending ct_Store_pending : Value}
    (a_Store_pending : PySem.W.findIn K (.ref C_Store) "pending" = some (some (.ref f_Store_pending))) (if_Store_pending : PySem.W.isFn K (.ref f_Store_pending) = true) (l_Store_pending : K.lookup f_Store_pending = some ⟨oc_Store_pending, od_Store_pending, .func (PySem.W.fnOf "pending" "Store.pending" (defArgs s_Store_pending) (defBody s_Store_pending) (defScope s_Store_pending) .none kV_Store_pending dc_Store_pending pm_Store_pending an_Store_pending cd_Store_pending ct_Store_pending), sl_Store_pending⟩) (c_Store_pending : PySem.W.codeIn K cd_Store_pending "Store.pending" = true) (k_Store_pending : PySem.W.keepIn K (.ref f_Store_pending) = true)
    {f_Store_policy : Addr} {od_Store_policy an_Store_policy : Option Addr} {sl_Store_policy : Array (Option Value)} {oc_Store_policy kV_Store_policy dc_Store_policy pm_Store_policy cd_Store_policy ct_Store_policy : Value}
    (a_Store_policy : PySem.W.findIn K (.ref C_Store) "policy" = some (some (.ref f_Store_policy))) (if_Store_policy : PySem.W.isFn K (.ref f_Store_policy) = true) (l_Store_policy : K.lookup f_Store_policy = some ⟨oc_Store_policy, od_Store_policy, .func (PySem.W.fnOf "policy" "Store.policy" (defArgs s_Store_policy) (defBody s_Store_policy) (defScope s_Store_policy) .none kV_Store_policy dc_Store_policy pm_Store_policy an_Store_policy cd_Store_policy ct_Store_policy), sl_Store_policy⟩) (c_Store_policy : PySem.W.codeIn K cd_Store_policy "Store.policy" = true) (k_Store_policy : PySem.W.keepIn K (.ref f_Store_policy) = true)
    {f_Store_undo : Addr} {od_Store_undo an_Store_undo : Option Addr} {sl_Store_undo : Array (Option Value)} {oc_Store_undo kV_Store_undo dc_Store_undo pm_Store_undo cd_Store_undo ct_Store_undo : Value}
    (a_Store_undo : PySem.W.findIn K (.ref C_Store) "undo" = some (some (.ref f_Store_undo))) (if_Store_undo : PySem.W.isFn K (.ref f_Store_undo) = true) (l_Store_undo : K.lookup f_Store_undo = some ⟨oc_Store_undo, od_Store_undo, .func (PySem.W.fnOf "undo" "Store.undo" (defArgs s_Store_undo) (defBody s_Store_undo) (defScope s_Store_undo) .none kV_Store_undo dc_Store_undo pm_Store_undo an_Store_undo cd_Store_undo ct_Store_undo), sl_Store_undo⟩) (c_Store_undo : PySem.W.codeIn K cd_Store_undo "Store.undo" = true) (k_Store_undo : PySem.W.keepIn K (.ref f_Store_undo) = true)
    {f_Store___len__ : Addr} {od_Store___len__ an_Store___len__ : Option Addr} {sl_Store___len__ : Array (Option Value)} {oc_Store___len__ kV_Store___len__ dc_Store___len__ pm_Store___len__ cd_Store___len__ ct_Store___len__ : Value}
    (a_Store___len__ : PySem.W.findIn K (.ref C_Store) "__len__" = some (some (.ref f_Store___len__))) (if_Store___len__ : PySem.W.isFn K (.ref f_Store___len__) = true) (l_Store___len__ : K.lookup f_Store___len__ = some ⟨oc_Store___len__, od_Store___len__, .func (PySem.W.fnOf "__len__" "Store.__len__" (defArgs s_Store___len__) (defBody s_Store___len__) (defScope s_Store___len__) .none kV_Store___len__ dc_Store___len__ pm_Store___len__ an_Store___len__ cd_Store___len__ ct_Store___len__), sl_Store___len__⟩) (c_Store___len__ : PySem.W.codeIn K cd_Store___len__ "Store.__len__" = true) (k_Store___len__ : PySem.W.keepIn K (.ref f_Store___len__) = true)
    {f_L_start_draws : Addr} {od_L_start_draws an_L_start_draws : Option Addr} {sl_L_start_draws : Array (Option Value)} {oc_L_start_draws kV_L_start_draws dc_L_start_draws pm_L_start_draws cd_L_start_draws ct_L_start_draws : Value}
    (a_L_start_draws : PySem.W.nsIn K mainGlobals "_law_start_draws" = some (some (.ref f_L_start_draws))) (l_L_start_draws : K.lookup f_L_start_draws = some ⟨oc_L_start_draws, od_L_start_draws, .func (PySem.W.fnOf "_law_start_draws" "_law_start_draws" (defArgs s_L_start_draws) (defBody s_L_start_draws) (defScope s_L_start_draws) .none kV_L_start_draws dc_L_start_draws pm_L_start_draws an_L_start_draws cd_L_start_draws ct_L_start_draws), sl_L_start_draws⟩) (c_L_start_draws : PySem.W.codeIn K cd_L_start_draws "_law_start_draws" = true) (k_L_start_draws : PySem.W.keepIn K (.ref f_L_start_draws) = true)
    {f_L_next : Addr} {od_L_next an_L_next : Option Addr} {sl_L_next : Array (Option Value)} {oc_L_next kV_L_next dc_L_next pm_L_next cd_L_next ct_L_next : Value}
    (a_L_next : PySem.W.nsIn K mainGlobals "_law_next" = some (some (.ref f_L_next))) (l_L_next : K.lookup f_L_next = some ⟨oc_L_next, od_L_next, .func (PySem.W.fnOf "_law_next" "_law_next" (defArgs s_L_next) (defBody s_L_next) (defScope s_L_next) .none kV_L_next dc_L_next pm_L_next an_L_next cd_L_next ct_L_next), sl_L_next⟩) (c_L_next : PySem.W.codeIn K cd_L_next "_law_next" = true) (k_L_next : PySem.W.keepIn K (.ref f_L_next) = true)
    {f_L_pick : Addr} {od_L_pick an_L_pick : Option Addr} {sl_L_pick : Array (Option Value)} {oc_L_pick kV_L_pick dc_L_pick pm_L_pick cd_L_pick ct_L_pick : Value}
    (a_L_pick : PySem.W.nsIn K mainGlobals "_law_pick" = some (some (.ref f_L_pick))) (l_L_pick : K.lookup f_L_pick = some ⟨oc_L_pick, od_L_pick, .func (PySem.W.fnOf "_law_pick" "_law_pick" (defArgs s_L_pick) (defBody s_L_pick) (defScope s_L_pick) .none kV_L_pick dc_L_pick pm_L_pick an_L_pick cd_L_pick ct_L_pick), sl_L_pick⟩) (c_L_pick : PySem.W.codeIn K cd_L_pick "_law_pick" = true) (k_L_pick : PySem.W.keepIn K (.ref f_L_pick) = true)
    {f_L_odd : Addr} {od_L_odd an_L_odd : Option Addr} {sl_L_odd : Array (Option Value)} {oc_L_odd kV_L_odd dc_L_odd pm_L_odd cd_L_odd ct_L_odd : Value}
    (a_L_odd : PySem.W.nsIn K mainGlobals "_law_odd" = some (some (.ref f_L_odd))) (l_L_odd : K.lookup f_L_odd = some ⟨oc_L_odd, od_L_odd, .func (PySem.W.fnOf "_law_odd" "_law_odd" (defArgs s_L_odd) (defBody s_L_odd) (defScope s_L_odd) .none kV_L_odd dc_L_odd pm_L_odd an_L_odd cd_L_odd ct_L_odd), sl_L_odd⟩) (c_L_odd : PySem.W.codeIn K cd_L_odd "_law_odd" = true) (k_L_odd : PySem.W.keepIn K (.ref f_L_odd) = true)
    {f_L_refusal : Addr} {od_L_refusal an_L_refusal : Option Addr} {sl_L_refusal : Array (Option Value)} {oc_L_refusal kV_L_refusal dc_L_refusal pm_L_refusal cd_L_refusal ct_L_refusal : Value}
    (a_L_refusal : PySem.W.nsIn K mainGlobals "_law_refusal" = some (some (.ref f_L_refusal))) (l_L_refusal : K.lookup f_L_refusal = some ⟨oc_L_refusal, od_L_refusal, .func (PySem.W.fnOf "_law_refusal" "_law_refusal" (defArgs s_L_refusal) (defBody s_L_refusal) (defScope s_L_refusal) .none kV_L_refusal dc_L_refusal pm_L_refusal an_L_refusal cd_L_refusal ct_L_refusal), sl_L_refusal⟩) (c_L_refusal : PySem.W.codeIn K cd_L_refusal "_law_refusal" = true) (k_L_refusal : PySem.W.keepIn K (.ref f_L_refusal) = true)
    {f_L_is_policy : Addr} {od_L_is_policy an_L_is_policy : Option Addr} {sl_L_is_policy : Array (Option Value)} {oc_L_is_policy kV_L_is_policy dc_L_is_policy pm_L_is_policy cd_L_is_policy ct_L_is_policy : Value}
    (a_L_is_policy : PySem.W.nsIn K mainGlobals "_law_is_policy" = some (some (.ref f_L_is_policy))) (l_L_is_policy : K.lookup f_L_is_policy = some ⟨oc_L_is_policy, od_L_is_policy, .func (PySem.W.fnOf "_law_is_policy" "_law_is_policy" (defArgs s_L_is_policy) (defBody s_L_is_policy) (defScope s_L_is_policy) .none kV_L_is_policy dc_L_is_policy pm_L_is_policy an_L_is_policy cd_L_is_policy ct_L_is_policy), sl_L_is_policy⟩) (c_L_is_policy : PySem.W.codeIn K cd_L_is_policy "_law_is_policy" = true) (k_L_is_policy : PySem.W.keepIn K (.ref f_L_is_policy) = true)
    {f_L_some_rule : Addr} {od_L_some_rule an_L_some_rule : Option Addr} {sl_L_some_rule : Array (Option Value)} {oc_L_some_rule kV_L_some_rule dc_L_some_rule pm_L_some_rule cd_L_some_rule ct_L_some_rule : Value}
    (a_L_some_rule : PySem.W.nsIn K mainGlobals "_law_some_rule" = some (some (.ref f_L_some_rule))) (l_L_some_rule : K.lookup f_L_some_rule = some ⟨oc_L_some_rule, od_L_some_rule, .func (PySem.W.fnOf "_law_some_rule" "_law_some_rule" (defArgs s_L_some_rule) (defBody s_L_some_rule) (defScope s_L_some_rule) .none kV_L_some_rule dc_L_some_rule pm_L_some_rule an_L_some_rule cd_L_some_rule ct_L_some_rule), sl_L_some_rule⟩) (c_L_some_rule : PySem.W.codeIn K cd_L_some_rule "_law_some_rule" = true) (k_L_some_rule : PySem.W.keepIn K (.ref f_L_some_rule) = true)
    {f_L_right : Addr} {od_L_right an_L_right : Option Addr} {sl_L_right : Array (Option Value)} {oc_L_right kV_L_right dc_L_right pm_L_right ct_L_right : Value} {cdA_L_right : Addr}
    (a_L_right : PySem.W.nsIn K mainGlobals "_law_right" = some (some (.ref f_L_right))) (l_L_right : K.lookup f_L_right = some ⟨oc_L_right, od_L_right, .func (PySem.W.fnOf "_law_right" "_law_right" (defArgs s_L_right) (defBody s_L_right) (defScope s_L_right) .none kV_L_right dc_L_right pm_L_right an_L_right (.ref cdA_L_right) ct_L_right), sl_L_right⟩) (c_L_right : PySem.W.codeIn K (.ref cdA_L_right) "_law_right" = true) (k_L_right : PySem.W.keepIn K (.ref f_L_right) = true)
    {f_law : Addr} {od_law an_law : Option Addr} {sl_law : Array (Option Value)} {oc_law kV_law dc_law pm_law cd_law ct_law : Value}
    (a_law : PySem.W.nsIn K mainGlobals "law" = some (some (.ref f_law))) (l_law : K.lookup f_law = some ⟨oc_law, od_law, .func (PySem.W.fnOf "law" "law" (defArgs s_law) (defBody s_law) (defScope s_law) .none kV_law dc_law pm_law an_law cd_law ct_law), sl_law⟩) (c_law : PySem.W.codeIn K cd_law "law" = true) (k_law : PySem.W.keepIn K (.ref f_law) = true)
    {ptA_L_right : Addr} (tbA : ∀ P ∈ [ptA_L_right], h.get? P = some (PySem.W.tabObj #[]))
    (hdA_L_right : PySem.W.codeHdIn K cdA_L_right ptA_L_right = true) (ntA_L_right : K.lookup ptA_L_right = none) (nyA_L_right : decide (cdA_L_right ≠ sysModules ∧ ptA_L_right ≠ sysModules) = true)
    (z_isinstance : PySem.W.nsIn K mainGlobals "isinstance" = some none)
    (z_int : PySem.W.nsIn K mainGlobals "int" = some none)
    (z_bool : PySem.W.nsIn K mainGlobals "bool" = some none)
    (z_all : PySem.W.nsIn K mainGlobals "all" = some none)
    (z_tuple : PySem.W.nsIn K mainGlobals "tuple" = some none)
    (z_len : PySem.W.nsIn K mainGlobals "len" = some none)
    (z_enumerate : PySem.W.nsIn K mainGlobals "enumerate" = some none)
    (z_range : PySem.W.nsIn K mainGlobals "range" = some none)
    (z_max : PySem.W.nsIn K mainGlobals "max" = some none)
    (z_sum : PySem.W.nsIn K mainGlobals "sum" = some none)
    (z_zip : PySem.W.nsIn K mainGlobals "zip" = some none)
    (z_str : PySem.W.nsIn K mainGlobals "str" = some none)
    (z_sorted : PySem.W.nsIn K mainGlobals "sorted" = some none)
    (z_list : PySem.W.nsIn K mainGlobals "list" = some none)
    (z_reversed : PySem.W.nsIn K mainGlobals "reversed" = some none)
    (z_min : PySem.W.nsIn K mainGlobals "min" = some none)
    (z_abs : PySem.W.nsIn K mainGlobals "abs" = some none)
    (z_ValueError : PySem.W.nsIn K mainGlobals "ValueError" = some none)
    (z_repr : PySem.W.nsIn K mainGlobals "repr" = some none)
    {t_MOST_BUDGET : Tok} (y_MOST_BUDGET : PySem.W.nsIn K mainGlobals "MOST_BUDGET" = some (some (.int (60) t_MOST_BUDGET)))
    {t_MOST_LOAD : Tok} (y_MOST_LOAD : PySem.W.nsIn K mainGlobals "MOST_LOAD" = some (some (.int (1000000000) t_MOST_LOAD)))
    {t_MOST_FLUSHES : Tok} (y_MOST_FLUSHES : PySem.W.nsIn K mainGlobals "MOST_FLUSHES" = some (some (.int (60) t_MOST_FLUSHES)))
    {t_MOST_POSITION : Tok} (y_MOST_POSITION : PySem.W.nsIn K mainGlobals "MOST_POSITION" = some (some (.int (1000000000000000000) t_MOST_POSITION)))
    {t_MOST_LETTERS : Tok} (y_MOST_LETTERS : PySem.W.nsIn K mainGlobals "MOST_LETTERS" = some (some (.int (8) t_MOST_LETTERS)))
    {C_MergeBudgetError : Addr} (ac_MergeBudgetError : PySem.W.nsIn K mainGlobals "MergeBudgetError" = some (some (.ref C_MergeBudgetError))) (kc_MergeBudgetError : PySem.W.keepIn K (.ref C_MergeBudgetError) = true) {kd_MergeBudgetError : ClassData} (kl_MergeBudgetError : PySem.W.clsIn K C_MergeBudgetError = some kd_MergeBudgetError) (kt_MergeBudgetError : PySem.W.typeIn K (.ref C_MergeBudgetError) = some (.type "type"))
    (xp_MergeBudgetError : PySem.W.findIn K (.ref C_MergeBudgetError) "__getattribute__" = some (some (.builtin "BaseException.__getattribute__"))) (xq_MergeBudgetError : PySem.W.findIn K (.ref C_MergeBudgetError) "__getattr__" = some none) (xr_MergeBudgetError : PySem.W.subIn K (.ref C_MergeBudgetError) (.type "BaseException") = some true) (xs_MergeBudgetError : PySem.W.hasDictIn K C_MergeBudgetError = true) (xt_MergeBudgetError : PySem.W.findIn K (.ref C_MergeBudgetError) "__class__" = some (some (.builtin "object.__class__"))) (xu_MergeBudgetError : PySem.W.mroIn K C_MergeBudgetError (.type "object") = some true)
    (xi_MergeBudgetError : PySem.W.excIn K C_MergeBudgetError PySem.HandSPX.veTail "ValueError.__new__" = true)
    {C_InvalidSchedule : Addr} (ac_InvalidSchedule : PySem.W.nsIn K mainGlobals "InvalidSchedule" = some (some (.ref C_InvalidSchedule))) (kc_InvalidSchedule : PySem.W.keepIn K (.ref C_InvalidSchedule) = true) {kd_InvalidSchedule : ClassData} (kl_InvalidSchedule : PySem.W.clsIn K C_InvalidSchedule = some kd_InvalidSchedule) (kt_InvalidSchedule : PySem.W.typeIn K (.ref C_InvalidSchedule) = some (.type "type"))
    (xp_InvalidSchedule : PySem.W.findIn K (.ref C_InvalidSchedule) "__getattribute__" = some (some (.builtin "BaseException.__getattribute__"))) (xq_InvalidSchedule : PySem.W.findIn K (.ref C_InvalidSchedule) "__getattr__" = some none) (xr_InvalidSchedule : PySem.W.subIn K (.ref C_InvalidSchedule) (.type "BaseException") = some true) (xs_InvalidSchedule : PySem.W.hasDictIn K C_InvalidSchedule = true) (xt_InvalidSchedule : PySem.W.findIn K (.ref C_InvalidSchedule) "__class__" = some (some (.builtin "object.__class__"))) (xu_InvalidSchedule : PySem.W.mroIn K C_InvalidSchedule (.type "object") = some true)
    {nm_InvalidSchedule q_InvalidSchedule : Str} {N_InvalidSchedule : Addr} {bs_InvalidSchedule bm_InvalidSchedule : List Value} {sn_InvalidSchedule : _} {sub_InvalidSchedule : _} {ab_InvalidSchedule : _} {col_InvalidSchedule : _} {dd_InvalidSchedule : _} {k0_InvalidSchedule : _} {k1_InvalidSchedule : _} {k2_InvalidSchedule : _} {k3_InvalidSchedule : _} {k5_InvalidSchedule : _}
    (xL_InvalidSchedule : K.lookup C_InvalidSchedule = some (excClassObj nm_InvalidSchedule q_InvalidSchedule C_InvalidSchedule N_InvalidSchedule bs_InvalidSchedule bm_InvalidSchedule true sn_InvalidSchedule sub_InvalidSchedule ab_InvalidSchedule col_InvalidSchedule dd_InvalidSchedule k0_InvalidSchedule k1_InvalidSchedule k2_InvalidSchedule k3_InvalidSchedule k5_InvalidSchedule "ValueError.__new__")) (rv_InvalidSchedule : PySem.HandSPX.refsVE bm_InvalidSchedule = true)
    {I_InvalidSchedule : Addr} {iod_InvalidSchedule ian_InvalidSchedule : Option Addr} {isl_InvalidSchedule : Array (Option Value)} {ioc_InvalidSchedule ikV_InvalidSchedule idc_InvalidSchedule ipm_InvalidSchedule icd_InvalidSchedule ict_InvalidSchedule : Value}
    (ic_InvalidSchedule : PySem.W.findIn K (.ref C_InvalidSchedule) "__init__" = some (some (.ref I_InvalidSchedule))) (oa_InvalidSchedule : PySem.W.findIn K (.ref C_InvalidSchedule) "__setattr__" = some (some (.builtin "object.__setattr__"))) (oe_InvalidSchedule : PySem.W.findIn K (.ref C_InvalidSchedule) "value" = some none) (of_InvalidSchedule : PySem.W.typeIn K (.ref I_InvalidSchedule) = some (.type "function"))
    (il_InvalidSchedule : K.lookup I_InvalidSchedule = some ⟨ioc_InvalidSchedule, iod_InvalidSchedule, .func (PySem.W.fnOf "__init__" "InvalidSchedule.__init__" (defArgs s_init_InvalidSchedule) (defBody s_init_InvalidSchedule) (defScope s_init_InvalidSchedule) .none ikV_InvalidSchedule idc_InvalidSchedule ipm_InvalidSchedule ian_InvalidSchedule icd_InvalidSchedule ict_InvalidSchedule), isl_InvalidSchedule⟩) (ie_InvalidSchedule : PySem.W.codeIn K icd_InvalidSchedule "InvalidSchedule.__init__" = true) (ik_InvalidSchedule : PySem.W.keepIn K (.ref I_InvalidSchedule) = true)
    {C_InvalidCount : Addr} (ac_InvalidCount : PySem.W.nsIn K mainGlobals "InvalidCount" = some (some (.ref C_InvalidCount))) (kc_InvalidCount : PySem.W.keepIn K (.ref C_InvalidCount) = true) {kd_InvalidCount : ClassData} (kl_InvalidCount : PySem.W.clsIn K C_InvalidCount = some kd_InvalidCount) (kt_InvalidCount : PySem.W.typeIn K (.ref C_InvalidCount) = some (.type "type"))
    (xp_InvalidCount : PySem.W.findIn K (.ref C_InvalidCount) "__getattribute__" = some (some (.builtin "BaseException.__getattribute__"))) (xq_InvalidCount : PySem.W.findIn K (.ref C_InvalidCount) "__getattr__" = some none) (xr_InvalidCount : PySem.W.subIn K (.ref C_InvalidCount) (.type "BaseException") = some true) (xs_InvalidCount : PySem.W.hasDictIn K C_InvalidCount = true) (xt_InvalidCount : PySem.W.findIn K (.ref C_InvalidCount) "__class__" = some (some (.builtin "object.__class__"))) (xu_InvalidCount : PySem.W.mroIn K C_InvalidCount (.type "object") = some true)
    {nm_InvalidCount q_InvalidCount : Str} {N_InvalidCount : Addr} {bs_InvalidCount bm_InvalidCount : List Value} {sn_InvalidCount : _} {sub_InvalidCount : _} {ab_InvalidCount : _} {col_InvalidCount : _} {dd_InvalidCount : _} {k0_InvalidCount : _} {k1_InvalidCount : _} {k2_InvalidCount : _} {k3_InvalidCount : _} {k5_InvalidCount : _}
    (xL_InvalidCount : K.lookup C_InvalidCount = some (excClassObj nm_InvalidCount q_InvalidCount C_InvalidCount N_InvalidCount bs_InvalidCount bm_InvalidCount true sn_InvalidCount sub_InvalidCount ab_InvalidCount col_InvalidCount dd_InvalidCount k0_InvalidCount k1_InvalidCount k2_InvalidCount k3_InvalidCount k5_InvalidCount "ValueError.__new__")) (rv_InvalidCount : PySem.HandSPX.refsVE bm_InvalidCount = true)
    {I_InvalidCount : Addr} {iod_InvalidCount ian_InvalidCount : Option Addr} {isl_InvalidCount : Array (Option Value)} {ioc_InvalidCount ikV_InvalidCount idc_InvalidCount ipm_InvalidCount icd_InvalidCount ict_InvalidCount : Value}
    (ic_InvalidCount : PySem.W.findIn K (.ref C_InvalidCount) "__init__" = some (some (.ref I_InvalidCount))) (oa_InvalidCount : PySem.W.findIn K (.ref C_InvalidCount) "__setattr__" = some (some (.builtin "object.__setattr__"))) (oe_InvalidCount : PySem.W.findIn K (.ref C_InvalidCount) "value" = some none) (of_InvalidCount : PySem.W.typeIn K (.ref I_InvalidCount) = some (.type "function"))
    (il_InvalidCount : K.lookup I_InvalidCount = some ⟨ioc_InvalidCount, iod_InvalidCount, .func (PySem.W.fnOf "__init__" "InvalidCount.__init__" (defArgs s_init_InvalidCount) (defBody s_init_InvalidCount) (defScope s_init_InvalidCount) .none ikV_InvalidCount idc_InvalidCount ipm_InvalidCount ian_InvalidCount icd_InvalidCount ict_InvalidCount), isl_InvalidCount⟩) (ie_InvalidCount : PySem.W.codeIn K icd_InvalidCount "InvalidCount.__init__" = true) (ik_InvalidCount : PySem.W.keepIn K (.ref I_InvalidCount) = true)
    {C_InvalidBudget : Addr} (ac_InvalidBudget : PySem.W.nsIn K mainGlobals "InvalidBudget" = some (some (.ref C_InvalidBudget))) (kc_InvalidBudget : PySem.W.keepIn K (.ref C_InvalidBudget) = true) {kd_InvalidBudget : ClassData} (kl_InvalidBudget : PySem.W.clsIn K C_InvalidBudget = some kd_InvalidBudget) (kt_InvalidBudget : PySem.W.typeIn K (.ref C_InvalidBudget) = some (.type "type"))
    (xp_InvalidBudget : PySem.W.findIn K (.ref C_InvalidBudget) "__getattribute__" = some (some (.builtin "BaseException.__getattribute__"))) (xq_InvalidBudget : PySem.W.findIn K (.ref C_InvalidBudget) "__getattr__" = some none) (xr_InvalidBudget : PySem.W.subIn K (.ref C_InvalidBudget) (.type "BaseException") = some true) (xs_InvalidBudget : PySem.W.hasDictIn K C_InvalidBudget = true) (xt_InvalidBudget : PySem.W.findIn K (.ref C_InvalidBudget) "__class__" = some (some (.builtin "object.__class__"))) (xu_InvalidBudget : PySem.W.mroIn K C_InvalidBudget (.type "object") = some true)
    {nm_InvalidBudget q_InvalidBudget : Str} {N_InvalidBudget : Addr} {bs_InvalidBudget bm_InvalidBudget : List Value} {sn_InvalidBudget : _} {sub_InvalidBudget : _} {ab_InvalidBudget : _} {col_InvalidBudget : _} {dd_InvalidBudget : _} {k0_InvalidBudget : _} {k1_InvalidBudget : _} {k2_InvalidBudget : _} {k3_InvalidBudget : _} {k5_InvalidBudget : _}
    (xL_InvalidBudget : K.lookup C_InvalidBudget = some (excClassObj nm_InvalidBudget q_InvalidBudget C_InvalidBudget N_InvalidBudget bs_InvalidBudget bm_InvalidBudget true sn_InvalidBudget sub_InvalidBudget ab_InvalidBudget col_InvalidBudget dd_InvalidBudget k0_InvalidBudget k1_InvalidBudget k2_InvalidBudget k3_InvalidBudget k5_InvalidBudget "ValueError.__new__")) (rv_InvalidBudget : PySem.HandSPX.refsVE bm_InvalidBudget = true)
    {I_InvalidBudget : Addr} {iod_InvalidBudget ian_InvalidBudget : Option Addr} {isl_InvalidBudget : Array (Option Value)} {ioc_InvalidBudget ikV_InvalidBudget idc_InvalidBudget ipm_InvalidBudget icd_InvalidBudget ict_InvalidBudget : Value}
    (ic_InvalidBudget : PySem.W.findIn K (.ref C_InvalidBudget) "__init__" = some (some (.ref I_InvalidBudget))) (oa_InvalidBudget : PySem.W.findIn K (.ref C_InvalidBudget) "__setattr__" = some (some (.builtin "object.__setattr__"))) (oe_InvalidBudget : PySem.W.findIn K (.ref C_InvalidBudget) "value" = some none) (of_InvalidBudget : PySem.W.typeIn K (.ref I_InvalidBudget) = some (.type "function"))
    (il_InvalidBudget : K.lookup I_InvalidBudget = some ⟨ioc_InvalidBudget, iod_InvalidBudget, .func (PySem.W.fnOf "__init__" "InvalidBudget.__init__" (defArgs s_init_InvalidBudget) (defBody s_init_InvalidBudget) (defScope s_init_InvalidBudget) .none ikV_InvalidBudget idc_InvalidBudget ipm_InvalidBudget ian_InvalidBudget icd_InvalidBudget ict_InvalidBudget), isl_InvalidBudget⟩) (ie_InvalidBudget : PySem.W.codeIn K icd_InvalidBudget "InvalidBudget.__init__" = true) (ik_InvalidBudget : PySem.W.keepIn K (.ref I_InvalidBudget) = true)
    {C_InvalidSizes : Addr} (ac_InvalidSizes : PySem.W.nsIn K mainGlobals "InvalidSizes" = some (some (.ref C_InvalidSizes))) (kc_InvalidSizes : PySem.W.keepIn K (.ref C_InvalidSizes) = true) {kd_InvalidSizes : ClassData} (kl_InvalidSizes : PySem.W.clsIn K C_InvalidSizes = some kd_InvalidSizes) (kt_InvalidSizes : PySem.W.typeIn K (.ref C_InvalidSizes) = some (.type "type"))
    (xp_InvalidSizes : PySem.W.findIn K (.ref C_InvalidSizes) "__getattribute__" = some (some (.builtin "BaseException.__getattribute__"))) (xq_InvalidSizes : PySem.W.findIn K (.ref C_InvalidSizes) "__getattr__" = some none) (xr_InvalidSizes : PySem.W.subIn K (.ref C_InvalidSizes) (.type "BaseException") = some true) (xs_InvalidSizes : PySem.W.hasDictIn K C_InvalidSizes = true) (xt_InvalidSizes : PySem.W.findIn K (.ref C_InvalidSizes) "__class__" = some (some (.builtin "object.__class__"))) (xu_InvalidSizes : PySem.W.mroIn K C_InvalidSizes (.type "object") = some true)
    {nm_InvalidSizes q_InvalidSizes : Str} {N_InvalidSizes : Addr} {bs_InvalidSizes bm_InvalidSizes : List Value} {sn_InvalidSizes : _} {sub_InvalidSizes : _} {ab_InvalidSizes : _} {col_InvalidSizes : _} {dd_InvalidSizes : _} {k0_InvalidSizes : _} {k1_InvalidSizes : _} {k2_InvalidSizes : _} {k3_InvalidSizes : _} {k5_InvalidSizes : _}
    (xL_InvalidSizes : K.lookup C_InvalidSizes = some (excClassObj nm_InvalidSizes q_InvalidSizes C_InvalidSizes N_InvalidSizes bs_InvalidSizes bm_InvalidSizes true sn_InvalidSizes sub_InvalidSizes ab_InvalidSizes col_InvalidSizes dd_InvalidSizes k0_InvalidSizes k1_InvalidSizes k2_InvalidSizes k3_InvalidSizes k5_InvalidSizes "ValueError.__new__")) (rv_InvalidSizes : PySem.HandSPX.refsVE bm_InvalidSizes = true)
    {I_InvalidSizes : Addr} {iod_InvalidSizes ian_InvalidSizes : Option Addr} {isl_InvalidSizes : Array (Option Value)} {ioc_InvalidSizes ikV_InvalidSizes idc_InvalidSizes ipm_InvalidSizes icd_InvalidSizes ict_InvalidSizes : Value}
    (ic_InvalidSizes : PySem.W.findIn K (.ref C_InvalidSizes) "__init__" = some (some (.ref I_InvalidSizes))) (oa_InvalidSizes : PySem.W.findIn K (.ref C_InvalidSizes) "__setattr__" = some (some (.builtin "object.__setattr__"))) (oe_InvalidSizes : PySem.W.findIn K (.ref C_InvalidSizes) "value" = some none) (of_InvalidSizes : PySem.W.typeIn K (.ref I_InvalidSizes) = some (.type "function"))
    (il_InvalidSizes : K.lookup I_InvalidSizes = some ⟨ioc_InvalidSizes, iod_InvalidSizes, .func (PySem.W.fnOf "__init__" "InvalidSizes.__init__" (defArgs s_init_InvalidSizes) (defBody s_init_InvalidSizes) (defScope s_init_InvalidSizes) .none ikV_InvalidSizes idc_InvalidSizes ipm_InvalidSizes ian_InvalidSizes icd_InvalidSizes ict_InvalidSizes), isl_InvalidSizes⟩) (ie_InvalidSizes : PySem.W.codeIn K icd_InvalidSizes "InvalidSizes.__init__" = true) (ik_InvalidSizes : PySem.W.keepIn K (.ref I_InvalidSizes) = true)
    {C_InvalidReads : Addr} (ac_InvalidReads : PySem.W.nsIn K mainGlobals "InvalidReads" = some (some (.ref C_InvalidReads))) (kc_InvalidReads : PySem.W.keepIn K (.ref C_InvalidReads) = true) {kd_InvalidReads : ClassData} (kl_InvalidReads : PySem.W.clsIn K C_InvalidReads = some kd_InvalidReads) (kt_InvalidReads : PySem.W.typeIn K (.ref C_InvalidReads) = some (.type "type"))
    (xp_InvalidReads : PySem.W.findIn K (.ref C_InvalidReads) "__getattribute__" = some (some (.builtin "BaseException.__getattribute__"))) (xq_InvalidReads : PySem.W.findIn K (.ref C_InvalidReads) "__getattr__" = some none) (xr_InvalidReads : PySem.W.subIn K (.ref C_InvalidReads) (.type "BaseException") = some true) (xs_InvalidReads : PySem.W.hasDictIn K C_InvalidReads = true) (xt_InvalidReads : PySem.W.findIn K (.ref C_InvalidReads) "__class__" = some (some (.builtin "object.__class__"))) (xu_InvalidReads : PySem.W.mroIn K C_InvalidReads (.type "object") = some true)
    {nm_InvalidReads q_InvalidReads : Str} {N_InvalidReads : Addr} {bs_InvalidReads bm_InvalidReads : List Value} {sn_InvalidReads : _} {sub_InvalidReads : _} {ab_InvalidReads : _} {col_InvalidReads : _} {dd_InvalidReads : _} {k0_InvalidReads : _} {k1_InvalidReads : _} {k2_InvalidReads : _} {k3_InvalidReads : _} {k5_InvalidReads : _}
    (xL_InvalidReads : K.lookup C_InvalidReads = some (excClassObj nm_InvalidReads q_InvalidReads C_InvalidReads N_InvalidReads bs_InvalidReads bm_InvalidReads true sn_InvalidReads sub_InvalidReads ab_InvalidReads col_InvalidReads dd_InvalidReads k0_InvalidReads k1_InvalidReads k2_InvalidReads k3_InvalidReads k5_InvalidReads "ValueError.__new__")) (rv_InvalidReads : PySem.HandSPX.refsVE bm_InvalidReads = true)
    {I_InvalidReads : Addr} {iod_InvalidReads ian_InvalidReads : Option Addr} {isl_InvalidReads : Array (Option Value)} {ioc_InvalidReads ikV_InvalidReads idc_InvalidReads ipm_InvalidReads icd_InvalidReads ict_InvalidReads : Value}
    (ic_InvalidReads : PySem.W.findIn K (.ref C_InvalidReads) "__init__" = some (some (.ref I_InvalidReads))) (oa_InvalidReads : PySem.W.findIn K (.ref C_InvalidReads) "__setattr__" = some (some (.builtin "object.__setattr__"))) (oe_InvalidReads : PySem.W.findIn K (.ref C_InvalidReads) "value" = some none) (of_InvalidReads : PySem.W.typeIn K (.ref I_InvalidReads) = some (.type "function"))
    (il_InvalidReads : K.lookup I_InvalidReads = some ⟨ioc_InvalidReads, iod_InvalidReads, .func (PySem.W.fnOf "__init__" "InvalidReads.__init__" (defArgs s_init_InvalidReads) (defBody s_init_InvalidReads) (defScope s_init_InvalidReads) .none ikV_InvalidReads idc_InvalidReads ipm_InvalidReads ian_InvalidReads icd_InvalidReads ict_InvalidReads), isl_InvalidReads⟩) (ie_InvalidReads : PySem.W.codeIn K icd_InvalidReads "InvalidReads.__init__" = true) (ik_InvalidReads : PySem.W.keepIn K (.ref I_InvalidReads) = true)
    {C_InvalidState : Addr} (ac_InvalidState : PySem.W.nsIn K mainGlobals "InvalidState" = some (some (.ref C_InvalidState))) (kc_InvalidState : PySem.W.keepIn K (.ref C_InvalidState) = true) {kd_InvalidState : ClassData} (kl_InvalidState : PySem.W.clsIn K C_InvalidState = some kd_InvalidState) (kt_InvalidState : PySem.W.typeIn K (.ref C_InvalidState) = some (.type "type"))
    (xp_InvalidState : PySem.W.findIn K (.ref C_InvalidState) "__getattribute__" = some (some (.builtin "BaseException.__getattribute__"))) (xq_InvalidState : PySem.W.findIn K (.ref C_InvalidState) "__getattr__" = some none) (xr_InvalidState : PySem.W.subIn K (.ref C_InvalidState) (.type "BaseException") = some true) (xs_InvalidState : PySem.W.hasDictIn K C_InvalidState = true) (xt_InvalidState : PySem.W.findIn K (.ref C_InvalidState) "__class__" = some (some (.builtin "object.__class__"))) (xu_InvalidState : PySem.W.mroIn K C_InvalidState (.type "object") = some true)
    {nm_InvalidState q_InvalidState : Str} {N_InvalidState : Addr} {bs_InvalidState bm_InvalidState : List Value} {sn_InvalidState : _} {sub_InvalidState : _} {ab_InvalidState : _} {col_InvalidState : _} {dd_InvalidState : _} {k0_InvalidState : _} {k1_InvalidState : _} {k2_InvalidState : _} {k3_InvalidState : _} {k5_InvalidState : _}
    (xL_InvalidState : K.lookup C_InvalidState = some (excClassObj nm_InvalidState q_InvalidState C_InvalidState N_InvalidState bs_InvalidState bm_InvalidState true sn_InvalidState sub_InvalidState ab_InvalidState col_InvalidState dd_InvalidState k0_InvalidState k1_InvalidState k2_InvalidState k3_InvalidState k5_InvalidState "ValueError.__new__")) (rv_InvalidState : PySem.HandSPX.refsVE bm_InvalidState = true)
    {I_InvalidState : Addr} {iod_InvalidState ian_InvalidState : Option Addr} {isl_InvalidState : Array (Option Value)} {ioc_InvalidState ikV_InvalidState idc_InvalidState ipm_InvalidState icd_InvalidState ict_InvalidState : Value}
    (ic_InvalidState : PySem.W.findIn K (.ref C_InvalidState) "__init__" = some (some (.ref I_InvalidState))) (oa_InvalidState : PySem.W.findIn K (.ref C_InvalidState) "__setattr__" = some (some (.builtin "object.__setattr__"))) (oe_InvalidState : PySem.W.findIn K (.ref C_InvalidState) "value" = some none) (of_InvalidState : PySem.W.typeIn K (.ref I_InvalidState) = some (.type "function"))
    (il_InvalidState : K.lookup I_InvalidState = some ⟨ioc_InvalidState, iod_InvalidState, .func (PySem.W.fnOf "__init__" "InvalidState.__init__" (defArgs s_init_InvalidState) (defBody s_init_InvalidState) (defScope s_init_InvalidState) .none ikV_InvalidState idc_InvalidState ipm_InvalidState ian_InvalidState icd_InvalidState ict_InvalidState), isl_InvalidState⟩) (ie_InvalidState : PySem.W.codeIn K icd_InvalidState "InvalidState.__init__" = true) (ik_InvalidState : PySem.W.keepIn K (.ref I_InvalidState) = true)
    {C_InvalidMerge : Addr} (ac_InvalidMerge : PySem.W.nsIn K mainGlobals "InvalidMerge" = some (some (.ref C_InvalidMerge))) (kc_InvalidMerge : PySem.W.keepIn K (.ref C_InvalidMerge) = true) {kd_InvalidMerge : ClassData} (kl_InvalidMerge : PySem.W.clsIn K C_InvalidMerge = some kd_InvalidMerge) (kt_InvalidMerge : PySem.W.typeIn K (.ref C_InvalidMerge) = some (.type "type"))
    (xp_InvalidMerge : PySem.W.findIn K (.ref C_InvalidMerge) "__getattribute__" = some (some (.builtin "BaseException.__getattribute__"))) (xq_InvalidMerge : PySem.W.findIn K (.ref C_InvalidMerge) "__getattr__" = some none) (xr_InvalidMerge : PySem.W.subIn K (.ref C_InvalidMerge) (.type "BaseException") = some true) (xs_InvalidMerge : PySem.W.hasDictIn K C_InvalidMerge = true) (xt_InvalidMerge : PySem.W.findIn K (.ref C_InvalidMerge) "__class__" = some (some (.builtin "object.__class__"))) (xu_InvalidMerge : PySem.W.mroIn K C_InvalidMerge (.type "object") = some true)
    {nm_InvalidMerge q_InvalidMerge : Str} {N_InvalidMerge : Addr} {bs_InvalidMerge bm_InvalidMerge : List Value} {sn_InvalidMerge : _} {sub_InvalidMerge : _} {ab_InvalidMerge : _} {col_InvalidMerge : _} {dd_InvalidMerge : _} {k0_InvalidMerge : _} {k1_InvalidMerge : _} {k2_InvalidMerge : _} {k3_InvalidMerge : _} {k5_InvalidMerge : _}
    (xL_InvalidMerge : K.lookup C_InvalidMerge = some (excClassObj nm_InvalidMerge q_InvalidMerge C_InvalidMerge N_InvalidMerge bs_InvalidMerge bm_InvalidMerge true sn_InvalidMerge sub_InvalidMerge ab_InvalidMerge col_InvalidMerge dd_InvalidMerge k0_InvalidMerge k1_InvalidMerge k2_InvalidMerge k3_InvalidMerge k5_InvalidMerge "ValueError.__new__")) (rv_InvalidMerge : PySem.HandSPX.refsVE bm_InvalidMerge = true)
    {I_InvalidMerge : Addr} {iod_InvalidMerge ian_InvalidMerge : Option Addr} {isl_InvalidMerge : Array (Option Value)} {ioc_InvalidMerge ikV_InvalidMerge idc_InvalidMerge ipm_InvalidMerge icd_InvalidMerge ict_InvalidMerge : Value}
    (ic_InvalidMerge : PySem.W.findIn K (.ref C_InvalidMerge) "__init__" = some (some (.ref I_InvalidMerge))) (oa_InvalidMerge : PySem.W.findIn K (.ref C_InvalidMerge) "__setattr__" = some (some (.builtin "object.__setattr__"))) (oe_InvalidMerge : PySem.W.findIn K (.ref C_InvalidMerge) "value" = some none) (of_InvalidMerge : PySem.W.typeIn K (.ref I_InvalidMerge) = some (.type "function"))
    (il_InvalidMerge : K.lookup I_InvalidMerge = some ⟨ioc_InvalidMerge, iod_InvalidMerge, .func (PySem.W.fnOf "__init__" "InvalidMerge.__init__" (defArgs s_init_InvalidMerge) (defBody s_init_InvalidMerge) (defScope s_init_InvalidMerge) .none ikV_InvalidMerge idc_InvalidMerge ipm_InvalidMerge ian_InvalidMerge icd_InvalidMerge ict_InvalidMerge), isl_InvalidMerge⟩) (ie_InvalidMerge : PySem.W.codeIn K icd_InvalidMerge "InvalidMerge.__init__" = true) (ik_InvalidMerge : PySem.W.keepIn K (.ref I_InvalidMerge) = true)
    {C_InvalidPolicy : Addr} (ac_InvalidPolicy : PySem.W.nsIn K mainGlobals "InvalidPolicy" = some (some (.ref C_InvalidPolicy))) (kc_InvalidPolicy : PySem.W.keepIn K (.ref C_InvalidPolicy) = true) {kd_InvalidPolicy : ClassData} (kl_InvalidPolicy : PySem.W.clsIn K C_InvalidPolicy = some kd_InvalidPolicy) (kt_InvalidPolicy : PySem.W.typeIn K (.ref C_InvalidPolicy) = some (.type "type"))
    (xp_InvalidPolicy : PySem.W.findIn K (.ref C_InvalidPolicy) "__getattribute__" = some (some (.builtin "BaseException.__getattribute__"))) (xq_InvalidPolicy : PySem.W.findIn K (.ref C_InvalidPolicy) "__getattr__" = some none) (xr_InvalidPolicy : PySem.W.subIn K (.ref C_InvalidPolicy) (.type "BaseException") = some true) (xs_InvalidPolicy : PySem.W.hasDictIn K C_InvalidPolicy = true) (xt_InvalidPolicy : PySem.W.findIn K (.ref C_InvalidPolicy) "__class__" = some (some (.builtin "object.__class__"))) (xu_InvalidPolicy : PySem.W.mroIn K C_InvalidPolicy (.type "object") = some true)
    {nm_InvalidPolicy q_InvalidPolicy : Str} {N_InvalidPolicy : Addr} {bs_InvalidPolicy bm_InvalidPolicy : List Value} {sn_InvalidPolicy : _} {sub_InvalidPolicy : _} {ab_InvalidPolicy : _} {col_InvalidPolicy : _} {dd_InvalidPolicy : _} {k0_InvalidPolicy : _} {k1_InvalidPolicy : _} {k2_InvalidPolicy : _} {k3_InvalidPolicy : _} {k5_InvalidPolicy : _}
    (xL_InvalidPolicy : K.lookup C_InvalidPolicy = some (excClassObj nm_InvalidPolicy q_InvalidPolicy C_InvalidPolicy N_InvalidPolicy bs_InvalidPolicy bm_InvalidPolicy true sn_InvalidPolicy sub_InvalidPolicy ab_InvalidPolicy col_InvalidPolicy dd_InvalidPolicy k0_InvalidPolicy k1_InvalidPolicy k2_InvalidPolicy k3_InvalidPolicy k5_InvalidPolicy "ValueError.__new__")) (rv_InvalidPolicy : PySem.HandSPX.refsVE bm_InvalidPolicy = true)
    {I_InvalidPolicy : Addr} {iod_InvalidPolicy ian_InvalidPolicy : Option Addr} {isl_InvalidPolicy : Array (Option Value)} {ioc_InvalidPolicy ikV_InvalidPolicy idc_InvalidPolicy ipm_InvalidPolicy icd_InvalidPolicy ict_InvalidPolicy : Value}
    (ic_InvalidPolicy : PySem.W.findIn K (.ref C_InvalidPolicy) "__init__" = some (some (.ref I_InvalidPolicy))) (oa_InvalidPolicy : PySem.W.findIn K (.ref C_InvalidPolicy) "__setattr__" = some (some (.builtin "object.__setattr__"))) (oe_InvalidPolicy : PySem.W.findIn K (.ref C_InvalidPolicy) "value" = some none) (of_InvalidPolicy : PySem.W.typeIn K (.ref I_InvalidPolicy) = some (.type "function"))
    (il_InvalidPolicy : K.lookup I_InvalidPolicy = some ⟨ioc_InvalidPolicy, iod_InvalidPolicy, .func (PySem.W.fnOf "__init__" "InvalidPolicy.__init__" (defArgs s_init_InvalidPolicy) (defBody s_init_InvalidPolicy) (defScope s_init_InvalidPolicy) .none ikV_InvalidPolicy idc_InvalidPolicy ipm_InvalidPolicy ian_InvalidPolicy icd_InvalidPolicy ict_InvalidPolicy), isl_InvalidPolicy⟩) (ie_InvalidPolicy : PySem.W.codeIn K icd_InvalidPolicy "InvalidPolicy.__init__" = true) (ik_InvalidPolicy : PySem.W.keepIn K (.ref I_InvalidPolicy) = true)
    {C_InvalidKey : Addr} (ac_InvalidKey : PySem.W.nsIn K mainGlobals "InvalidKey" = some (some (.ref C_InvalidKey))) (kc_InvalidKey : PySem.W.keepIn K (.ref C_InvalidKey) = true) {kd_InvalidKey : ClassData} (kl_InvalidKey : PySem.W.clsIn K C_InvalidKey = some kd_InvalidKey) (kt_InvalidKey : PySem.W.typeIn K (.ref C_InvalidKey) = some (.type "type"))
    (xp_InvalidKey : PySem.W.findIn K (.ref C_InvalidKey) "__getattribute__" = some (some (.builtin "BaseException.__getattribute__"))) (xq_InvalidKey : PySem.W.findIn K (.ref C_InvalidKey) "__getattr__" = some none) (xr_InvalidKey : PySem.W.subIn K (.ref C_InvalidKey) (.type "BaseException") = some true) (xs_InvalidKey : PySem.W.hasDictIn K C_InvalidKey = true) (xt_InvalidKey : PySem.W.findIn K (.ref C_InvalidKey) "__class__" = some (some (.builtin "object.__class__"))) (xu_InvalidKey : PySem.W.mroIn K C_InvalidKey (.type "object") = some true)
    {nm_InvalidKey q_InvalidKey : Str} {N_InvalidKey : Addr} {bs_InvalidKey bm_InvalidKey : List Value} {sn_InvalidKey : _} {sub_InvalidKey : _} {ab_InvalidKey : _} {col_InvalidKey : _} {dd_InvalidKey : _} {k0_InvalidKey : _} {k1_InvalidKey : _} {k2_InvalidKey : _} {k3_InvalidKey : _} {k5_InvalidKey : _}
    (xL_InvalidKey : K.lookup C_InvalidKey = some (excClassObj nm_InvalidKey q_InvalidKey C_InvalidKey N_InvalidKey bs_InvalidKey bm_InvalidKey true sn_InvalidKey sub_InvalidKey ab_InvalidKey col_InvalidKey dd_InvalidKey k0_InvalidKey k1_InvalidKey k2_InvalidKey k3_InvalidKey k5_InvalidKey "ValueError.__new__")) (rv_InvalidKey : PySem.HandSPX.refsVE bm_InvalidKey = true)
    {I_InvalidKey : Addr} {iod_InvalidKey ian_InvalidKey : Option Addr} {isl_InvalidKey : Array (Option Value)} {ioc_InvalidKey ikV_InvalidKey idc_InvalidKey ipm_InvalidKey icd_InvalidKey ict_InvalidKey : Value}
    (ic_InvalidKey : PySem.W.findIn K (.ref C_InvalidKey) "__init__" = some (some (.ref I_InvalidKey))) (oa_InvalidKey : PySem.W.findIn K (.ref C_InvalidKey) "__setattr__" = some (some (.builtin "object.__setattr__"))) (oe_InvalidKey : PySem.W.findIn K (.ref C_InvalidKey) "value" = some none) (of_InvalidKey : PySem.W.typeIn K (.ref I_InvalidKey) = some (.type "function"))
    (il_InvalidKey : K.lookup I_InvalidKey = some ⟨ioc_InvalidKey, iod_InvalidKey, .func (PySem.W.fnOf "__init__" "InvalidKey.__init__" (defArgs s_init_InvalidKey) (defBody s_init_InvalidKey) (defScope s_init_InvalidKey) .none ikV_InvalidKey idc_InvalidKey ipm_InvalidKey ian_InvalidKey icd_InvalidKey ict_InvalidKey), isl_InvalidKey⟩) (ie_InvalidKey : PySem.W.codeIn K icd_InvalidKey "InvalidKey.__init__" = true) (ik_InvalidKey : PySem.W.keepIn K (.ref I_InvalidKey) = true)
    {C_InvalidValue : Addr} (ac_InvalidValue : PySem.W.nsIn K mainGlobals "InvalidValue" = some (some (.ref C_InvalidValue))) (kc_InvalidValue : PySem.W.keepIn K (.ref C_InvalidValue) = true) {kd_InvalidValue : ClassData} (kl_InvalidValue : PySem.W.clsIn K C_InvalidValue = some kd_InvalidValue) (kt_InvalidValue : PySem.W.typeIn K (.ref C_InvalidValue) = some (.type "type"))
    (xp_InvalidValue : PySem.W.findIn K (.ref C_InvalidValue) "__getattribute__" = some (some (.builtin "BaseException.__getattribute__"))) (xq_InvalidValue : PySem.W.findIn K (.ref C_InvalidValue) "__getattr__" = some none) (xr_InvalidValue : PySem.W.subIn K (.ref C_InvalidValue) (.type "BaseException") = some true) (xs_InvalidValue : PySem.W.hasDictIn K C_InvalidValue = true) (xt_InvalidValue : PySem.W.findIn K (.ref C_InvalidValue) "__class__" = some (some (.builtin "object.__class__"))) (xu_InvalidValue : PySem.W.mroIn K C_InvalidValue (.type "object") = some true)
    {nm_InvalidValue q_InvalidValue : Str} {N_InvalidValue : Addr} {bs_InvalidValue bm_InvalidValue : List Value} {sn_InvalidValue : _} {sub_InvalidValue : _} {ab_InvalidValue : _} {col_InvalidValue : _} {dd_InvalidValue : _} {k0_InvalidValue : _} {k1_InvalidValue : _} {k2_InvalidValue : _} {k3_InvalidValue : _} {k5_InvalidValue : _}
    (xL_InvalidValue : K.lookup C_InvalidValue = some (excClassObj nm_InvalidValue q_InvalidValue C_InvalidValue N_InvalidValue bs_InvalidValue bm_InvalidValue true sn_InvalidValue sub_InvalidValue ab_InvalidValue col_InvalidValue dd_InvalidValue k0_InvalidValue k1_InvalidValue k2_InvalidValue k3_InvalidValue k5_InvalidValue "ValueError.__new__")) (rv_InvalidValue : PySem.HandSPX.refsVE bm_InvalidValue = true)
    {I_InvalidValue : Addr} {iod_InvalidValue ian_InvalidValue : Option Addr} {isl_InvalidValue : Array (Option Value)} {ioc_InvalidValue ikV_InvalidValue idc_InvalidValue ipm_InvalidValue icd_InvalidValue ict_InvalidValue : Value}
    (ic_InvalidValue : PySem.W.findIn K (.ref C_InvalidValue) "__init__" = some (some (.ref I_InvalidValue))) (oa_InvalidValue : PySem.W.findIn K (.ref C_InvalidValue) "__setattr__" = some (some (.builtin "object.__setattr__"))) (oe_InvalidValue : PySem.W.findIn K (.ref C_InvalidValue) "value" = some none) (of_InvalidValue : PySem.W.typeIn K (.ref I_InvalidValue) = some (.type "function"))
    (il_InvalidValue : K.lookup I_InvalidValue = some ⟨ioc_InvalidValue, iod_InvalidValue, .func (PySem.W.fnOf "__init__" "InvalidValue.__init__" (defArgs s_init_InvalidValue) (defBody s_init_InvalidValue) (defScope s_init_InvalidValue) .none ikV_InvalidValue idc_InvalidValue ipm_InvalidValue ian_InvalidValue icd_InvalidValue ict_InvalidValue), isl_InvalidValue⟩) (ie_InvalidValue : PySem.W.codeIn K icd_InvalidValue "InvalidValue.__init__" = true) (ik_InvalidValue : PySem.W.keepIn K (.ref I_InvalidValue) = true)
    {C_InvalidMoment : Addr} (ac_InvalidMoment : PySem.W.nsIn K mainGlobals "InvalidMoment" = some (some (.ref C_InvalidMoment))) (kc_InvalidMoment : PySem.W.keepIn K (.ref C_InvalidMoment) = true) {kd_InvalidMoment : ClassData} (kl_InvalidMoment : PySem.W.clsIn K C_InvalidMoment = some kd_InvalidMoment) (kt_InvalidMoment : PySem.W.typeIn K (.ref C_InvalidMoment) = some (.type "type"))
    (xp_InvalidMoment : PySem.W.findIn K (.ref C_InvalidMoment) "__getattribute__" = some (some (.builtin "BaseException.__getattribute__"))) (xq_InvalidMoment : PySem.W.findIn K (.ref C_InvalidMoment) "__getattr__" = some none) (xr_InvalidMoment : PySem.W.subIn K (.ref C_InvalidMoment) (.type "BaseException") = some true) (xs_InvalidMoment : PySem.W.hasDictIn K C_InvalidMoment = true) (xt_InvalidMoment : PySem.W.findIn K (.ref C_InvalidMoment) "__class__" = some (some (.builtin "object.__class__"))) (xu_InvalidMoment : PySem.W.mroIn K C_InvalidMoment (.type "object") = some true)
    {nm_InvalidMoment q_InvalidMoment : Str} {N_InvalidMoment : Addr} {bs_InvalidMoment bm_InvalidMoment : List Value} {sn_InvalidMoment : _} {sub_InvalidMoment : _} {ab_InvalidMoment : _} {col_InvalidMoment : _} {dd_InvalidMoment : _} {k0_InvalidMoment : _} {k1_InvalidMoment : _} {k2_InvalidMoment : _} {k3_InvalidMoment : _} {k5_InvalidMoment : _}
    (xL_InvalidMoment : K.lookup C_InvalidMoment = some (excClassObj nm_InvalidMoment q_InvalidMoment C_InvalidMoment N_InvalidMoment bs_InvalidMoment bm_InvalidMoment true sn_InvalidMoment sub_InvalidMoment ab_InvalidMoment col_InvalidMoment dd_InvalidMoment k0_InvalidMoment k1_InvalidMoment k2_InvalidMoment k3_InvalidMoment k5_InvalidMoment "ValueError.__new__")) (rv_InvalidMoment : PySem.HandSPX.refsVE bm_InvalidMoment = true)
    {I_InvalidMoment : Addr} {iod_InvalidMoment ian_InvalidMoment : Option Addr} {isl_InvalidMoment : Array (Option Value)} {ioc_InvalidMoment ikV_InvalidMoment idc_InvalidMoment ipm_InvalidMoment icd_InvalidMoment ict_InvalidMoment : Value}
    (ic_InvalidMoment : PySem.W.findIn K (.ref C_InvalidMoment) "__init__" = some (some (.ref I_InvalidMoment))) (oa_InvalidMoment : PySem.W.findIn K (.ref C_InvalidMoment) "__setattr__" = some (some (.builtin "object.__setattr__"))) (oe_InvalidMoment : PySem.W.findIn K (.ref C_InvalidMoment) "value" = some none) (of_InvalidMoment : PySem.W.typeIn K (.ref I_InvalidMoment) = some (.type "function"))
    (il_InvalidMoment : K.lookup I_InvalidMoment = some ⟨ioc_InvalidMoment, iod_InvalidMoment, .func (PySem.W.fnOf "__init__" "InvalidMoment.__init__" (defArgs s_init_InvalidMoment) (defBody s_init_InvalidMoment) (defScope s_init_InvalidMoment) .none ikV_InvalidMoment idc_InvalidMoment ipm_InvalidMoment ian_InvalidMoment icd_InvalidMoment ict_InvalidMoment), isl_InvalidMoment⟩) (ie_InvalidMoment : PySem.W.codeIn K icd_InvalidMoment "InvalidMoment.__init__" = true) (ik_InvalidMoment : PySem.W.keepIn K (.ref I_InvalidMoment) = true)
    {C_InvalidText : Addr} (ac_InvalidText : PySem.W.nsIn K mainGlobals "InvalidText" = some (some (.ref C_InvalidText))) (kc_InvalidText : PySem.W.keepIn K (.ref C_InvalidText) = true) {kd_InvalidText : ClassData} (kl_InvalidText : PySem.W.clsIn K C_InvalidText = some kd_InvalidText) (kt_InvalidText : PySem.W.typeIn K (.ref C_InvalidText) = some (.type "type"))
    (xp_InvalidText : PySem.W.findIn K (.ref C_InvalidText) "__getattribute__" = some (some (.builtin "BaseException.__getattribute__"))) (xq_InvalidText : PySem.W.findIn K (.ref C_InvalidText) "__getattr__" = some none) (xr_InvalidText : PySem.W.subIn K (.ref C_InvalidText) (.type "BaseException") = some true) (xs_InvalidText : PySem.W.hasDictIn K C_InvalidText = true) (xt_InvalidText : PySem.W.findIn K (.ref C_InvalidText) "__class__" = some (some (.builtin "object.__class__"))) (xu_InvalidText : PySem.W.mroIn K C_InvalidText (.type "object") = some true)
    {nm_InvalidText q_InvalidText : Str} {N_InvalidText : Addr} {bs_InvalidText bm_InvalidText : List Value} {sn_InvalidText : _} {sub_InvalidText : _} {ab_InvalidText : _} {col_InvalidText : _} {dd_InvalidText : _} {k0_InvalidText : _} {k1_InvalidText : _} {k2_InvalidText : _} {k3_InvalidText : _} {k5_InvalidText : _}
    (xL_InvalidText : K.lookup C_InvalidText = some (excClassObj nm_InvalidText q_InvalidText C_InvalidText N_InvalidText bs_InvalidText bm_InvalidText true sn_InvalidText sub_InvalidText ab_InvalidText col_InvalidText dd_InvalidText k0_InvalidText k1_InvalidText k2_InvalidText k3_InvalidText k5_InvalidText "ValueError.__new__")) (rv_InvalidText : PySem.HandSPX.refsVE bm_InvalidText = true)
    {I_InvalidText : Addr} {iod_InvalidText ian_InvalidText : Option Addr} {isl_InvalidText : Array (Option Value)} {ioc_InvalidText ikV_InvalidText idc_InvalidText ipm_InvalidText icd_InvalidText ict_InvalidText : Value}
    (ic_InvalidText : PySem.W.findIn K (.ref C_InvalidText) "__init__" = some (some (.ref I_InvalidText))) (oa_InvalidText : PySem.W.findIn K (.ref C_InvalidText) "__setattr__" = some (some (.builtin "object.__setattr__"))) (oe_InvalidText : PySem.W.findIn K (.ref C_InvalidText) "value" = some none) (of_InvalidText : PySem.W.typeIn K (.ref I_InvalidText) = some (.type "function"))
    (il_InvalidText : K.lookup I_InvalidText = some ⟨ioc_InvalidText, iod_InvalidText, .func (PySem.W.fnOf "__init__" "InvalidText.__init__" (defArgs s_init_InvalidText) (defBody s_init_InvalidText) (defScope s_init_InvalidText) .none ikV_InvalidText idc_InvalidText ipm_InvalidText ian_InvalidText icd_InvalidText ict_InvalidText), isl_InvalidText⟩) (ie_InvalidText : PySem.W.codeIn K icd_InvalidText "InvalidText.__init__" = true) (ik_InvalidText : PySem.W.keepIn K (.ref I_InvalidText) = true)
    {C_InvalidLine : Addr} (ac_InvalidLine : PySem.W.nsIn K mainGlobals "InvalidLine" = some (some (.ref C_InvalidLine))) (kc_InvalidLine : PySem.W.keepIn K (.ref C_InvalidLine) = true) {kd_InvalidLine : ClassData} (kl_InvalidLine : PySem.W.clsIn K C_InvalidLine = some kd_InvalidLine) (kt_InvalidLine : PySem.W.typeIn K (.ref C_InvalidLine) = some (.type "type"))
    (xp_InvalidLine : PySem.W.findIn K (.ref C_InvalidLine) "__getattribute__" = some (some (.builtin "BaseException.__getattribute__"))) (xq_InvalidLine : PySem.W.findIn K (.ref C_InvalidLine) "__getattr__" = some none) (xr_InvalidLine : PySem.W.subIn K (.ref C_InvalidLine) (.type "BaseException") = some true) (xs_InvalidLine : PySem.W.hasDictIn K C_InvalidLine = true) (xt_InvalidLine : PySem.W.findIn K (.ref C_InvalidLine) "__class__" = some (some (.builtin "object.__class__"))) (xu_InvalidLine : PySem.W.mroIn K C_InvalidLine (.type "object") = some true)
    {nm_InvalidLine q_InvalidLine : Str} {N_InvalidLine : Addr} {bs_InvalidLine bm_InvalidLine : List Value} {sn_InvalidLine : _} {sub_InvalidLine : _} {ab_InvalidLine : _} {col_InvalidLine : _} {dd_InvalidLine : _} {k0_InvalidLine : _} {k1_InvalidLine : _} {k2_InvalidLine : _} {k3_InvalidLine : _} {k5_InvalidLine : _}
    (xL_InvalidLine : K.lookup C_InvalidLine = some (excClassObj nm_InvalidLine q_InvalidLine C_InvalidLine N_InvalidLine bs_InvalidLine bm_InvalidLine true sn_InvalidLine sub_InvalidLine ab_InvalidLine col_InvalidLine dd_InvalidLine k0_InvalidLine k1_InvalidLine k2_InvalidLine k3_InvalidLine k5_InvalidLine "ValueError.__new__")) (rv_InvalidLine : PySem.HandSPX.refsVE bm_InvalidLine = true)
    {I_InvalidLine : Addr} {iod_InvalidLine ian_InvalidLine : Option Addr} {isl_InvalidLine : Array (Option Value)} {ioc_InvalidLine ikV_InvalidLine idc_InvalidLine ipm_InvalidLine icd_InvalidLine ict_InvalidLine : Value}
    (ic_InvalidLine : PySem.W.findIn K (.ref C_InvalidLine) "__init__" = some (some (.ref I_InvalidLine))) (oa_InvalidLine : PySem.W.findIn K (.ref C_InvalidLine) "__setattr__" = some (some (.builtin "object.__setattr__"))) (oe_InvalidLine : PySem.W.findIn K (.ref C_InvalidLine) "value" = some none) (of_InvalidLine : PySem.W.typeIn K (.ref I_InvalidLine) = some (.type "function"))
    (il_InvalidLine : K.lookup I_InvalidLine = some ⟨ioc_InvalidLine, iod_InvalidLine, .func (PySem.W.fnOf "__init__" "InvalidLine.__init__" (defArgs s_init_InvalidLine) (defBody s_init_InvalidLine) (defScope s_init_InvalidLine) .none ikV_InvalidLine idc_InvalidLine ipm_InvalidLine ian_InvalidLine icd_InvalidLine ict_InvalidLine), isl_InvalidLine⟩) (ie_InvalidLine : PySem.W.codeIn K icd_InvalidLine "InvalidLine.__init__" = true) (ik_InvalidLine : PySem.W.keepIn K (.ref I_InvalidLine) = true)
    {C_Exhausted : Addr} (ac_Exhausted : PySem.W.nsIn K mainGlobals "Exhausted" = some (some (.ref C_Exhausted))) (kc_Exhausted : PySem.W.keepIn K (.ref C_Exhausted) = true) {kd_Exhausted : ClassData} (kl_Exhausted : PySem.W.clsIn K C_Exhausted = some kd_Exhausted) (kt_Exhausted : PySem.W.typeIn K (.ref C_Exhausted) = some (.type "type"))
    (xp_Exhausted : PySem.W.findIn K (.ref C_Exhausted) "__getattribute__" = some (some (.builtin "BaseException.__getattribute__"))) (xq_Exhausted : PySem.W.findIn K (.ref C_Exhausted) "__getattr__" = some none) (xr_Exhausted : PySem.W.subIn K (.ref C_Exhausted) (.type "BaseException") = some true) (xs_Exhausted : PySem.W.hasDictIn K C_Exhausted = true) (xt_Exhausted : PySem.W.findIn K (.ref C_Exhausted) "__class__" = some (some (.builtin "object.__class__"))) (xu_Exhausted : PySem.W.mroIn K C_Exhausted (.type "object") = some true)
    (xi_Exhausted : PySem.W.excIn K C_Exhausted PySem.HandSPX.veTail "ValueError.__new__" = true)
    {C_NothingToUndo : Addr} (ac_NothingToUndo : PySem.W.nsIn K mainGlobals "NothingToUndo" = some (some (.ref C_NothingToUndo))) (kc_NothingToUndo : PySem.W.keepIn K (.ref C_NothingToUndo) = true) {kd_NothingToUndo : ClassData} (kl_NothingToUndo : PySem.W.clsIn K C_NothingToUndo = some kd_NothingToUndo) (kt_NothingToUndo : PySem.W.typeIn K (.ref C_NothingToUndo) = some (.type "type"))
    (xp_NothingToUndo : PySem.W.findIn K (.ref C_NothingToUndo) "__getattribute__" = some (some (.builtin "BaseException.__getattribute__"))) (xq_NothingToUndo : PySem.W.findIn K (.ref C_NothingToUndo) "__getattr__" = some none) (xr_NothingToUndo : PySem.W.subIn K (.ref C_NothingToUndo) (.type "BaseException") = some true) (xs_NothingToUndo : PySem.W.hasDictIn K C_NothingToUndo = true) (xt_NothingToUndo : PySem.W.findIn K (.ref C_NothingToUndo) "__class__" = some (some (.builtin "object.__class__"))) (xu_NothingToUndo : PySem.W.mroIn K C_NothingToUndo (.type "object") = some true)
    (xi_NothingToUndo : PySem.W.excIn K C_NothingToUndo PySem.HandSPX.veTail "ValueError.__new__" = true)
    (gsp : PySem.W.specialIn K (.builtin "object.__class__") "__get__" = some (some (.builtin "getset_descriptor.__get__"))) (gta : PySem.W.takesIn K (.builtin "object.__class__") = some true) (kits : kitT [(C_InvalidSchedule, kd_InvalidSchedule.mro), (C_InvalidCount, kd_InvalidCount.mro), (C_InvalidBudget, kd_InvalidBudget.mro), (C_InvalidSizes, kd_InvalidSizes.mro), (C_InvalidReads, kd_InvalidReads.mro), (C_InvalidState, kd_InvalidState.mro), (C_InvalidMerge, kd_InvalidMerge.mro), (C_InvalidPolicy, kd_InvalidPolicy.mro), (C_InvalidKey, kd_InvalidKey.mro), (C_InvalidValue, kd_InvalidValue.mro), (C_InvalidMoment, kd_InvalidMoment.mro), (C_InvalidText, kd_InvalidText.mro), (C_InvalidLine, kd_InvalidLine.mro), (C_Exhausted, kd_Exhausted.mro), (C_NothingToUndo, kd_NothingToUndo.mro)] C_MergeBudgetError = true) (kitn : decide ([C_InvalidSchedule, C_InvalidCount, C_InvalidBudget, C_InvalidSizes, C_InvalidReads, C_InvalidState, C_InvalidMerge, C_InvalidPolicy, C_InvalidKey, C_InvalidValue, C_InvalidMoment, C_InvalidText, C_InvalidLine, C_Exhausted, C_NothingToUndo].Nodup) = true) (kitz : decide (C_MergeBudgetError ∈ [C_InvalidSchedule, C_InvalidCount, C_InvalidBudget, C_InvalidSizes, C_InvalidReads, C_InvalidState, C_InvalidMerge, C_InvalidPolicy, C_InvalidKey, C_InvalidValue, C_InvalidMoment, C_InvalidText, C_InvalidLine, C_Exhausted, C_NothingToUndo]) = false)
    : ∃ (fd : FuncData) (cs : List (Addr × Addr)), (∀ p ∈ cs, h.get? p.2 = some { cls := .none, data := .fields #[] }) ∧ (∀ p ∈ cs, K.lookup p.2 = none) ∧ (∀ p ∈ cs, PySem.W.CodeHd h p.1 p.2) ∧ (∀ p ∈ cs, p.1 ≠ sysModules ∧ p.2 ≠ sysModules) ∧ (∀ (s : Shared) (v : Value), BindsTo s fd ⟨[v], []⟩ [("_law_script", v)]) ∧ (∀ base : Heap, K.In base → base.Ns mainGlobals mg → (∀ p ∈ cs, LamX.TabB base mg p.1 p.2) → FnG l.prog w K mg base CX0 13 fa fd ["_law_script"] (sp_law K cs)) ∧ ∀ (H : Hp) (a : Addr) (ns : List Int) (o : HO), ns.length ≤ 63 → SqL K H a (ns.map V.int) → H sysModules = some o → (∀ ps, o ≠ .tbl ps) → (∀ p ∈ cs, H p.2 = some (.tbl #[])) → sp_law K cs [.ref a] H (fun v _ => v = .bl true) fun _ _ _ => False := by
  have e := hfa.symm.trans (PySem.W.mg_of X G a_law)
  cases e
  have F_is_int := fun_mk (st := s_is_int) l_is_int c_is_int k_is_int
  have B_is_int := F_is_int.binds (ps := ["value"]) fun _ _ _ _ _ _ us hl => match us, hl with | [_], _ => rfl
  have F_is_count := fun_mk (st := s_is_count) l_is_count c_is_count k_is_count
  have B_is_count := F_is_count.binds (ps := ["value"]) fun _ _ _ _ _ _ us hl => match us, hl with | [_], _ => rfl
  have F_is_count_up_to := fun_mk (st := s_is_count_up_to) l_is_count_up_to c_is_count_up_to k_is_count_up_to
  have B_is_count_up_to := F_is_count_up_to.binds (ps := ["value", "most"]) fun _ _ _ _ _ _ us hl => match us, hl with | [_, _], _ => rfl
  have F_are_loads := fun_mk (st := s_are_loads) l_are_loads c_are_loads k_are_loads
  have B_are_loads := F_are_loads.binds (ps := ["value", "fewest", "most"]) fun _ _ _ _ _ _ us hl => match us, hl with | [_, _, _], _ => rfl
  have F_check_sizes := fun_mk (st := s_check_sizes) l_check_sizes c_check_sizes k_check_sizes
  have B_check_sizes := F_check_sizes.binds (ps := ["sizes", "fewest", "most"]) fun _ _ _ _ _ _ us hl => match us, hl with | [_, _, _], _ => rfl
  have F_is_schedule := fun_mk (st := s_is_schedule) l_is_schedule c_is_schedule k_is_schedule
  have B_is_schedule := F_is_schedule.binds (ps := ["value"]) fun _ _ _ _ _ _ us hl => match us, hl with | [_], _ => rfl
  have F_stacks := fun_mk (st := s_stacks) l_stacks c_stacks k_stacks
  have B_stacks := F_stacks.binds (ps := ["schedule"]) fun _ _ _ _ _ _ us hl => match us, hl with | [_], _ => rfl
  have F_stack_after := fun_mk (st := s_stack_after) l_stack_after c_stack_after k_stack_after
  have B_stack_after := F_stack_after.binds (ps := ["stack", "flush", "merge"]) fun _ _ _ _ _ _ us hl => match us, hl with | [_, _, _], _ => rfl
  have F_writes := fun_mk (st := s_writes) l_writes c_writes k_writes
  have B_writes := F_writes.binds (ps := ["schedule"]) fun _ _ _ _ _ _ us hl => match us, hl with | [_], _ => rfl
  have F_state_of := fun_mk (st := s_state_of) l_state_of c_state_of k_state_of
  have B_state_of := F_state_of.binds (ps := ["schedule"]) fun _ _ _ _ _ _ us hl => match us, hl with | [_], _ => rfl
  have F_state_after := fun_mk (st := s_state_after) l_state_after c_state_after k_state_after
  have B_state_after := F_state_after.binds (ps := ["state", "merge"]) fun _ _ _ _ _ _ us hl => match us, hl with | [_, _], _ => rfl
  have F_write_work := fun_mk (st := s_write_work) l_write_work c_write_work k_write_work
  have B_write_work := F_write_work.binds (ps := ["schedule", "sizes"]) fun _ _ _ _ _ _ us hl => match us, hl with | [_, _], _ => rfl
  have F_weighted := fun_mk (st := s_weighted) l_weighted c_weighted k_weighted
  have B_weighted := F_weighted.binds (ps := ["loads", "counts"]) fun _ _ _ _ _ _ us hl => match us, hl with | [_, _], _ => rfl
  have F_is_key := fun_mk (st := s_is_key) l_is_key c_is_key k_is_key
  have B_is_key := F_is_key.binds (ps := ["value"]) fun _ _ _ _ _ _ us hl => match us, hl with | [_], _ => rfl
  have F_check_key := fun_mk (st := s_check_key) l_check_key c_check_key k_check_key
  have B_check_key := F_check_key.binds (ps := ["key"]) fun _ _ _ _ _ _ us hl => match us, hl with | [_], _ => rfl
  have F_is_policy := fun_mk (st := s_is_policy) l_is_policy c_is_policy k_is_policy
  have B_is_policy := F_is_policy.binds (ps := ["value"]) fun _ _ _ _ _ _ us hl => match us, hl with | [_], _ => rfl
  have F_ascending_pairs := fun_mk (st := s_ascending_pairs) l_ascending_pairs c_ascending_pairs k_ascending_pairs
  have B_ascending_pairs := F_ascending_pairs.binds (ps := ["entries"]) fun _ _ _ _ _ _ us hl => match us, hl with | [_], _ => rfl
  have F_Store___init__ := fun_mk (st := s_Store___init__) l_Store___init__ c_Store___init__ k_Store___init__
  have B_Store___init__ := F_Store___init__.binds (ps := ["self", "policy"]) fun _ _ _ _ _ _ us hl => match us, hl with | [_, _], _ => rfl
  have F_Store_read : FunD K "read" "Store.read" (defArgs s_Store_read) (defBody s_Store_read) (defScope s_Store_read) [] [("moment", .non)] f_Store_read _ := ⟨⟨_, _, _, _, _, _, _, _, _, _, rfl, l_Store_read, c_Store_read, .inl ⟨rfl, rfl⟩, .inr ⟨_, rfl, by simp only [List.forall_mem_cons, List.not_mem_nil, false_implies, implies_true, and_true]; exact ⟨_, kq_Store_read_moment, rfl⟩⟩⟩, k_Store_read⟩
  obtain ⟨D_Store_read, V_Store_read, B_Store_read⟩ := F_Store_read.binds0 (ps := ["self", "key", "moment"]) 2 (by simp) rfl fun _ _ _ _ _ _ us ks hl h2 => match us, hl, ks, h2 with | [_, _], _, [_], _ => ⟨_, _, _, _, _, _, rfl, rfl, rfl⟩
  have F_Store_flushes_until := fun_mk (st := s_Store_flushes_until) l_Store_flushes_until c_Store_flushes_until k_Store_flushes_until
  have B_Store_flushes_until := F_Store_flushes_until.binds (ps := ["self", "moment"]) fun _ _ _ _ _ _ us hl => match us, hl with | [_, _], _ => rfl
  have F_Store_check_moment := fun_mk (st := s_Store_check_moment) l_Store_check_moment c_Store_check_moment k_Store_check_moment
  have B_Store_check_moment := F_Store_check_moment.binds (ps := ["self", "moment"]) fun _ _ _ _ _ _ us hl => match us, hl with | [_, _], _ => rfl
  have F_Store_visited := fun_mk (st := s_Store_visited) l_Store_visited c_Store_visited k_Store_visited
  have B_Store_visited := F_Store_visited.binds (ps := ["self"]) fun _ _ _ _ _ _ us hl => match us, hl with | [_], _ => rfl
  have F_Store_present : FunD K "present" "Store.present" (defArgs s_Store_present) (defBody s_Store_present) (defScope s_Store_present) [] [("moment", .non)] f_Store_present _ := ⟨⟨_, _, _, _, _, _, _, _, _, _, rfl, l_Store_present, c_Store_present, .inl ⟨rfl, rfl⟩, .inr ⟨_, rfl, by simp only [List.forall_mem_cons, List.not_mem_nil, false_implies, implies_true, and_true]; exact ⟨_, kq_Store_present_moment, rfl⟩⟩⟩, k_Store_present⟩
  obtain ⟨D_Store_present, V_Store_present, B_Store_present⟩ := F_Store_present.binds0 (ps := ["self", "moment"]) 1 (by simp) rfl fun _ _ _ _ _ _ us ks hl h2 => match us, hl, ks, h2 with | [_], _, [_], _ => ⟨_, _, _, _, _, _, rfl, rfl, rfl⟩
  have KB_Store_present_moment : KBn K _ ["self", "moment"] 1 ["moment"] gA gA := kbB F_Store_present 1 fun _ _ _ _ _ _ us ws hl h3 => match us, hl, ws, h3 with | [_], _, [_], _ => rfl
  have F_Store_stack := fun_mk (st := s_Store_stack) l_Store_stack c_Store_stack k_Store_stack
  have B_Store_stack := F_Store_stack.binds (ps := ["self"]) fun _ _ _ _ _ _ us hl => match us, hl with | [_], _ => rfl
  have F_Store_state := fun_mk (st := s_Store_state) l_Store_state c_Store_state k_Store_state
  have B_Store_state := F_Store_state.binds (ps := ["self"]) fun _ _ _ _ _ _ us hl => match us, hl with | [_], _ => rfl
  have F_Store_schedule := fun_mk (st := s_Store_schedule) l_Store_schedule c_Store_schedule k_Store_schedule
  have B_Store_schedule := F_Store_schedule.binds (ps := ["self"]) fun _ _ _ _ _ _ us hl => match us, hl with | [_], _ => rfl
  have F_Store_sizes := fun_mk (st := s_Store_sizes) l_Store_sizes c_Store_sizes k_Store_sizes
  have B_Store_sizes := F_Store_sizes.binds (ps := ["self"]) fun _ _ _ _ _ _ us hl => match us, hl with | [_], _ => rfl
  have F_Store_written := fun_mk (st := s_Store_written) l_Store_written c_Store_written k_Store_written
  have B_Store_written := F_Store_written.binds (ps := ["self"]) fun _ _ _ _ _ _ us hl => match us, hl with | [_], _ => rfl
  have F_Store_pending := fun_mk (st := s_Store_pending) l_Store_pending c_Store_pending k_Store_pending
  have B_Store_pending := F_Store_pending.binds (ps := ["self"]) fun _ _ _ _ _ _ us hl => match us, hl with | [_], _ => rfl
  have F_Store_policy := fun_mk (st := s_Store_policy) l_Store_policy c_Store_policy k_Store_policy
  have B_Store_policy := F_Store_policy.binds (ps := ["self"]) fun _ _ _ _ _ _ us hl => match us, hl with | [_], _ => rfl
  have F_Store_undo := fun_mk (st := s_Store_undo) l_Store_undo c_Store_undo k_Store_undo
  have B_Store_undo := F_Store_undo.binds (ps := ["self"]) fun _ _ _ _ _ _ us hl => match us, hl with | [_], _ => rfl
  have F_Store___len__ := fun_mk (st := s_Store___len__) l_Store___len__ c_Store___len__ k_Store___len__
  have B_Store___len__ := F_Store___len__.binds (ps := ["self"]) fun _ _ _ _ _ _ us hl => match us, hl with | [_], _ => rfl
  have F_L_start_draws := fun_mk (st := s_L_start_draws) l_L_start_draws c_L_start_draws k_L_start_draws
  have B_L_start_draws := F_L_start_draws.binds (ps := ["_law_script", "_law_nth"]) fun _ _ _ _ _ _ us hl => match us, hl with | [_, _], _ => rfl
  have F_L_next := fun_mk (st := s_L_next) l_L_next c_L_next k_L_next
  have B_L_next := F_L_next.binds (ps := ["_law_deal", "_law_upto"]) fun _ _ _ _ _ _ us hl => match us, hl with | [_, _], _ => rfl
  have F_L_pick := fun_mk (st := s_L_pick) l_L_pick c_L_pick k_L_pick
  have B_L_pick := F_L_pick.binds (ps := ["_law_deal", "_law_some"]) fun _ _ _ _ _ _ us hl => match us, hl with | [_, _], _ => rfl
  have F_L_odd := fun_mk (st := s_L_odd) l_L_odd c_L_odd k_L_odd
  have B_L_odd := F_L_odd.binds (ps := ["_law_deal"]) fun _ _ _ _ _ _ us hl => match us, hl with | [_], _ => rfl
  have F_L_refusal := fun_mk (st := s_L_refusal) l_L_refusal c_L_refusal k_L_refusal
  have B_L_refusal := F_L_refusal.binds (ps := ["_law_ask"]) fun _ _ _ _ _ _ us hl => match us, hl with | [_], _ => rfl
  have F_L_is_policy := fun_mk (st := s_L_is_policy) l_L_is_policy c_L_is_policy k_L_is_policy
  have B_L_is_policy := F_L_is_policy.binds (ps := ["_law_thing"]) fun _ _ _ _ _ _ us hl => match us, hl with | [_], _ => rfl
  have F_L_some_rule := fun_mk (st := s_L_some_rule) l_L_some_rule c_L_some_rule k_L_some_rule
  have B_L_some_rule := F_L_some_rule.binds (ps := ["_law_deal"]) fun _ _ _ _ _ _ us hl => match us, hl with | [_], _ => rfl
  have F_L_right := fun_mk (st := s_L_right) l_L_right c_L_right k_L_right
  have B_L_right := F_L_right.binds (ps := ["_law_thing"]) fun _ _ _ _ _ _ us hl => match us, hl with | [_], _ => rfl
  have F_law := fun_mk (st := s_law) l_law c_law k_law
  have B_law := F_law.binds (ps := ["_law_script"]) fun _ _ _ _ _ _ us hl => match us, hl with | [_], _ => rfl
  have FI_InvalidSchedule := fun_mk (st := s_init_InvalidSchedule) il_InvalidSchedule ie_InvalidSchedule ik_InvalidSchedule
  have BI_InvalidSchedule := FI_InvalidSchedule.binds (ps := ["self", "value"]) fun _ _ _ _ _ _ us hl => match us, hl with | [_, _], _ => rfl
  have FI_InvalidCount := fun_mk (st := s_init_InvalidCount) il_InvalidCount ie_InvalidCount ik_InvalidCount
  have BI_InvalidCount := FI_InvalidCount.binds (ps := ["self", "value"]) fun _ _ _ _ _ _ us hl => match us, hl with | [_, _], _ => rfl
  have FI_InvalidBudget := fun_mk (st := s_init_InvalidBudget) il_InvalidBudget ie_InvalidBudget ik_InvalidBudget
  have BI_InvalidBudget := FI_InvalidBudget.binds (ps := ["self", "value"]) fun _ _ _ _ _ _ us hl => match us, hl with | [_, _], _ => rfl
  have FI_InvalidSizes := fun_mk (st := s_init_InvalidSizes) il_InvalidSizes ie_InvalidSizes ik_InvalidSizes
  have BI_InvalidSizes := FI_InvalidSizes.binds (ps := ["self", "value"]) fun _ _ _ _ _ _ us hl => match us, hl with | [_, _], _ => rfl
  have FI_InvalidReads := fun_mk (st := s_init_InvalidReads) il_InvalidReads ie_InvalidReads ik_InvalidReads
  have BI_InvalidReads := FI_InvalidReads.binds (ps := ["self", "value"]) fun _ _ _ _ _ _ us hl => match us, hl with | [_, _], _ => rfl
  have FI_InvalidState := fun_mk (st := s_init_InvalidState) il_InvalidState ie_InvalidState ik_InvalidState
  have BI_InvalidState := FI_InvalidState.binds (ps := ["self", "value"]) fun _ _ _ _ _ _ us hl => match us, hl with | [_, _], _ => rfl
  have FI_InvalidMerge := fun_mk (st := s_init_InvalidMerge) il_InvalidMerge ie_InvalidMerge ik_InvalidMerge
  have BI_InvalidMerge := FI_InvalidMerge.binds (ps := ["self", "value"]) fun _ _ _ _ _ _ us hl => match us, hl with | [_, _], _ => rfl
  have FI_InvalidPolicy := fun_mk (st := s_init_InvalidPolicy) il_InvalidPolicy ie_InvalidPolicy ik_InvalidPolicy
  have BI_InvalidPolicy := FI_InvalidPolicy.binds (ps := ["self", "value"]) fun _ _ _ _ _ _ us hl => match us, hl with | [_, _], _ => rfl
  have FI_InvalidKey := fun_mk (st := s_init_InvalidKey) il_InvalidKey ie_InvalidKey ik_InvalidKey
  have BI_InvalidKey := FI_InvalidKey.binds (ps := ["self", "value"]) fun _ _ _ _ _ _ us hl => match us, hl with | [_, _], _ => rfl
  have FI_InvalidValue := fun_mk (st := s_init_InvalidValue) il_InvalidValue ie_InvalidValue ik_InvalidValue
  have BI_InvalidValue := FI_InvalidValue.binds (ps := ["self", "value"]) fun _ _ _ _ _ _ us hl => match us, hl with | [_, _], _ => rfl
  have FI_InvalidMoment := fun_mk (st := s_init_InvalidMoment) il_InvalidMoment ie_InvalidMoment ik_InvalidMoment
  have BI_InvalidMoment := FI_InvalidMoment.binds (ps := ["self", "value"]) fun _ _ _ _ _ _ us hl => match us, hl with | [_, _], _ => rfl
  have FI_InvalidText := fun_mk (st := s_init_InvalidText) il_InvalidText ie_InvalidText ik_InvalidText
  have BI_InvalidText := FI_InvalidText.binds (ps := ["self", "value"]) fun _ _ _ _ _ _ us hl => match us, hl with | [_, _], _ => rfl
  have FI_InvalidLine := fun_mk (st := s_init_InvalidLine) il_InvalidLine ie_InvalidLine ik_InvalidLine
  have BI_InvalidLine := FI_InvalidLine.binds (ps := ["self", "value"]) fun _ _ _ _ _ _ us hl => match us, hl with | [_, _], _ => rfl
  have KT := kitB_mk (K := K) (m := C_MergeBudgetError) [(C_InvalidSchedule, kd_InvalidSchedule), (C_InvalidCount, kd_InvalidCount), (C_InvalidBudget, kd_InvalidBudget), (C_InvalidSizes, kd_InvalidSizes), (C_InvalidReads, kd_InvalidReads), (C_InvalidState, kd_InvalidState), (C_InvalidMerge, kd_InvalidMerge), (C_InvalidPolicy, kd_InvalidPolicy), (C_InvalidKey, kd_InvalidKey), (C_InvalidValue, kd_InvalidValue), (C_InvalidMoment, kd_InvalidMoment), (C_InvalidText, kd_InvalidText), (C_InvalidLine, kd_InvalidLine), (C_Exhausted, kd_Exhausted), (C_NothingToUndo, kd_NothingToUndo)] (by simp only [List.forall_mem_cons, List.not_mem_nil, false_implies, implies_true, and_true]; exact ⟨⟨kl_InvalidSchedule, kt_InvalidSchedule⟩, ⟨kl_InvalidCount, kt_InvalidCount⟩, ⟨kl_InvalidBudget, kt_InvalidBudget⟩, ⟨kl_InvalidSizes, kt_InvalidSizes⟩, ⟨kl_InvalidReads, kt_InvalidReads⟩, ⟨kl_InvalidState, kt_InvalidState⟩, ⟨kl_InvalidMerge, kt_InvalidMerge⟩, ⟨kl_InvalidPolicy, kt_InvalidPolicy⟩, ⟨kl_InvalidKey, kt_InvalidKey⟩, ⟨kl_InvalidValue, kt_InvalidValue⟩, ⟨kl_InvalidMoment, kt_InvalidMoment⟩, ⟨kl_InvalidText, kt_InvalidText⟩, ⟨kl_InvalidLine, kt_InvalidLine⟩, ⟨kl_Exhausted, kt_Exhausted⟩, ⟨kl_NothingToUndo, kt_NothingToUndo⟩⟩) kl_MergeBudgetError kt_MergeBudgetError kits
  let TX : Tx K mg := ⟨_, PySem.W.mg_of X G ac_Store, ⟨pg_Store, hd_Store, po_Store, sa_Store⟩, _, _, F_is_int, PySem.W.mg_of X G a_is_int, B_is_int, _, _, F_is_count, PySem.W.mg_of X G a_is_count, B_is_count, _, _, F_is_count_up_to, PySem.W.mg_of X G a_is_count_up_to, B_is_count_up_to, _, _, F_are_loads, PySem.W.mg_of X G a_are_loads, B_are_loads, _, _, F_check_sizes, PySem.W.mg_of X G a_check_sizes, B_check_sizes, _, _, F_is_schedule, PySem.W.mg_of X G a_is_schedule, B_is_schedule, _, _, F_stacks, PySem.W.mg_of X G a_stacks, B_stacks, _, _, F_stack_after, PySem.W.mg_of X G a_stack_after, B_stack_after, _, _, F_writes, PySem.W.mg_of X G a_writes, B_writes, _, _, F_state_of, PySem.W.mg_of X G a_state_of, B_state_of, _, _, F_state_after, PySem.W.mg_of X G a_state_after, B_state_after, _, _, F_write_work, PySem.W.mg_of X G a_write_work, B_write_work, _, _, F_weighted, PySem.W.mg_of X G a_weighted, B_weighted, _, _, F_is_key, PySem.W.mg_of X G a_is_key, B_is_key, _, _, F_check_key, PySem.W.mg_of X G a_check_key, B_check_key, _, _, F_is_policy, PySem.W.mg_of X G a_is_policy, B_is_policy, _, _, F_ascending_pairs, PySem.W.mg_of X G a_ascending_pairs, B_ascending_pairs, _, _, F_Store___init__, B_Store___init__, ⟨mm_Store, a_Store___init__, if_Store___init__, kc_Store⟩, _, _, F_Store_read, _, V_Store_read, B_Store_read, ⟨a_Store_read, if_Store_read, k_Store_read⟩, _, _, F_Store_flushes_until, B_Store_flushes_until, ⟨a_Store_flushes_until, if_Store_flushes_until, k_Store_flushes_until⟩, _, _, F_Store_check_moment, B_Store_check_moment, ⟨a_Store_check_moment, if_Store_check_moment, k_Store_check_moment⟩, _, _, F_Store_visited, B_Store_visited, ⟨a_Store_visited, if_Store_visited, k_Store_visited⟩, _, _, F_Store_present, _, V_Store_present, B_Store_present, ⟨a_Store_present, if_Store_present, k_Store_present⟩, KB_Store_present_moment, _, _, F_Store_stack, B_Store_stack, ⟨a_Store_stack, if_Store_stack, k_Store_stack⟩, _, _, F_Store_state, B_Store_state, ⟨a_Store_state, if_Store_state, k_Store_state⟩, _, _, F_Store_schedule, B_Store_schedule, ⟨a_Store_schedule, if_Store_schedule, k_Store_schedule⟩, _, _, F_Store_sizes, B_Store_sizes, ⟨a_Store_sizes, if_Store_sizes, k_Store_sizes⟩, _, _, F_Store_written, B_Store_written, ⟨a_Store_written, if_Store_written, k_Store_written⟩, _, _, F_Store_pending, B_Store_pending, ⟨a_Store_pending, if_Store_pending, k_Store_pending⟩, _, _, F_Store_policy, B_Store_policy, ⟨a_Store_policy, if_Store_policy, k_Store_policy⟩, _, _, F_Store_undo, B_Store_undo, ⟨a_Store_undo, if_Store_undo, k_Store_undo⟩, _, _, F_Store___len__, B_Store___len__, ⟨a_Store___len__, if_Store___len__, k_Store___len__⟩, _, _, F_L_start_draws, PySem.W.mg_of X G a_L_start_draws, B_L_start_draws, _, _, F_L_next, PySem.W.mg_of X G a_L_next, B_L_next, _, _, F_L_pick, PySem.W.mg_of X G a_L_pick, B_L_pick, _, _, F_L_odd, PySem.W.mg_of X G a_L_odd, B_L_odd, _, _, F_L_refusal, PySem.W.mg_of X G a_L_refusal, B_L_refusal, _, _, F_L_is_policy, PySem.W.mg_of X G a_L_is_policy, B_L_is_policy, _, _, F_L_some_rule, PySem.W.mg_of X G a_L_some_rule, B_L_some_rule, _, _, F_L_right, PySem.W.mg_of X G a_L_right, B_L_right, _, _, F_law, PySem.W.mg_of X G a_law, B_law, na_Store_rule, na_Store_merges, na_Store_batches, na_Store_buffer, na_Store_history, na_Store_searched, w.params, _, PySem.W.mg_of X G ad_POLICIES, _, _, kl_POLICIES, ks_POLICIES, kn_POLICIES, ko_POLICIES_0, ko_POLICIES_1, ko_POLICIES_2, ko_POLICIES_3, ⟨_, ke_POLICIES_manual⟩, ⟨_, ke_POLICIES_runs⟩, ⟨_, ke_POLICIES_budget⟩, PySem.W.mg_none_of X G z_isinstance, PySem.W.mg_none_of X G z_int, PySem.W.mg_none_of X G z_bool, PySem.W.mg_none_of X G z_all, PySem.W.mg_none_of X G z_tuple, PySem.W.mg_none_of X G z_len, PySem.W.mg_none_of X G z_enumerate, PySem.W.mg_none_of X G z_range, PySem.W.mg_none_of X G z_max, PySem.W.mg_none_of X G z_sum, PySem.W.mg_none_of X G z_zip, PySem.W.mg_none_of X G z_str, PySem.W.mg_none_of X G z_sorted, PySem.W.mg_none_of X G z_list, PySem.W.mg_none_of X G z_reversed, PySem.W.mg_none_of X G z_min, PySem.W.mg_none_of X G z_abs, PySem.W.mg_none_of X G z_ValueError, PySem.W.mg_none_of X G z_repr, _, PySem.W.mg_of X G ac_MergeBudgetError, kc_MergeBudgetError, ⟨xp_MergeBudgetError, xq_MergeBudgetError, xr_MergeBudgetError, xs_MergeBudgetError, xt_MergeBudgetError, gsp, gta, xu_MergeBudgetError⟩, ⟨xp_MergeBudgetError, xq_MergeBudgetError, xr_MergeBudgetError, xs_MergeBudgetError⟩, xi_MergeBudgetError, _, PySem.W.mg_of X G ac_InvalidSchedule, kc_InvalidSchedule, ⟨xp_InvalidSchedule, xq_InvalidSchedule, xr_InvalidSchedule, xs_InvalidSchedule, xt_InvalidSchedule, gsp, gta, xu_InvalidSchedule⟩, ⟨xp_InvalidSchedule, xq_InvalidSchedule, xr_InvalidSchedule, xs_InvalidSchedule⟩, ⟨⟨_, _, _, _, _, _, _, _, _, _, _, _, _, _, _, xL_InvalidSchedule, rv_InvalidSchedule⟩, oa_InvalidSchedule, xr_InvalidSchedule, kt_InvalidSchedule, kc_InvalidSchedule⟩, oe_InvalidSchedule, _, _, ic_InvalidSchedule, of_InvalidSchedule, FI_InvalidSchedule, BI_InvalidSchedule, _, PySem.W.mg_of X G ac_InvalidCount, kc_InvalidCount, ⟨xp_InvalidCount, xq_InvalidCount, xr_InvalidCount, xs_InvalidCount, xt_InvalidCount, gsp, gta, xu_InvalidCount⟩, ⟨xp_InvalidCount, xq_InvalidCount, xr_InvalidCount, xs_InvalidCount⟩, ⟨⟨_, _, _, _, _, _, _, _, _, _, _, _, _, _, _, xL_InvalidCount, rv_InvalidCount⟩, oa_InvalidCount, xr_InvalidCount, kt_InvalidCount, kc_InvalidCount⟩, oe_InvalidCount, _, _, ic_InvalidCount, of_InvalidCount, FI_InvalidCount, BI_InvalidCount, _, PySem.W.mg_of X G ac_InvalidBudget, kc_InvalidBudget, ⟨xp_InvalidBudget, xq_InvalidBudget, xr_InvalidBudget, xs_InvalidBudget, xt_InvalidBudget, gsp, gta, xu_InvalidBudget⟩, ⟨xp_InvalidBudget, xq_InvalidBudget, xr_InvalidBudget, xs_InvalidBudget⟩, ⟨⟨_, _, _, _, _, _, _, _, _, _, _, _, _, _, _, xL_InvalidBudget, rv_InvalidBudget⟩, oa_InvalidBudget, xr_InvalidBudget, kt_InvalidBudget, kc_InvalidBudget⟩, oe_InvalidBudget, _, _, ic_InvalidBudget, of_InvalidBudget, FI_InvalidBudget, BI_InvalidBudget, _, PySem.W.mg_of X G ac_InvalidSizes, kc_InvalidSizes, ⟨xp_InvalidSizes, xq_InvalidSizes, xr_InvalidSizes, xs_InvalidSizes, xt_InvalidSizes, gsp, gta, xu_InvalidSizes⟩, ⟨xp_InvalidSizes, xq_InvalidSizes, xr_InvalidSizes, xs_InvalidSizes⟩, ⟨⟨_, _, _, _, _, _, _, _, _, _, _, _, _, _, _, xL_InvalidSizes, rv_InvalidSizes⟩, oa_InvalidSizes, xr_InvalidSizes, kt_InvalidSizes, kc_InvalidSizes⟩, oe_InvalidSizes, _, _, ic_InvalidSizes, of_InvalidSizes, FI_InvalidSizes, BI_InvalidSizes, _, PySem.W.mg_of X G ac_InvalidReads, kc_InvalidReads, ⟨xp_InvalidReads, xq_InvalidReads, xr_InvalidReads, xs_InvalidReads, xt_InvalidReads, gsp, gta, xu_InvalidReads⟩, ⟨xp_InvalidReads, xq_InvalidReads, xr_InvalidReads, xs_InvalidReads⟩, ⟨⟨_, _, _, _, _, _, _, _, _, _, _, _, _, _, _, xL_InvalidReads, rv_InvalidReads⟩, oa_InvalidReads, xr_InvalidReads, kt_InvalidReads, kc_InvalidReads⟩, oe_InvalidReads, _, _, ic_InvalidReads, of_InvalidReads, FI_InvalidReads, BI_InvalidReads, _, PySem.W.mg_of X G ac_InvalidState, kc_InvalidState, ⟨xp_InvalidState, xq_InvalidState, xr_InvalidState, xs_InvalidState, xt_InvalidState, gsp, gta, xu_InvalidState⟩, ⟨xp_InvalidState, xq_InvalidState, xr_InvalidState, xs_InvalidState⟩, ⟨⟨_, _, _, _, _, _, _, _, _, _, _, _, _, _, _, xL_InvalidState, rv_InvalidState⟩, oa_InvalidState, xr_InvalidState, kt_InvalidState, kc_InvalidState⟩, oe_InvalidState, _, _, ic_InvalidState, of_InvalidState, FI_InvalidState, BI_InvalidState, _, PySem.W.mg_of X G ac_InvalidMerge, kc_InvalidMerge, ⟨xp_InvalidMerge, xq_InvalidMerge, xr_InvalidMerge, xs_InvalidMerge, xt_InvalidMerge, gsp, gta, xu_InvalidMerge⟩, ⟨xp_InvalidMerge, xq_InvalidMerge, xr_InvalidMerge, xs_InvalidMerge⟩, ⟨⟨_, _, _, _, _, _, _, _, _, _, _, _, _, _, _, xL_InvalidMerge, rv_InvalidMerge⟩, oa_InvalidMerge, xr_InvalidMerge, kt_InvalidMerge, kc_InvalidMerge⟩, oe_InvalidMerge, _, _, ic_InvalidMerge, of_InvalidMerge, FI_InvalidMerge, BI_InvalidMerge, _, PySem.W.mg_of X G ac_InvalidPolicy, kc_InvalidPolicy, ⟨xp_InvalidPolicy, xq_InvalidPolicy, xr_InvalidPolicy, xs_InvalidPolicy, xt_InvalidPolicy, gsp, gta, xu_InvalidPolicy⟩, ⟨xp_InvalidPolicy, xq_InvalidPolicy, xr_InvalidPolicy, xs_InvalidPolicy⟩, ⟨⟨_, _, _, _, _, _, _, _, _, _, _, _, _, _, _, xL_InvalidPolicy, rv_InvalidPolicy⟩, oa_InvalidPolicy, xr_InvalidPolicy, kt_InvalidPolicy, kc_InvalidPolicy⟩, oe_InvalidPolicy, _, _, ic_InvalidPolicy, of_InvalidPolicy, FI_InvalidPolicy, BI_InvalidPolicy, _, PySem.W.mg_of X G ac_InvalidKey, kc_InvalidKey, ⟨xp_InvalidKey, xq_InvalidKey, xr_InvalidKey, xs_InvalidKey, xt_InvalidKey, gsp, gta, xu_InvalidKey⟩, ⟨xp_InvalidKey, xq_InvalidKey, xr_InvalidKey, xs_InvalidKey⟩, ⟨⟨_, _, _, _, _, _, _, _, _, _, _, _, _, _, _, xL_InvalidKey, rv_InvalidKey⟩, oa_InvalidKey, xr_InvalidKey, kt_InvalidKey, kc_InvalidKey⟩, oe_InvalidKey, _, _, ic_InvalidKey, of_InvalidKey, FI_InvalidKey, BI_InvalidKey, _, PySem.W.mg_of X G ac_InvalidValue, kc_InvalidValue, ⟨xp_InvalidValue, xq_InvalidValue, xr_InvalidValue, xs_InvalidValue, xt_InvalidValue, gsp, gta, xu_InvalidValue⟩, ⟨xp_InvalidValue, xq_InvalidValue, xr_InvalidValue, xs_InvalidValue⟩, ⟨⟨_, _, _, _, _, _, _, _, _, _, _, _, _, _, _, xL_InvalidValue, rv_InvalidValue⟩, oa_InvalidValue, xr_InvalidValue, kt_InvalidValue, kc_InvalidValue⟩, oe_InvalidValue, _, _, ic_InvalidValue, of_InvalidValue, FI_InvalidValue, BI_InvalidValue, _, PySem.W.mg_of X G ac_InvalidMoment, kc_InvalidMoment, ⟨xp_InvalidMoment, xq_InvalidMoment, xr_InvalidMoment, xs_InvalidMoment, xt_InvalidMoment, gsp, gta, xu_InvalidMoment⟩, ⟨xp_InvalidMoment, xq_InvalidMoment, xr_InvalidMoment, xs_InvalidMoment⟩, ⟨⟨_, _, _, _, _, _, _, _, _, _, _, _, _, _, _, xL_InvalidMoment, rv_InvalidMoment⟩, oa_InvalidMoment, xr_InvalidMoment, kt_InvalidMoment, kc_InvalidMoment⟩, oe_InvalidMoment, _, _, ic_InvalidMoment, of_InvalidMoment, FI_InvalidMoment, BI_InvalidMoment, _, PySem.W.mg_of X G ac_InvalidText, kc_InvalidText, ⟨xp_InvalidText, xq_InvalidText, xr_InvalidText, xs_InvalidText, xt_InvalidText, gsp, gta, xu_InvalidText⟩, ⟨xp_InvalidText, xq_InvalidText, xr_InvalidText, xs_InvalidText⟩, ⟨⟨_, _, _, _, _, _, _, _, _, _, _, _, _, _, _, xL_InvalidText, rv_InvalidText⟩, oa_InvalidText, xr_InvalidText, kt_InvalidText, kc_InvalidText⟩, oe_InvalidText, _, _, ic_InvalidText, of_InvalidText, FI_InvalidText, BI_InvalidText, _, PySem.W.mg_of X G ac_InvalidLine, kc_InvalidLine, ⟨xp_InvalidLine, xq_InvalidLine, xr_InvalidLine, xs_InvalidLine, xt_InvalidLine, gsp, gta, xu_InvalidLine⟩, ⟨xp_InvalidLine, xq_InvalidLine, xr_InvalidLine, xs_InvalidLine⟩, ⟨⟨_, _, _, _, _, _, _, _, _, _, _, _, _, _, _, xL_InvalidLine, rv_InvalidLine⟩, oa_InvalidLine, xr_InvalidLine, kt_InvalidLine, kc_InvalidLine⟩, oe_InvalidLine, _, _, ic_InvalidLine, of_InvalidLine, FI_InvalidLine, BI_InvalidLine, _, PySem.W.mg_of X G ac_Exhausted, kc_Exhausted, ⟨xp_Exhausted, xq_Exhausted, xr_Exhausted, xs_Exhausted, xt_Exhausted, gsp, gta, xu_Exhausted⟩, ⟨xp_Exhausted, xq_Exhausted, xr_Exhausted, xs_Exhausted⟩, xi_Exhausted, _, PySem.W.mg_of X G ac_NothingToUndo, kc_NothingToUndo, ⟨xp_NothingToUndo, xq_NothingToUndo, xr_NothingToUndo, xs_NothingToUndo, xt_NothingToUndo, gsp, gta, xu_NothingToUndo⟩, ⟨xp_NothingToUndo, xq_NothingToUndo, xr_NothingToUndo, xs_NothingToUndo⟩, xi_NothingToUndo, KT, of_decide_eq_true kitn, of_decide_eq_false kitz, cdA_L_right, ptA_L_right, ⟨_, _, _, _, _, _, _, _, rfl, l_L_right, c_L_right⟩, _, PySem.W.mg_of X G y_MOST_BUDGET, _, PySem.W.mg_of X G y_MOST_LOAD, _, PySem.W.mg_of X G y_MOST_FLUSHES, _, PySem.W.mg_of X G y_MOST_POSITION, _, PySem.W.mg_of X G y_MOST_LETTERS⟩
  have : WP w TX := ⟨rfl⟩
  exact ⟨TX.fd_law, [(cdA_L_right, ptA_L_right)], (fun p hp => by rcases List.mem_cons.mp hp with e | hp; (rw [e]; exact tbA _ (by simp)); cases hp), (fun p hp => by rcases List.mem_cons.mp hp with e | hp; (rw [e]; exact ntA_L_right); cases hp), (fun p hp => by rcases List.mem_cons.mp hp with e | hp; (rw [e]; exact PySem.W.codeHd_of_K X hdA_L_right); cases hp), (fun p hp => by rcases List.mem_cons.mp hp with e | hp; (rw [e]; exact of_decide_eq_true nyA_L_right); cases hp), fun s v => .of_eq rfl, fun base _ _ tb => ok_law TX (tb (cdA_L_right, ptA_L_right) (by simp)), fun H a ns o h1 h2 h3 h3b h4 => ⟨a, ns, o, rfl, h2, h1, h3, h3b, h4, fun _ => rfl⟩⟩
end MB
open PySem PySem.W PyProof.Rows
set_option maxHeartbeats 0 in
theorem PySem.Challenge.cw_mergebudget_k51_stores_created_holds : PySem.Challenge.rw_mergebudget_k51_stores_created.Holds := by
  w_on; o_law; k_head; (case hw => w_witness2)
  k_fill
  refine MB.walk_ofT (l := PySem.Challenge.rw_mergebudget_k51_stores_created) (n := 63) (k := 13) (x := "_law_script") (sp := MB.sp_law) rfl (by decide) rfl ⟨rfl, by decide, by decide⟩ (by decide +kernel) ?KS (fun w h Y => PySem.W.km_in_of Y) ?F
  case F =>
    intro w mg fa h Y KX G hmg
    refine' MB.all_mk KX G hmg ?ac_Store ?pg_Store ?hd_Store ?po_Store ?sa_Store ?mm_Store ?kc_Store ?na_Store_rule ?na_Store_merges ?na_Store_batches ?na_Store_buffer ?na_Store_history ?na_Store_searched ?ad_POLICIES ?kl_POLICIES ?ks_POLICIES ?kn_POLICIES ?ko_POLICIES_0 ?ko_POLICIES_1 ?ko_POLICIES_2 ?ko_POLICIES_3 ?ke_POLICIES_manual ?ke_POLICIES_runs ?ke_POLICIES_budget ?a_is_int ?l_is_int ?c_is_int ?k_is_int ?a_is_count ?l_is_count ?c_is_count ?k_is_count ?a_is_count_up_to ?l_is_count_up_to ?c_is_count_up_to ?k_is_count_up_to ?a_are_loads ?l_are_loads ?c_are_loads ?k_are_loads ?a_check_sizes ?l_check_sizes ?c_check_sizes ?k_check_sizes ?a_is_schedule ?l_is_schedule ?c_is_schedule ?k_is_schedule ?a_stacks ?l_stacks ?c_stacks ?k_stacks ?a_stack_after ?l_stack_after ?c_stack_after ?k_stack_after ?a_writes ?l_writes ?c_writes ?k_writes ?a_state_of ?l_state_of ?c_state_of ?k_state_of ?a_state_after ?l_state_after ?c_state_after ?k_state_after ?a_write_work ?l_write_work ?c_write_work ?k_write_work ?a_weighted ?l_weighted ?c_weighted ?k_weighted ?a_is_key ?l_is_key ?c_is_key ?k_is_key ?a_check_key ?l_check_key ?c_check_key ?k_check_key ?a_is_policy ?l_is_policy ?c_is_policy ?k_is_policy ?a_ascending_pairs ?l_ascending_pairs ?c_ascending_pairs ?k_ascending_pairs ?a_Store___init__ ?if_Store___init__ ?l_Store___init__ ?c_Store___init__ ?k_Store___init__ ?kq_Store_read_moment ?a_Store_read ?if_Store_read ?l_Store_read ?c_Store_read ?k_Store_read ?a_Store_flushes_until ?if_Store_flushes_until ?l_Store_flushes_until ?c_Store_flushes_until ?k_Store_flushes_until ?a_Store_check_moment ?if_Store_check_moment ?l_Store_check_moment ?c_Store_check_moment ?k_Store_check_moment ?a_Store_visited ?if_Store_visited ?l_Store_visited ?c_Store_visited ?k_Store_visited ?kq_Store_present_moment ?a_Store_present ?if_Store_present ?l_Store_present ?c_Store_present ?k_Store_present ?a_Store_stack ?if_Store_stack ?l_Store_stack ?c_Store_stack ?k_Store_stack ?a_Store_state ?if_Store_state ?l_Store_state ?c_Store_state ?k_Store_state ?a_Store_schedule ?if_Store_schedule ?l_Store_schedule ?c_Store_schedule ?k_Store_schedule ?a_Store_sizes ?if_Store_sizes ?l_Store_sizes ?c_Store_sizes ?k_Store_sizes ?a_Store_written ?if_Store_written ?l_Store_written ?c_Store_written ?k_Store_written ?a_Store_pending ?if_Store_pending ?l_Store_pending ?c_Store_pending ?k_Store_pending ?a_Store_policy ?if_Store_policy ?l_Store_policy ?c_Store_policy ?k_Store_policy ?a_Store_undo ?if_Store_undo ?l_Store_undo ?c_Store_undo ?k_Store_undo ?a_Store___len__ ?if_Store___len__ ?l_Store___len__ ?c_Store___len__ ?k_Store___len__ ?a_L_start_draws ?l_L_start_draws ?c_L_start_draws ?k_L_start_draws ?a_L_next ?l_L_next ?c_L_next ?k_L_next ?a_L_pick ?l_L_pick ?c_L_pick ?k_L_pick ?a_L_odd ?l_L_odd ?c_L_odd ?k_L_odd ?a_L_refusal ?l_L_refusal ?c_L_refusal ?k_L_refusal ?a_L_is_policy ?l_L_is_policy ?c_L_is_policy ?k_L_is_policy ?a_L_some_rule ?l_L_some_rule ?c_L_some_rule ?k_L_some_rule ?a_L_right ?l_L_right ?c_L_right ?k_L_right ?a_law ?l_law ?c_law ?k_law ?tbA ?hdA_L_right ?ntA_L_right ?nyA_L_right ?z_isinstance ?z_int ?z_bool ?z_all ?z_tuple ?z_len ?z_enumerate ?z_range ?z_max ?z_sum ?z_zip ?z_str ?z_sorted ?z_list ?z_reversed ?z_min ?z_abs ?z_ValueError ?z_repr ?y_MOST_BUDGET ?y_MOST_LOAD ?y_MOST_FLUSHES ?y_MOST_POSITION ?y_MOST_LETTERS ?ac_MergeBudgetError ?kc_MergeBudgetError ?kl_MergeBudgetError ?kt_MergeBudgetError ?xp_MergeBudgetError ?xq_MergeBudgetError ?xr_MergeBudgetError ?xs_MergeBudgetError ?xt_MergeBudgetError ?xu_MergeBudgetError ?xi_MergeBudgetError ?ac_InvalidSchedule ?kc_InvalidSchedule ?kl_InvalidSchedule ?kt_InvalidSchedule ?xp_InvalidSchedule ?xq_InvalidSchedule ?xr_InvalidSchedule ?xs_InvalidSchedule ?xt_InvalidSchedule ?xu_InvalidSchedule ?xL_InvalidSchedule ?rv_InvalidSchedule ?ic_InvalidSchedule ?oa_InvalidSchedule ?oe_InvalidSchedule ?of_InvalidSchedule ?il_InvalidSchedule ?ie_InvalidSchedule ?ik_InvalidSchedule ?ac_InvalidCount ?kc_InvalidCount ?kl_InvalidCount ?kt_InvalidCount ?xp_InvalidCount ?xq_InvalidCount ?xr_InvalidCount ?xs_InvalidCount ?xt_InvalidCount ?xu_InvalidCount ?xL_InvalidCount ?rv_InvalidCount ?ic_InvalidCount ?oa_InvalidCount ?oe_InvalidCount ?of_InvalidCount ?il_InvalidCount ?ie_InvalidCount ?ik_InvalidCount ?ac_InvalidBudget ?kc_InvalidBudget ?kl_InvalidBudget ?kt_InvalidBudget ?xp_InvalidBudget ?xq_InvalidBudget ?xr_InvalidBudget ?xs_InvalidBudget ?xt_InvalidBudget ?xu_InvalidBudget ?xL_InvalidBudget ?rv_InvalidBudget ?ic_InvalidBudget ?oa_InvalidBudget ?oe_InvalidBudget ?of_InvalidBudget ?il_InvalidBudget ?ie_InvalidBudget ?ik_InvalidBudget ?ac_InvalidSizes ?kc_InvalidSizes ?kl_InvalidSizes ?kt_InvalidSizes ?xp_InvalidSizes ?xq_InvalidSizes ?xr_InvalidSizes ?xs_InvalidSizes ?xt_InvalidSizes ?xu_InvalidSizes ?xL_InvalidSizes ?rv_InvalidSizes ?ic_InvalidSizes ?oa_InvalidSizes ?oe_InvalidSizes ?of_InvalidSizes ?il_InvalidSizes ?ie_InvalidSizes ?ik_InvalidSizes ?ac_InvalidReads ?kc_InvalidReads ?kl_InvalidReads ?kt_InvalidReads ?xp_InvalidReads ?xq_InvalidReads ?xr_InvalidReads ?xs_InvalidReads ?xt_InvalidReads ?xu_InvalidReads ?xL_InvalidReads ?rv_InvalidReads ?ic_InvalidReads ?oa_InvalidReads ?oe_InvalidReads ?of_InvalidReads ?il_InvalidReads ?ie_InvalidReads ?ik_InvalidReads ?ac_InvalidState ?kc_InvalidState ?kl_InvalidState ?kt_InvalidState ?xp_InvalidState ?xq_InvalidState ?xr_InvalidState ?xs_InvalidState ?xt_InvalidState ?xu_InvalidState ?xL_InvalidState ?rv_InvalidState ?ic_InvalidState ?oa_InvalidState ?oe_InvalidState ?of_InvalidState ?il_InvalidState ?ie_InvalidState ?ik_InvalidState ?ac_InvalidMerge ?kc_InvalidMerge ?kl_InvalidMerge ?kt_InvalidMerge ?xp_InvalidMerge ?xq_InvalidMerge ?xr_InvalidMerge ?xs_InvalidMerge ?xt_InvalidMerge ?xu_InvalidMerge ?xL_InvalidMerge ?rv_InvalidMerge ?ic_InvalidMerge ?oa_InvalidMerge ?oe_InvalidMerge ?of_InvalidMerge ?il_InvalidMerge ?ie_InvalidMerge ?ik_InvalidMerge ?ac_InvalidPolicy ?kc_InvalidPolicy ?kl_InvalidPolicy ?kt_InvalidPolicy ?xp_InvalidPolicy ?xq_InvalidPolicy ?xr_InvalidPolicy ?xs_InvalidPolicy ?xt_InvalidPolicy ?xu_InvalidPolicy ?xL_InvalidPolicy ?rv_InvalidPolicy ?ic_InvalidPolicy ?oa_InvalidPolicy ?oe_InvalidPolicy ?of_InvalidPolicy ?il_InvalidPolicy ?ie_InvalidPolicy ?ik_InvalidPolicy ?ac_InvalidKey ?kc_InvalidKey ?kl_InvalidKey ?kt_InvalidKey ?xp_InvalidKey ?xq_InvalidKey ?xr_InvalidKey ?xs_InvalidKey ?xt_InvalidKey ?xu_InvalidKey ?xL_InvalidKey ?rv_InvalidKey ?ic_InvalidKey ?oa_InvalidKey ?oe_InvalidKey ?of_InvalidKey ?il_InvalidKey ?ie_InvalidKey ?ik_InvalidKey ?ac_InvalidValue ?kc_InvalidValue ?kl_InvalidValue ?kt_InvalidValue ?xp_InvalidValue ?xq_InvalidValue ?xr_InvalidValue ?xs_InvalidValue ?xt_InvalidValue ?xu_InvalidValue ?xL_InvalidValue ?rv_InvalidValue ?ic_InvalidValue ?oa_InvalidValue ?oe_InvalidValue ?of_InvalidValue ?il_InvalidValue ?ie_InvalidValue ?ik_InvalidValue ?ac_InvalidMoment ?kc_InvalidMoment ?kl_InvalidMoment ?kt_InvalidMoment ?xp_InvalidMoment ?xq_InvalidMoment ?xr_InvalidMoment ?xs_InvalidMoment ?xt_InvalidMoment ?xu_InvalidMoment ?xL_InvalidMoment ?rv_InvalidMoment ?ic_InvalidMoment ?oa_InvalidMoment ?oe_InvalidMoment ?of_InvalidMoment ?il_InvalidMoment ?ie_InvalidMoment ?ik_InvalidMoment ?ac_InvalidText ?kc_InvalidText ?kl_InvalidText ?kt_InvalidText ?xp_InvalidText ?xq_InvalidText ?xr_InvalidText ?xs_InvalidText ?xt_InvalidText ?xu_InvalidText ?xL_InvalidText ?rv_InvalidText ?ic_InvalidText ?oa_InvalidText ?oe_InvalidText ?of_InvalidText ?il_InvalidText ?ie_InvalidText ?ik_InvalidText ?ac_InvalidLine ?kc_InvalidLine ?kl_InvalidLine ?kt_InvalidLine ?xp_InvalidLine ?xq_InvalidLine ?xr_InvalidLine ?xs_InvalidLine ?xt_InvalidLine ?xu_InvalidLine ?xL_InvalidLine ?rv_InvalidLine ?ic_InvalidLine ?oa_InvalidLine ?oe_InvalidLine ?of_InvalidLine ?il_InvalidLine ?ie_InvalidLine ?ik_InvalidLine ?ac_Exhausted ?kc_Exhausted ?kl_Exhausted ?kt_Exhausted ?xp_Exhausted ?xq_Exhausted ?xr_Exhausted ?xs_Exhausted ?xt_Exhausted ?xu_Exhausted ?xi_Exhausted ?ac_NothingToUndo ?kc_NothingToUndo ?kl_NothingToUndo ?kt_NothingToUndo ?xp_NothingToUndo ?xq_NothingToUndo ?xr_NothingToUndo ?xs_NothingToUndo ?xt_NothingToUndo ?xu_NothingToUndo ?xi_NothingToUndo ?gsp ?gta ?kits ?kitn ?kitz
    (case ac_Store => k_is); (case pg_Store => k_is); (case hd_Store => k_is); (case po_Store => k_is); (case sa_Store => k_is); (case mm_Store => k_is); (case kc_Store => k_is); (case na_Store_rule => k_is); (case na_Store_merges => k_is); (case na_Store_batches => k_is); (case na_Store_buffer => k_is); (case na_Store_history => k_is); (case na_Store_searched => k_is); (case ad_POLICIES => k_is); (case kl_POLICIES => k_is); (case ks_POLICIES => exact ⟨⟨_, _, rfl, rfl⟩, ⟨_, _, rfl, rfl⟩, ⟨_, _, rfl, rfl⟩, trivial⟩); (case kn_POLICIES => first | rfl | decide +kernel | k_is); (case ko_POLICIES_0 => k_is); (case ko_POLICIES_1 => k_is); (case ko_POLICIES_2 => k_is); (case ko_POLICIES_3 => k_is); (case ke_POLICIES_manual => k_is); (case ke_POLICIES_runs => k_is); (case ke_POLICIES_budget => k_is); (case a_is_int => k_is); (case l_is_int => k_is); (case c_is_int => k_is); (case k_is_int => k_is); (case a_is_count => k_is); (case l_is_count => k_is); (case c_is_count => k_is); (case k_is_count => k_is); (case a_is_count_up_to => k_is); (case l_is_count_up_to => k_is); (case c_is_count_up_to => k_is); (case k_is_count_up_to => k_is); (case a_are_loads => k_is); (case l_are_loads => k_is); (case c_are_loads => k_is); (case k_are_loads => k_is); (case a_check_sizes => k_is); (case l_check_sizes => k_is); (case c_check_sizes => k_is); (case k_check_sizes => k_is); (case a_is_schedule => k_is); (case l_is_schedule => k_is); (case c_is_schedule => k_is); (case k_is_schedule => k_is); (case a_stacks => k_is); (case l_stacks => k_is); (case c_stacks => k_is); (case k_stacks => k_is); (case a_stack_after => k_is); (case l_stack_after => k_is); (case c_stack_after => k_is); (case k_stack_after => k_is); (case a_writes => k_is); (case l_writes => k_is); (case c_writes => k_is); (case k_writes => k_is); (case a_state_of => k_is); (case l_state_of => k_is); (case c_state_of => k_is); (case k_state_of => k_is); (case a_state_after => k_is); (case l_state_after => k_is); (case c_state_after => k_is); (case k_state_after => k_is); (case a_write_work => k_is); (case l_write_work => k_is); (case c_write_work => k_is); (case k_write_work => k_is); (case a_weighted => k_is); (case l_weighted => k_is); (case c_weighted => k_is); (case k_weighted => k_is); (case a_is_key => k_is); (case l_is_key => k_is); (case c_is_key => k_is); (case k_is_key => k_is); (case a_check_key => k_is); (case l_check_key => k_is); (case c_check_key => k_is); (case k_check_key => k_is); (case a_is_policy => k_is); (case l_is_policy => k_is); (case c_is_policy => k_is); (case k_is_policy => k_is); (case a_ascending_pairs => k_is); (case l_ascending_pairs => k_is); (case c_ascending_pairs => k_is); (case k_ascending_pairs => k_is); (case a_Store___init__ => k_is); (case if_Store___init__ => k_is); (case l_Store___init__ => k_is); (case c_Store___init__ => k_is); (case k_Store___init__ => k_is); (case a_Store_read => k_is); (case if_Store_read => k_is); (case l_Store_read => k_is); (case c_Store_read => k_is); (case k_Store_read => k_is); (case a_Store_flushes_until => k_is); (case if_Store_flushes_until => k_is); (case l_Store_flushes_until => k_is); (case c_Store_flushes_until => k_is); (case k_Store_flushes_until => k_is); (case a_Store_check_moment => k_is); (case if_Store_check_moment => k_is); (case l_Store_check_moment => k_is); (case c_Store_check_moment => k_is); (case k_Store_check_moment => k_is); (case a_Store_visited => k_is); (case if_Store_visited => k_is); (case l_Store_visited => k_is); (case c_Store_visited => k_is); (case k_Store_visited => k_is); (case a_Store_present => k_is); (case if_Store_present => k_is); (case l_Store_present => k_is); (case c_Store_present => k_is); (case k_Store_present => k_is); (case a_Store_stack => k_is); (case if_Store_stack => k_is); (case l_Store_stack => k_is); (case c_Store_stack => k_is); (case k_Store_stack => k_is); (case a_Store_state => k_is); (case if_Store_state => k_is); (case l_Store_state => k_is); (case c_Store_state => k_is); (case k_Store_state => k_is); (case a_Store_schedule => k_is); (case if_Store_schedule => k_is); (case l_Store_schedule => k_is); (case c_Store_schedule => k_is); (case k_Store_schedule => k_is); (case a_Store_sizes => k_is); (case if_Store_sizes => k_is); (case l_Store_sizes => k_is); (case c_Store_sizes => k_is); (case k_Store_sizes => k_is); (case a_Store_written => k_is); (case if_Store_written => k_is); (case l_Store_written => k_is); (case c_Store_written => k_is); (case k_Store_written => k_is); (case a_Store_pending => k_is); (case if_Store_pending => k_is); (case l_Store_pending => k_is); (case c_Store_pending => k_is); (case k_Store_pending => k_is); (case a_Store_policy => k_is); (case if_Store_policy => k_is); (case l_Store_policy => k_is); (case c_Store_policy => k_is); (case k_Store_policy => k_is); (case a_Store_undo => k_is); (case if_Store_undo => k_is); (case l_Store_undo => k_is); (case c_Store_undo => k_is); (case k_Store_undo => k_is); (case a_Store___len__ => k_is); (case if_Store___len__ => k_is); (case l_Store___len__ => k_is); (case c_Store___len__ => k_is); (case k_Store___len__ => k_is); (case a_L_start_draws => k_is); (case l_L_start_draws => k_is); (case c_L_start_draws => k_is); (case k_L_start_draws => k_is); (case a_L_next => k_is); (case l_L_next => k_is); (case c_L_next => k_is); (case k_L_next => k_is); (case a_L_pick => k_is); (case l_L_pick => k_is); (case c_L_pick => k_is); (case k_L_pick => k_is); (case a_L_odd => k_is); (case l_L_odd => k_is); (case c_L_odd => k_is); (case k_L_odd => k_is); (case a_L_refusal => k_is); (case l_L_refusal => k_is); (case c_L_refusal => k_is); (case k_L_refusal => k_is); (case a_L_is_policy => k_is); (case l_L_is_policy => k_is); (case c_L_is_policy => k_is); (case k_L_is_policy => k_is); (case a_L_some_rule => k_is); (case l_L_some_rule => k_is); (case c_L_some_rule => k_is); (case k_L_some_rule => k_is); (case a_L_right => k_is); (case l_L_right => k_is); (case c_L_right => k_is); (case k_L_right => k_is); (case a_law => k_is); (case l_law => k_is); (case c_law => k_is); (case k_law => k_is); (case tbA => exact PySem.W.km_tabs_of Y); (case hdA_L_right => first | k_is | rfl | decide +kernel); (case ntA_L_right => first | k_is | rfl | decide +kernel); (case nyA_L_right => first | k_is | rfl | decide +kernel); (case z_isinstance => k_is); (case z_int => k_is); (case z_bool => k_is); (case z_all => k_is); (case z_tuple => k_is); (case z_len => k_is); (case z_enumerate => k_is); (case z_range => k_is); (case z_max => k_is); (case z_sum => k_is); (case z_zip => k_is); (case z_str => k_is); (case z_sorted => k_is); (case z_list => k_is); (case z_reversed => k_is); (case z_min => k_is); (case z_abs => k_is); (case z_ValueError => k_is); (case z_repr => k_is); (case y_MOST_BUDGET => k_is); (case y_MOST_LOAD => k_is); (case y_MOST_FLUSHES => k_is); (case y_MOST_POSITION => k_is); (case y_MOST_LETTERS => k_is); (case ac_MergeBudgetError => k_is); (case kc_MergeBudgetError => k_is); (case kl_MergeBudgetError => k_is); (case kt_MergeBudgetError => k_is); (case xp_MergeBudgetError => k_is); (case xq_MergeBudgetError => k_is); (case xr_MergeBudgetError => k_is); (case xs_MergeBudgetError => k_is); (case xt_MergeBudgetError => k_is); (case xu_MergeBudgetError => k_is); (case xi_MergeBudgetError => first | k_exc | k_is); (case ac_InvalidSchedule => k_is); (case kc_InvalidSchedule => k_is); (case kl_InvalidSchedule => k_is); (case kt_InvalidSchedule => k_is); (case xp_InvalidSchedule => k_is); (case xq_InvalidSchedule => k_is); (case xr_InvalidSchedule => k_is); (case xs_InvalidSchedule => k_is); (case xt_InvalidSchedule => k_is); (case xu_InvalidSchedule => k_is); (case xL_InvalidSchedule => k_is); (case rv_InvalidSchedule => decide +kernel); (case ic_InvalidSchedule => k_is); (case oa_InvalidSchedule => k_is); (case oe_InvalidSchedule => k_is); (case of_InvalidSchedule => k_is); (case il_InvalidSchedule => k_is); (case ie_InvalidSchedule => k_is); (case ik_InvalidSchedule => k_is); (case ac_InvalidCount => k_is); (case kc_InvalidCount => k_is); (case kl_InvalidCount => k_is); (case kt_InvalidCount => k_is); (case xp_InvalidCount => k_is); (case xq_InvalidCount => k_is); (case xr_InvalidCount => k_is); (case xs_InvalidCount => k_is); (case xt_InvalidCount => k_is); (case xu_InvalidCount => k_is); (case xL_InvalidCount => k_is); (case rv_InvalidCount => decide +kernel); (case ic_InvalidCount => k_is); (case oa_InvalidCount => k_is); (case oe_InvalidCount => k_is); (case of_InvalidCount => k_is); (case il_InvalidCount => k_is); (case ie_InvalidCount => k_is); (case ik_InvalidCount => k_is); (case ac_InvalidBudget => k_is); (case kc_InvalidBudget => k_is); (case kl_InvalidBudget => k_is); (case kt_InvalidBudget => k_is); (case xp_InvalidBudget => k_is); (case xq_InvalidBudget => k_is); (case xr_InvalidBudget => k_is); (case xs_InvalidBudget => k_is); (case xt_InvalidBudget => k_is); (case xu_InvalidBudget => k_is); (case xL_InvalidBudget => k_is); (case rv_InvalidBudget => decide +kernel); (case ic_InvalidBudget => k_is); (case oa_InvalidBudget => k_is); (case oe_InvalidBudget => k_is); (case of_InvalidBudget => k_is); (case il_InvalidBudget => k_is); (case ie_InvalidBudget => k_is); (case ik_InvalidBudget => k_is); (case ac_InvalidSizes => k_is); (case kc_InvalidSizes => k_is); (case kl_InvalidSizes => k_is); (case kt_InvalidSizes => k_is); (case xp_InvalidSizes => k_is); (case xq_InvalidSizes => k_is); (case xr_InvalidSizes => k_is); (case xs_InvalidSizes => k_is); (case xt_InvalidSizes => k_is); (case xu_InvalidSizes => k_is); (case xL_InvalidSizes => k_is); (case rv_InvalidSizes => decide +kernel); (case ic_InvalidSizes => k_is); (case oa_InvalidSizes => k_is); (case oe_InvalidSizes => k_is); (case of_InvalidSizes => k_is); (case il_InvalidSizes => k_is); (case ie_InvalidSizes => k_is); (case ik_InvalidSizes => k_is); (case ac_InvalidReads => k_is); (case kc_InvalidReads => k_is); (case kl_InvalidReads => k_is); (case kt_InvalidReads => k_is); (case xp_InvalidReads => k_is); (case xq_InvalidReads => k_is); (case xr_InvalidReads => k_is); (case xs_InvalidReads => k_is); (case xt_InvalidReads => k_is); (case xu_InvalidReads => k_is); (case xL_InvalidReads => k_is); (case rv_InvalidReads => decide +kernel); (case ic_InvalidReads => k_is); (case oa_InvalidReads => k_is); (case oe_InvalidReads => k_is); (case of_InvalidReads => k_is); (case il_InvalidReads => k_is); (case ie_InvalidReads => k_is); (case ik_InvalidReads => k_is); (case ac_InvalidState => k_is); (case kc_InvalidState => k_is); (case kl_InvalidState => k_is); (case kt_InvalidState => k_is); (case xp_InvalidState => k_is); (case xq_InvalidState => k_is); (case xr_InvalidState => k_is); (case xs_InvalidState => k_is); (case xt_InvalidState => k_is); (case xu_InvalidState => k_is); (case xL_InvalidState => k_is); (case rv_InvalidState => decide +kernel); (case ic_InvalidState => k_is); (case oa_InvalidState => k_is); (case oe_InvalidState => k_is); (case of_InvalidState => k_is); (case il_InvalidState => k_is); (case ie_InvalidState => k_is); (case ik_InvalidState => k_is); (case ac_InvalidMerge => k_is); (case kc_InvalidMerge => k_is); (case kl_InvalidMerge => k_is); (case kt_InvalidMerge => k_is); (case xp_InvalidMerge => k_is); (case xq_InvalidMerge => k_is); (case xr_InvalidMerge => k_is); (case xs_InvalidMerge => k_is); (case xt_InvalidMerge => k_is); (case xu_InvalidMerge => k_is); (case xL_InvalidMerge => k_is); (case rv_InvalidMerge => decide +kernel); (case ic_InvalidMerge => k_is); (case oa_InvalidMerge => k_is); (case oe_InvalidMerge => k_is); (case of_InvalidMerge => k_is); (case il_InvalidMerge => k_is); (case ie_InvalidMerge => k_is); (case ik_InvalidMerge => k_is); (case ac_InvalidPolicy => k_is); (case kc_InvalidPolicy => k_is); (case kl_InvalidPolicy => k_is); (case kt_InvalidPolicy => k_is); (case xp_InvalidPolicy => k_is); (case xq_InvalidPolicy => k_is); (case xr_InvalidPolicy => k_is); (case xs_InvalidPolicy => k_is); (case xt_InvalidPolicy => k_is); (case xu_InvalidPolicy => k_is); (case xL_InvalidPolicy => k_is); (case rv_InvalidPolicy => decide +kernel); (case ic_InvalidPolicy => k_is); (case oa_InvalidPolicy => k_is); (case oe_InvalidPolicy => k_is); (case of_InvalidPolicy => k_is); (case il_InvalidPolicy => k_is); (case ie_InvalidPolicy => k_is); (case ik_InvalidPolicy => k_is); (case ac_InvalidKey => k_is); (case kc_InvalidKey => k_is); (case kl_InvalidKey => k_is); (case kt_InvalidKey => k_is); (case xp_InvalidKey => k_is); (case xq_InvalidKey => k_is); (case xr_InvalidKey => k_is); (case xs_InvalidKey => k_is); (case xt_InvalidKey => k_is); (case xu_InvalidKey => k_is); (case xL_InvalidKey => k_is); (case rv_InvalidKey => decide +kernel); (case ic_InvalidKey => k_is); (case oa_InvalidKey => k_is); (case oe_InvalidKey => k_is); (case of_InvalidKey => k_is); (case il_InvalidKey => k_is); (case ie_InvalidKey => k_is); (case ik_InvalidKey => k_is); (case ac_InvalidValue => k_is); (case kc_InvalidValue => k_is); (case kl_InvalidValue => k_is); (case kt_InvalidValue => k_is); (case xp_InvalidValue => k_is); (case xq_InvalidValue => k_is); (case xr_InvalidValue => k_is); (case xs_InvalidValue => k_is); (case xt_InvalidValue => k_is); (case xu_InvalidValue => k_is); (case xL_InvalidValue => k_is); (case rv_InvalidValue => decide +kernel); (case ic_InvalidValue => k_is); (case oa_InvalidValue => k_is); (case oe_InvalidValue => k_is); (case of_InvalidValue => k_is); (case il_InvalidValue => k_is); (case ie_InvalidValue => k_is); (case ik_InvalidValue => k_is); (case ac_InvalidMoment => k_is); (case kc_InvalidMoment => k_is); (case kl_InvalidMoment => k_is); (case kt_InvalidMoment => k_is); (case xp_InvalidMoment => k_is); (case xq_InvalidMoment => k_is); (case xr_InvalidMoment => k_is); (case xs_InvalidMoment => k_is); (case xt_InvalidMoment => k_is); (case xu_InvalidMoment => k_is); (case xL_InvalidMoment => k_is); (case rv_InvalidMoment => decide +kernel); (case ic_InvalidMoment => k_is); (case oa_InvalidMoment => k_is); (case oe_InvalidMoment => k_is); (case of_InvalidMoment => k_is); (case il_InvalidMoment => k_is); (case ie_InvalidMoment => k_is); (case ik_InvalidMoment => k_is); (case ac_InvalidText => k_is); (case kc_InvalidText => k_is); (case kl_InvalidText => k_is); (case kt_InvalidText => k_is); (case xp_InvalidText => k_is); (case xq_InvalidText => k_is); (case xr_InvalidText => k_is); (case xs_InvalidText => k_is); (case xt_InvalidText => k_is); (case xu_InvalidText => k_is); (case xL_InvalidText => k_is); (case rv_InvalidText => decide +kernel); (case ic_InvalidText => k_is); (case oa_InvalidText => k_is); (case oe_InvalidText => k_is); (case of_InvalidText => k_is); (case il_InvalidText => k_is); (case ie_InvalidText => k_is); (case ik_InvalidText => k_is); (case ac_InvalidLine => k_is); (case kc_InvalidLine => k_is); (case kl_InvalidLine => k_is); (case kt_InvalidLine => k_is); (case xp_InvalidLine => k_is); (case xq_InvalidLine => k_is); (case xr_InvalidLine => k_is); (case xs_InvalidLine => k_is); (case xt_InvalidLine => k_is); (case xu_InvalidLine => k_is); (case xL_InvalidLine => k_is); (case rv_InvalidLine => decide +kernel); (case ic_InvalidLine => k_is); (case oa_InvalidLine => k_is); (case oe_InvalidLine => k_is); (case of_InvalidLine => k_is); (case il_InvalidLine => k_is); (case ie_InvalidLine => k_is); (case ik_InvalidLine => k_is); (case ac_Exhausted => k_is); (case kc_Exhausted => k_is); (case kl_Exhausted => k_is); (case kt_Exhausted => k_is); (case xp_Exhausted => k_is); (case xq_Exhausted => k_is); (case xr_Exhausted => k_is); (case xs_Exhausted => k_is); (case xt_Exhausted => k_is); (case xu_Exhausted => k_is); (case xi_Exhausted => first | k_exc | k_is); (case ac_NothingToUndo => k_is); (case kc_NothingToUndo => k_is); (case kl_NothingToUndo => k_is); (case kt_NothingToUndo => k_is); (case xp_NothingToUndo => k_is); (case xq_NothingToUndo => k_is); (case xr_NothingToUndo => k_is); (case xs_NothingToUndo => k_is); (case xt_NothingToUndo => k_is); (case xu_NothingToUndo => k_is); (case xi_NothingToUndo => first | k_exc | k_is); (case gsp => k_is); (case gta => k_is); (case kits => decide +kernel); (case kitn => decide +kernel); (case kitz => decide +kernel); (case kq_Store_read_moment => k_is); (case kq_Store_present_moment => k_is)
  case KS => exact fun p => by first | rfl | decide +kernel | k_is
