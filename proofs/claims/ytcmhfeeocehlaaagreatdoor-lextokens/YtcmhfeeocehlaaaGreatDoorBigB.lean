/-
  sum, difference: of limbs, in new memory.
-/
import Derived.Test.YtcmhfeeocehlaaaGreatDoorBigA
import Derived.Deep.DeepMust
namespace Go.Proofs.YtcmhfeeocehlaaaGreatDoor
set_option linter.unusedSimpArgs false
set_option linter.unusedVariables false
open Go.RowKit

/-- kept from the walk -/
theorem hid1 {p : Prop} (h : p) : Hid p := h

/-- a new row of limbs, at the head of a block of the call's own -/
def NewPost (w : World) (n : Nat) (good : List Nat → Prop) (e : Ending) (w' : World) : Prop :=
  ∃ g N, e = .returned (.slice (some ⟨g, 0, none⟩) n n) ∧ Row w' g N ∧ N.length = n ∧ Lims N ∧ w.heap.size ≤ g ∧ good N ∧ w.grownBy w' none

/-- block g is a row of k noughts -/
def Made (w : World) (g k : Nat) : Prop := w.heap[g]? = some (.cells (cl (List.replicate k 0)).toArray 84 (0, 0))
theorem Made.new (w : World) (k : Nat) : Made (w.alloc (.cells (madeCells #[.int .u32 0] k) 84)) w.heap.size k := by
  unfold Made
  rw [heap_alloc_new, cl_replicate, ← toList_madeCells_one]
theorem Made.row {w : World} {g k : Nat} (h : Made w g k) : Row w g (List.replicate k 0) := ⟨[], by rw [List.append_nil]; exact h⟩
theorem Made.kept {w w' : World} {g k : Nat} {r : Option Nat} (h : Made w g k) (hg : w.grownBy w' r) (hr : r ≠ some g) : Made w' g k := by
  unfold Made at *
  rw [hg.block g (Array.getElem?_eq_some_iff.1 h).1 (fun e => hr e.symm)]; exact h

/-- copy(out[off:], x), out a row of noughts -/
theorem wp_copy {w : World} {ops : Array Oper} {rest : List Oper} {o : Oper} {act : Act} {Q : Exit → Act → World → Prop} (hgd : o.guard = none) (d s : Operand)
    (ho : o.op = .call { callee := .builtin .copy, args := #[d, s], argTypes := #[33, 33] })
    (a dp : Option Addr) (n c k off g dl dc : Nat) (x : List Nat) (hd : act.eval d = .slice dp dl dc) (hs : act.eval s = .slice a n c) (hx : SL w a n c x) (hdl : n ≤ dl) (hk : off + n ≤ k) (hz : Made w g k) (hdp : 0 < n → dp = some ⟨g, off, none⟩)
    (h : ∀ w', Row w' g (List.replicate off 0 ++ x ++ List.replicate (k - off - n) 0) → w.grownBy w' (some g) → wpList Tryz.prog ops Q rest (act.put o.dst (goInt n)) w') : wpList Tryz.prog ops Q (o :: rest) act w := by
  have hxl := hx.len
  by_cases h0 : n = 0
  · subst h0
    obtain rfl : x = [] := List.length_eq_zero_iff.1 hxl
    refine wpList_copy_nothing hgd d s 33 33 ho 84 Tryz.underlying33 u32_size dp a dl dc 0 c hd hs (Nat.min_eq_left (by omega)) (h w ?_ (gb_refl _ _))
    have := hz.row
    rw [List.append_nil, List.replicate_append_replicate, show off + (k - off - 0) = k by omega]
    exact this
  · obtain ⟨bx, ox, hax, hcx⟩ := hx.at'
    obtain ⟨rfl, _⟩ := hax (by omega)
    obtain rfl := hdp (by omega)
    have hlt := (Array.getElem?_eq_some_iff.1 hz).1
    refine wpList_copy_own hgd d s 33 33 ho 84 Tryz.underlying33 u32_size g off dl dc ⟨bx, ox, none⟩ n c hd hs (cl (List.replicate k 0)).toArray 84 hz (cl x) (by rw [cl_length, hxl]; exact (Nat.min_eq_left (by omega)).symm) ?_ (by simp [cl_length]; omega) (cl_one x) ?_
    · intro j v hv
      have hj : j < x.length := by
        have := (List.getElem?_eq_some_iff.1 hv).1
        simpa [cl] using this
      rw [cl_get x j hj] at hv
      have hadd : (⟨bx, ox, none⟩ : Addr).add j = ⟨bx, ox + j, none⟩ := by simp [Addr.add]
      rw [hadd, ← hv]
      exact hcx j (by omega)
    · have h2 := h (w.setRow g ((cl (List.replicate k 0)).toArray.toList.take off ++ (cl x ++ (cl (List.replicate k 0)).toArray.toList.drop (off + (cl x).length))).toArray) ⟨[], ?_⟩ ⟨rfl, rfl, rfl, by simp [World.setRow], fun i hi hne => setRow_other w g i _ (fun e => hne (by rw [e]))⟩
      · rw [cl_length, hxl] at h2 ⊢
        exact h2
      · rw [setRow_heap w g _ _ _ _ hz]
        simp only [List.append_nil, cl_append, cl_length, hxl, List.toList_toArray, cl_take, cl_drop, List.take_replicate, List.drop_replicate, List.append_assoc]
        rw [Nat.min_eq_left (by omega), show k - (off + n) = k - off - n by omega]

theorem sum_val {x y N : List Nat} {n m cc : Nat} (hx : x.length = n) (hy : y.length = m) (lx : Lims x) (ly : Lims y) (hnm : m ≤ n) (hN : N.length = n + 1) (h : val N + B32 ^ (x ++ List.replicate 1 0).length * cc = val (x ++ List.replicate 1 0) + val y) : val N = val x + val y := by
  have h1 := val_lt x lx
  have h2 := val_lt y ly
  rw [hx] at h1
  rw [hy] at h2
  have h3 := pow_mono hnm
  have e1 : val (x ++ List.replicate 1 0) = val x := by rw [val_append, val_replicate_zero]; simp
  have e2 : (x ++ List.replicate 1 0).length = n + 1 := by simp; omega
  rw [e1, e2, Nat.pow_succ] at h
  have hB : 2 ≤ B32 := by decide
  generalize B32 ^ n = p at *
  generalize B32 ^ m = p' at *
  have h5 : p * 2 ≤ p * B32 := Nat.mul_le_mul_left _ hB
  generalize p * B32 = q at *
  by_cases hc : cc = 0
  · subst hc; rw [Nat.mul_zero] at h; omega
  · have h4 : q ≤ q * cc := Nat.le_mul_of_pos_right q (by omega)
    generalize q * cc = r at *
    omega

end Go.Proofs.YtcmhfeeocehlaaaGreatDoor
namespace Go.Proofs.YtcmhfeeocehlaaaGreatDoor
set_option linter.unusedSimpArgs false
set_option linter.unusedVariables false
open Go.RowKit

/-- what sum answers -/
def SumPost (w : World) (x y : List Nat) (e : Ending) (w' : World) : Prop :=
  ∃ a n N, e = .returned (.slice a n n) ∧ OW w' w.heap.size a n n N ∧ (N = [] → a ≠ none) ∧ val N = val x + val y ∧ n ≤ x.length + y.length + 1 ∧ w.grownBy w' none

theorem diff_val {x y N : List Nat} {n lack : Nat} (hx : x.length = n) (hN : N.length = n) (lN : Lims N) (hle : val y ≤ val x) (h : val N + 1 * val y = val x + B32 ^ x.length * lack) : val N = val x - val y := by
  have h1 := val_lt N lN
  rw [hN] at h1
  rw [hx] at h
  generalize B32 ^ n = p at *
  by_cases hc : lack = 0
  · subst hc; rw [Nat.mul_zero] at h; omega
  · have h4 : p ≤ p * lack := Nat.le_mul_of_pos_right p (by omega)
    generalize p * lack = r at *
    omega

/-- what difference answers -/
def DiffPost (w : World) (x y : List Nat) (e : Ending) (w' : World) : Prop :=
  ∃ a n N, e = .returned (.slice a n n) ∧ OW w' w.heap.size a n n N ∧ val N = val x - val y ∧ n = x.length ∧ w.grownBy w' none

end Go.Proofs.YtcmhfeeocehlaaaGreatDoor
namespace Go.Proofs.YtcmhfeeocehlaaaGreatDoor
set_option linter.unusedSimpArgs false
set_option linter.unusedVariables false
open Go.RowKit

theorem set_end (P N : List Nat) (k j n cy : Nat) (hP : P.length = k) (hN : N.length = j) (hk : k < n) : (P ++ N ++ List.replicate (n - k) 0).set (k + j) cy = P ++ N ++ [cy] ++ List.replicate (n - (k + 1)) 0 := by
  have e : n - k = (n - (k + 1)) + 1 := by omega
  rw [e, List.replicate_succ, List.set_append_right _ _ (by simp; omega)]
  have e2 : k + j - (P ++ N).length = 0 := by simp; omega
  rw [e2, List.set_cons_zero]
  simp only [List.append_assoc, List.cons_append, List.nil_append]

end Go.Proofs.YtcmhfeeocehlaaaGreatDoor
namespace Go.Proofs.YtcmhfeeocehlaaaGreatDoor
set_option linter.unusedSimpArgs false
set_option linter.unusedVariables false
open Go.RowKit
attribute [local go_sem ↓] Go.wp_at_zero Go.wp_at_succ

/-- the integer that a sign and limbs say -/
def iv (s : Bool) (l : List Nat) : Int := if s = true then -(val l : Int) else (val l : Int)

/-- an integer as it should stand, in memory of the call's own -/
def IntPost (w : World) (z : Int) (k : Nat) (e : Ending) (w' : World) : Prop :=
  ∃ s a l, e = .returned (.agg #[.bool s, .slice a l.length l.length]) ∧ OW w' w.heap.size a l.length l.length l ∧ Nrm l ∧ (s = true → l ≠ []) ∧ iv s l = z ∧ l.length ≤ k ∧ (l = [] → a = none) ∧ w.grownBy w' none

/-- what made answers of limbs of the call's own -/
def MadeOwn (w : World) (B : Nat) (z : Int) (k : Nat) (e : Ending) (w' : World) : Prop :=
  ∃ s a l, e = .returned (.agg #[.bool s, .slice a l.length l.length]) ∧ OW w' B a l.length l.length l ∧ Nrm l ∧ (s = true → l ≠ []) ∧ iv s l = z ∧ l.length ≤ k ∧ (l = [] → a = none) ∧ w.grownBy w' none

theorem iv_tr (s : Bool) (l : List Nat) : iv (s && !decide (tr l = [])) (tr l) = iv s l := by
  unfold iv
  rw [val_tr]
  by_cases h : tr l = []
  · have : val l = 0 := by rw [← val_tr, h]; rfl
    cases s <;> simp [h, this]
  · cases s <;> simp [h]

theorem made_own (s : Bool) (B : Nat) (a : Option Addr) (n c : Nat) (l : List Nat) (w : World) (h : OW w B a n c l) :
    Calls Tryz.prog 98 #[.bool s, .slice a n c] w (MadeOwn w B (iv s l) n) := by
  refine (made_raw s a n c l w h.sl).mono ?_
  rintro e w' ⟨a', rfl, hg, ha⟩
  refine ⟨_, a', tr l, rfl, (h.grown hg).trim ha, nrm_tr l, ?_, iv_tr s l, ?_, ?_, hg⟩
  · intro e; simp at e; exact e.2
  · rw [tr_length, h.sl.len]; exact tl_le l n
  · intro e
    rcases ha with ha | ha
    · exact ha.2
    · exact absurd e ha.1

/-- what was there is there -/
theorem gb_rules {w w1 : World} (h : w.grownBy w1 none) : (∀ b o, b < w.heap.size → w1.cell? ⟨b, o, none⟩ = w.cell? ⟨b, o, none⟩) ∧ (∀ b o, b < w.heap.size → w1.frozen? ⟨b, o, none⟩ = w.frozen? ⟨b, o, none⟩) ∧ w.heap.size ≤ w1.heap.size :=
  ⟨fun b o hb => World.cell?_of_block (w := w) (h.block b hb (by simp)), fun b o hb => World.frozen?_of_block (w := w) (h.block b hb (by simp)), h.size⟩

theorem OW.off {w : World} {B g : Nat} {a : Option Addr} {n c : Nat} {l : List Nat} (h : OW w B a n c l) (hg : g < B) : Off a n g := by
  intro hn b off s e
  obtain ⟨g', off', L, ea, hb, _⟩ := h.own hn
  rw [ea] at e
  simp only [Option.some.injEq, Addr.mk.injEq] at e
  omega
theorem iv_of_val {s : Bool} {l l' : List Nat} (h : val l = val l') : iv s l = iv s l' := by unfold iv; rw [h]

/-- an integer is answered through a cell of the call's own -/
theorem int_end {w w3 : World} {g B k : Nat} {z : Int} {s : Bool} {a : Option Addr} {l : List Nat} (hg : w.grownBy w3 none) (ho : OW w3 B a l.length l.length l) (hgB : g < B) (hw : w.heap.size ≤ g) (hB : w.heap.size ≤ B)
    (hn : Nrm l) (hs : s = true → l ≠ []) (hz : iv s l = z) (hk : l.length ≤ k) (ha : l = [] → a = none) (v0 v1 : Value) :
    IntPost w z k (.returned (.agg #[.bool s, .slice a l.length l.length])) ((w3.setCell ⟨g, 0, none⟩ v0).setCell ⟨g, 1, none⟩ v1) := by
  have h3 : w3.grownBy ((w3.setCell ⟨g, 0, none⟩ v0).setCell ⟨g, 1, none⟩ v1) (some g) := gb_set (gb_set (gb_refl _ _) _ _ (.inl rfl)) _ _ (.inl rfl)
  exact ⟨s, a, l, rfl, (ho.kept h3 (fun i e => by cases e; exact ho.off hgB)).mono hB, hn, hs, hz, hk, ha, gb_then hg h3 (fun i e => by cases e; exact hw)⟩

/-- a block that was there is there -/
theorem box_kept {w w1 : World} (k : Nat) (h : w.grownBy w1 none) (hk : k < w.heap.size) : (∀ o, w1.cell? ⟨k, o, none⟩ = w.cell? ⟨k, o, none⟩) ∧ (∀ o, w1.frozen? ⟨k, o, none⟩ = w.frozen? ⟨k, o, none⟩) ∧ k < w1.heap.size :=
  ⟨fun o => World.cell?_of_block (w := w) (h.block k hk (by simp)), fun o => World.frozen?_of_block (w := w) (h.block k hk (by simp)), Nat.lt_of_lt_of_le hk h.size⟩

end Go.Proofs.YtcmhfeeocehlaaaGreatDoor
namespace Go.Proofs.YtcmhfeeocehlaaaGreatDoor
set_option linter.unusedSimpArgs false
set_option linter.unusedVariables false
open Go.RowKit
attribute [local go_sem ↓] Go.wp_at_zero Go.wp_at_succ

theorem iv_not (s : Bool) (l : List Nat) : iv (!s) l = - iv s l := by cases s <;> simp [iv]
theorem iv_abs (s : Bool) (l : List Nat) : iv false l = ((iv s l).natAbs : Int) := by cases s <;> simp [iv]
theorem sgn_iv (s : Bool) (l : List Nat) : sgn (iv s l) = if tr l = [] then 0 else if s = true then -1 else 1 := by
  by_cases h : tr l = []
  · have : val l = 0 := by rw [← val_tr, h]; rfl
    rw [if_pos h]; cases s <;> simp [iv, this, sgn]
  · have hp : val l ≠ 0 := by
      intro e
      exact h (val_zero_nrm (nrm_tr l) (by rw [val_tr]; exact e))
    rw [if_neg h]
    cases s
    · simp only [iv, sgn]; simp; omega
    · simp only [iv, sgn]; simp; omega

set_option maxHeartbeats 1600000 in
theorem neg_raw (s : Bool) (a : Option Addr) (n c : Nat) (x : List Nat) (w : World) (hx : SL w a n c x) :
    Calls Tryz.prog 83 #[.agg #[.bool s, .slice a n c]] w (IntPost w (-(iv s x)) n) := by
  go_enter Tryz.func83, Tryz.ntmps83
  go_wp2
  go_region_held3 (fun w' => w'.cell? ⟨w.heap.size, 0, none⟩ = some (.bool s) ∧ w'.cell? ⟨w.heap.size, 1, none⟩ = some (.slice a n c)) (go_keep) (first
    | (go_at_call 101; refine (trim_raw a n c x _ (by exact hx.grown (by repeat (first | exact gb_refl _ _ | apply gb_drew | apply gb_alloc)))).mono ?_; rintro e w1 ⟨a1, rfl, rfl, ha⟩)
    | (go_at_call 100; refine (clone_raw a1 _ _ (tr x) _ (by exact (hx.grown (by repeat (first | exact gb_refl _ _ | apply gb_drew | apply gb_alloc))).trim ha) (by intro e; rcases ha with ha | ha; exact ha.2; exact absurd e ha.1)).mono ?_; rintro e w2 ⟨a2, c2, rfl, ho2, hg2⟩; obtain ⟨hc2, hf2, hz2⟩ := box_kept (w.heap.size + 1) hg2 (by simp); obtain ⟨hc2', hf2', hz2'⟩ := box_kept w.heap.size hg2 (by simp; omega))
    | (go_at_call 98; refine (made_own (!s) _ a2 _ c2 (tr x) _ (by exact ho2)).mono ?_; rintro e w3 ⟨s3, a3, l3, rfl, ho3, hn3, hs3, hi3, hk3, ha3, hg3⟩; obtain ⟨hc3, hf3, hz3⟩ := box_kept (w.heap.size + 1) hg3 (by exact hz2); obtain ⟨hc3', hf3', hz3'⟩ := box_kept w.heap.size hg3 (by exact hz2')))
  go_wp2
  refine bodyPost_ret (v := .agg #[.bool s3, .slice a3 l3.length l3.length]) (by simp [results, Tryz.results83, go_sem, hc3, hc2, hz3, hf3, hf2]) rfl ?_
  have hzz := hg2.size
  refine int_end (gb_then (gb_then (gb_drew (gb_alloc (gb_alloc (gb_refl w none) _) _)) hg2 (by simp)) hg3 (by simp)) ho3 (by simp) (by omega) (by simp; omega) hn3 hs3 (hi3.trans (by rw [iv_of_val (val_tr x), iv_not])) (Nat.le_trans hk3 (by rw [tr_length, hx.len]; exact tl_le _ _)) ha3 _ _

/-- a number is answered, nothing old is written -/
def NumPost (w : World) (z : Int) (e : Ending) (w' : World) : Prop := e = .returned (.int .i64 z) ∧ w.grownBy w' none
def BoolPost (w : World) (b : Bool) (e : Ending) (w' : World) : Prop := e = .returned (.bool b) ∧ w.grownBy w' none

end Go.Proofs.YtcmhfeeocehlaaaGreatDoor
namespace Go.Proofs.YtcmhfeeocehlaaaGreatDoor
set_option linter.unusedSimpArgs false
set_option linter.unusedVariables false
open Go.RowKit
attribute [local go_sem ↓] Go.wp_at_zero Go.wp_at_succ

theorem cmp_signs (s t : Bool) (x y : List Nat) (h : sgn (iv s x) ≠ sgn (iv t y)) : sgn (sgn (iv s x) - sgn (iv t y)) = sgn (iv s x - iv t y) := by
  generalize iv s x = p at *
  generalize iv t y = q at *
  unfold sgn at *
  repeat' split at h
  all_goals (repeat' split) <;> omega
theorem cmp_pos (s t : Bool) (x y : List Nat) (h : sgn (iv s x) = sgn (iv t y)) (hp : ¬ sgn (iv s x) < 0) : sgn ((val (tr x) : Int) - val (tr y)) = sgn (iv s x - iv t y) := by
  rw [val_tr, val_tr]
  cases s <;> cases t <;> simp only [iv, if_true, if_false, Bool.false_eq_true] at * <;> unfold sgn at * <;> (repeat' split at h) <;> (repeat' split) <;> omega
theorem cmp_neg (s t : Bool) (x y : List Nat) (h : sgn (iv s x) = sgn (iv t y)) (hp : sgn (iv s x) < 0) : sgn ((val (tr y) : Int) - val (tr x)) = sgn (iv s x - iv t y) := by
  rw [val_tr, val_tr]
  cases s <;> cases t <;> simp only [iv, if_true, if_false, Bool.false_eq_true] at * <;> unfold sgn at * <;> (repeat' split at h) <;> (repeat' split) <;> omega

end Go.Proofs.YtcmhfeeocehlaaaGreatDoor
namespace Go.Proofs.YtcmhfeeocehlaaaGreatDoor
set_option linter.unusedSimpArgs false
set_option linter.unusedVariables false
open Go.RowKit
attribute [local go_sem ↓] Go.wp_at_zero Go.wp_at_succ

theorem tr_le (l : List Nat) : (tr l).length ≤ l.length := by rw [tr_length]; exact tl_le _ _

theorem add_same {s : Bool} {x y N : List Nat} (h : val N = val (tr x) + val (tr y)) : iv s N = iv s x + iv s y := by
  rw [val_tr, val_tr] at h
  cases s <;> simp only [iv, if_true, if_false, Bool.false_eq_true] <;> omega
theorem add_diff {s : Bool} {x y N : List Nat} (h : val N = val (tr x) - val (tr y)) (hle : val y ≤ val x) : iv s N = iv s x + iv (!s) y := by
  rw [val_tr, val_tr] at h
  cases s <;> simp only [iv, if_true, if_false, Bool.false_eq_true, Bool.not_true, Bool.not_false] <;> omega

end Go.Proofs.YtcmhfeeocehlaaaGreatDoor
namespace Go.Proofs.YtcmhfeeocehlaaaGreatDoor
set_option linter.unusedSimpArgs false
set_option linter.unusedVariables false
open Go.RowKit
attribute [local go_sem ↓] Go.wp_at_zero Go.wp_at_succ

theorem mul_iv {s t : Bool} {x y N : List Nat} (h : val N = val (tr x) * val (tr y)) : iv (s != t) N = iv s x * iv t y := by
  rw [val_tr, val_tr] at h
  cases s <;> cases t <;> simp [iv, h, Int.mul_neg, Int.neg_mul]

end Go.Proofs.YtcmhfeeocehlaaaGreatDoor
