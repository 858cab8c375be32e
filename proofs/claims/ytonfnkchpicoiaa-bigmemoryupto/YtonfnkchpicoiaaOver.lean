/-
  The law's over and stays; the reference's Mod.
-/
import Derived.Test.YtonfnkchpicoiaaLent
namespace Go.Proofs.Ytonfnkchpicoiaa
set_option linter.unusedSimpArgs false
set_option linter.unusedVariables false
open Go.RowKit
attribute [local go_sem ↓] Go.wp_at_zero Go.wp_at_succ

/-- what over leaves: the slice's own block is written, nothing else -/
def OverPost (w : World) (B : Nat) (a : Option Addr) (n : Nat) (e : Ending) (w' : World) : Prop :=
  e = .returned (.tuple #[]) ∧ ∃ r, w.grownBy w' r ∧ ∀ g, r = some g → 0 < n ∧ B ≤ g ∧ ∃ off, a = some ⟨g, off, none⟩

set_option maxHeartbeats 1600000 in
theorem over_raw (s : Bool) (a : Option Addr) (l : List Nat) (B : Nat) (w : World) (h : OW w B a l.length l.length l) :
    Calls Try.prog 40 #[.agg #[.bool s, .slice a l.length l.length]] w (OverPost w B a l.length) := by
  have hsl := h.sl
  have hb := hsl.big
  by_cases h0 : l.length = 0
  · have h0' : ¬ (0 : Int) < (l.length : Int) := by omega
    rcases a with _ | ad
    all_goals
      go_enter Try.func40, Try.ntmps40
      go_wp2
      go_loop [3] (fun i => i = .int .i64 0) (fun _ => 0)
      case atStart => rfl
      case round =>
        subst hrel
        go_wp2
        go_end0
        exact ⟨rfl, none, gb_alloc (gb_refl _ _) _, fun g e => by cases e⟩
  · obtain ⟨g, off, L, rfl, hBg, hrow, hoL⟩ := h.own (by omega)
    have hcl : ∀ j, j < l.length → L.getD (off + j) 0 = l.getD j 0 := by
      intro j hj
      obtain ⟨b2, o2, ha, hc⟩ := hsl.at'
      have e := (ha (by omega)).1
      cases e
      have h1 := hc j hj
      rw [hrow.cell (off + j) (by omega)] at h1
      have := Option.some.inj h1
      simp only [Value.int.injEq, true_and] at this
      omega
    have hgl := hrow.lt
    have hrow1 := hrow.alloc (.cells #[.bool s, .slice (some ⟨g, off, none⟩) l.length l.length] 24)
    have HCL := hid hcl
    clear hcl
    go_enter Try.func40, Try.ntmps40
    go_wp2
    go_loopw [3] (fun i wr => ∃ (k : Nat) (L' : List Nat), k ≤ l.length ∧ i = .int .i64 k ∧ Row wr g L' ∧ L'.length = L.length ∧ (∀ j, k ≤ j → j < l.length → L'.getD (off + j) 0 = l.getD j 0) ∧ w.grownBy wr (some g)) (fun i _ => l.length - (intOf i).toNat)
    case atStart => exact ⟨0, L, Nat.zero_le _, rfl, hrow1, rfl, fun j _ hj => HCL.out j hj, gb_none _ (gb_alloc (gb_refl _ none) _)⟩
    case round =>
      obtain ⟨k, L', hk, rfl, hr, hL', hkeep, hg⟩ := hrel
      have HK := hid hkeep
      clear hkeep
      by_cases hlt : k < l.length
      · have hcell := hr.cell (off + k) (by omega)
        rw [HK.out k (Nat.le_refl _) hlt] at hcell
        have hfr := hr.frozen (off + k)
        have hlim := lims_getD hsl.lim k
        have HS : Hid (∀ d : Nat, Row (wr.setCell ⟨g, off + k, none⟩ (.int .u32 (d : Int))) g (L'.set (off + k) d)) := fun d => hr.set (off + k) d (by omega)
        generalize l.getD k 0 = p at *
        go_wp2
        go_roundw
        case rel =>
          have ev : (4294967295 : Int) - (p : Int) = ((4294967295 - p : Nat) : Int) := by omega
          refine ⟨k + 1, L'.set (off + k) (4294967295 - p), by omega, by go_num, ?_, by simpa using hL', ?_, gb_set hg _ _ (.inl rfl)⟩
          · first | exact HS.out _ | (rw [ev]; exact HS.out _)
          · intro j hj hjl
            rw [← HK.out j (by omega) hjl]
            simp only [List.getD_eq_getElem?_getD]
            rw [List.getElem?_set_ne (by omega)]
        case measure => simp [intOf]; omega
      · go_wp2
        go_end0
        exact ⟨rfl, some g, hg, fun g' e => by cases e; exact ⟨by omega, hBg, off, rfl⟩⟩

/-- an answer in new memory is written over: what was there before the call that gave it stays -/
theorem over_new {w0 w1 : World} (s : Bool) (a : Option Addr) (l : List Nat) (hg : w0.grownBy w1 none) (h : OW w1 w0.heap.size a l.length l.length l) :
    Calls Try.prog 40 #[.agg #[.bool s, .slice a l.length l.length]] w1 fun e w2 => e = .returned (.tuple #[]) ∧ w0.grownBy w2 none := by
  refine (over_raw s a l w0.heap.size w1 h).mono ?_
  rintro e w2 ⟨rfl, r, hr, hB⟩
  exact ⟨rfl, gb_then hg hr (fun i e => (hB i e).2.1)⟩

set_option maxHeartbeats 3200000 in
theorem stays_raw (s : Bool) (g : Nat) (a : Option Addr) (c : Nat) (x : List Nat) (w : World) (hr : Row w g (x ++ [77, 78])) (hx : SL w a x.length c x) (hn : x.length + 2 ≤ 35184372088832) :
    Calls Try.prog 42 #[.agg #[.bool s, .slice (some ⟨g, 0, none⟩) x.length (x.length + 2)], .agg #[.bool s, .slice a x.length c]] w (BoolPost w true) := by
  have XA : Bx ((w.alloc (.cells #[.bool s, .slice (some ⟨g, 0, none⟩) x.length (x.length + 2)] 24)).alloc (.cells #[.bool s, .slice a x.length c] 24)) w.heap.size (.bool s) (.slice (some ⟨g, 0, none⟩) x.length (x.length + 2)) := (Bx.new w _ _ _ 24 rfl).kept (gb_alloc (gb_refl _ none) _) (by simp)
  have XB : Bx ((w.alloc (.cells #[.bool s, .slice (some ⟨g, 0, none⟩) x.length (x.length + 2)] 24)).alloc (.cells #[.bool s, .slice a x.length c] 24)) (w.heap.size + 1) (.bool s) (.slice a x.length c) := Bx.new _ _ _ _ 24 (by simp)
  have hss : (s != s) = false := by simp
  have hll : ((x.length : Int) != (x.length : Int)) = false := by simp
  go_enter Try.func42, Try.ntmps42
  go_wp2
  go_loopw [5] (fun i wr => ∃ k : Nat, k ≤ x.length ∧ i = .int .i64 k ∧ Bx wr w.heap.size (.bool s) (.slice (some ⟨g, 0, none⟩) x.length (x.length + 2)) ∧ Bx wr (w.heap.size + 1) (.bool s) (.slice a x.length c) ∧ w.grownBy wr none) (fun i _ => x.length - (intOf i).toNat)
  case atStart => exact ⟨0, Nat.zero_le _, rfl, XA, XB, gb_alloc (gb_alloc (gb_refl _ none) _) _⟩
  case round =>
    obtain ⟨k, hk, rfl, YA, YB, hg⟩ := hrel
    have hr2 := hr.kept hg (by simp)
    have hx2 := hx.grown hg
    have q0 := YA.c0
    have q1 := YA.c1
    have q2 := YA.lt
    have q3 := YB.c0
    have q4 := YB.c1
    have q5 := YB.lt
    clear XA XB
    by_cases hlt : k < x.length
    · obtain ⟨b2, o2, ha, hc⟩ := hx2.at'
      obtain ⟨rfl, hb2⟩ := ha (by omega)
      have hc1 := hc k hlt
      have hc2 := hr2.cell k (by simp; omega)
      have e : (x ++ [77, 78]).getD k 0 = x.getD k 0 := by
        simp only [List.getD_eq_getElem?_getD]
        rw [List.getElem?_append_left hlt]
      rw [e] at hc2
      have YA2 := YA.drew
      have YB2 := YB.drew
      clear hc ha e
      generalize x.getD k 0 = p at *
      have hpp : ((p : Int) != (p : Int)) = false := by simp
      have hpe : ((p : Int) == (p : Int)) = true := by simp
      have hlt' : (k : Int) < (x.length : Int) := by omega
      go_wp2
      go_region
      go_wp2
      go_roundw
      case rel => exact ⟨k + 1, by omega, by go_num, YA2, YB2, gb_drew hg⟩
      case measure => simp [intOf]; omega
    · have hkn : k = x.length := by omega
      subst hkn
      have hc1 := hr2.cell x.length (by simp)
      have hc2 := hr2.cell (x.length + 1) (by simp)
      have e1 : (x ++ [77, 78]).getD x.length 0 = 77 := by
        rw [List.getD_eq_getElem?_getD, List.getElem?_append_right (Nat.le_refl _), Nat.sub_self]; rfl
      have e2 : (x ++ [77, 78]).getD (x.length + 1) 0 = 78 := by
        rw [List.getD_eq_getElem?_getD, List.getElem?_append_right (by omega), Nat.add_sub_cancel_left]; rfl
      rw [e1] at hc1
      rw [e2] at hc2
      clear e1 e2
      generalize x.length = n at *
      go_wp2
      go_ret
      exact ⟨by first | rfl | simp, hg⟩

set_option maxHeartbeats 1600000 in
theorem rmod_raw (s t : Bool) (a b : Option Addr) (n c m d : Nat) (x y : List Nat) (w : World) (hx : SL w a n c x) (hy : SL w b m d y) (h1 : n ≤ 10000000) (h2 : m ≤ 10000000) :
    Calls Try.prog 41 #[.agg #[.bool s, .slice a n c], .agg #[.bool t, .slice b m d]] w fun e w' => ∃ sr ar lr, e = .returned (.agg #[.bool sr, .slice ar lr.length lr.length]) ∧ SL w' ar lr.length lr.length lr ∧ (∃ q, DD (iv s x) (iv t y) q (iv sr lr)) ∧ w.grownBy w' none := by
  have hne1 : ¬ (w.heap.size + 1 + 1 = w.heap.size) := by omega
  have hne2 : ¬ (w.heap.size + 1 + 1 = w.heap.size + 1) := by omega
  go_enter Try.func41, Try.ntmps41
  go_wp2_with fail
  refine (rdivmod_any s t a b n c m d x y _ (by exact hx.grown (by repeat (first | exact gb_refl _ _ | apply gb_drew | apply gb_alloc | (refine gb_then ?_ (by assumption) (by simp))))) (by exact hy.grown (by repeat (first | exact gb_refl _ _ | apply gb_drew | apply gb_alloc | (refine gb_then ?_ (by assumption) (by simp))))) h1 h2).mono ?_
  rintro e w1 ⟨sq, aq, lq, sr, ar, lr, rfl, hq1, hr1, hd1, hg1⟩
  have HD := hid hd1
  clear hd1
  have XC : Bx w1 (w.heap.size + 1 + 1) (.bool false) (.slice none 0 0) := (Bx.new ((w.alloc (.cells #[.bool s, .slice a n c] 24)).alloc (.cells #[.bool t, .slice b m d] 24)) _ _ _ 24 (by simp)).kept (by repeat (first | exact gb_refl _ _ | apply gb_drew | apply gb_alloc | (refine gb_then ?_ (by assumption) (by simp)))) (by simp)
  have c0 := XC.c0
  have c1 := XC.c1
  have c2 := XC.f0
  have c3 := XC.f1
  have c4 := XC.lt
  have hn1 : ¬ (w1.heap.size = w.heap.size + 1 + 1) := by omega
  have hn2 : ¬ (w1.heap.size + 1 = w.heap.size + 1 + 1) := by omega
  have hn3 : ¬ (w.heap.size + 1 + 1 = w1.heap.size) := by omega
  have hn4 : ¬ (w.heap.size + 1 + 1 = w1.heap.size + 1) := by omega
  have E2 : Bx ((w1.alloc (.cells #[.bool sq, .slice aq lq.length lq.length] 24)).alloc (.cells #[.bool sr, .slice ar lr.length lr.length] 24)) (w.heap.size + 1 + 1) (.bool false) (.slice none 0 0) := XC.kept (gb_alloc (gb_alloc (gb_refl _ none) _) _) (by simp)
  have d0 := E2.c0
  have d1 := E2.c1
  have d2 := E2.f0
  have d3 := E2.f1
  have d4 := E2.lt
  go_wp2
  have D2 := E2.put (.bool sr) (.slice ar lr.length lr.length)
  refine bodyPost_ret (v := .agg #[.bool sr, .slice ar lr.length lr.length]) (by simp [results, Try.results41, go_sem, D2.c0, D2.c1]) rfl ?_
  refine ⟨sr, ar, lr, rfl, ?_, ⟨_, HD.out⟩, ?_⟩
  · exact ((hr1.grown (gb_alloc (gb_alloc (gb_refl _ none) _) _)).kept (gb_set (gb_set (gb_refl _ (some (w.heap.size + 1 + 1))) _ _ (.inl rfl)) _ _ (.inl rfl)) (fun i e => by cases e; exact hr1.off (by first | (simp; done) | (simp; omega) | omega))).sl
  · exact gb_set (gb_set (show w.grownBy _ none from (by repeat (first | exact gb_refl _ _ | apply gb_drew | apply gb_alloc | (refine gb_then ?_ (by assumption) (by simp))))) _ _ (.inr (show w.heap.size ≤ w.heap.size + 1 + 1 by omega))) _ _ (.inr (show w.heap.size ≤ w.heap.size + 1 + 1 by omega))
end Go.Proofs.Ytonfnkchpicoiaa
