/-
  heap: the small functions.
-/
import Derived.Test.YtlkbnjdhokjfnaaHBase
import Derived.Test.YtlkbnjdhokjfnaaEnc
import Derived.Laws.BitsAllLaws
import Derived.Test.YtlkbnjdhokjfnaaBack
namespace Go.Proofs.Ytlkbnjdhokjfnaa
set_option linter.unusedSimpArgs false
set_option linter.unusedVariables false
open Go.RowKit
attribute [local go_sem ↓] Go.wp_at_zero Go.wp_at_succ

theorem among_raw (n l g : Int) (w : World) : Calls Try.prog 53 #[.int .i64 n, .int .i64 l, .int .i64 g] w fun e w' => e = .returned (.bool (decide (l ≤ n) && decide (n ≤ g))) ∧ w' = w := by
  by_cases h1 : l ≤ n
  · by_cases h2 : n ≤ g
    · go_enter Try.func53, Try.ntmps53
      go_wp2
      go_ret
      exact ⟨ret_bool (by simp [h1, h2]), rfl⟩
    · rw [Int.not_le] at h2
      go_enter Try.func53, Try.ntmps53
      go_wp2
      go_ret
      exact ⟨ret_bool (by simp [h1, h2]), rfl⟩
  · rw [Int.not_le] at h1
    go_enter Try.func53, Try.ntmps53
    go_wp2
    go_ret
    exact ⟨ret_bool (by simp; omega), rfl⟩

theorem hasBytes_raw (k : Int) (w : World) : Calls Try.prog 52 #[.int .i64 k] w fun e w' => e = .returned (.bool (Hp.isRow k)) ∧ w' = w := by
  by_cases h2 : k = 2
  · subst h2
    go_enter Try.func52, Try.ntmps52
    go_wp2
    go_ret
    exact ⟨rfl, rfl⟩
  by_cases h7 : k = 7
  · subst h7
    go_enter Try.func52, Try.ntmps52
    go_wp2
    go_ret
    exact ⟨rfl, rfl⟩
  by_cases h3 : k = 3
  · subst h3
    go_enter Try.func52, Try.ntmps52
    go_wp2
    go_ret
    exact ⟨rfl, rfl⟩
  have d2 : (k == 2) = false := by simpa using h2
  have d7 : (k == 7) = false := by simpa using h7
  have d3 : (k == 3) = false := by simpa using h3
  go_enter Try.func52, Try.ntmps52
  go_wp2
  go_ret
  exact ⟨ret_bool (by simp only [Hp.isRow, d2, d7, d3]; simp), rfl⟩

/-- bytes as cells, one by one -/
def eB (b : UInt8) : List Value := [.int .u8 (b.toNat : Int)]

theorem num_snoc (l : List UInt8) (b : UInt8) : Hp.num (l ++ [b]) = Hp.num l + b.toNat * 2 ^ (8 * l.length) := by
  induction l with
  | nil => simp [Hp.num]
  | cons x r ih =>
    simp only [List.cons_append, Hp.num, ih, List.length_cons]
    have e : 2 ^ (8 * (r.length + 1)) = 256 * 2 ^ (8 * r.length) := by rw [Nat.mul_add, Nat.pow_add]; omega
    rw [e]
    generalize 2 ^ (8 * r.length) = q
    have : b.toNat * (256 * q) = 256 * (b.toNat * q) := by rw [← Nat.mul_assoc, ← Nat.mul_assoc, Nat.mul_comm b.toNat 256]
    rw [this]
    omega
theorem or_shift (c p sh : Nat) (h : c < 2 ^ sh) : c ||| p * 2 ^ sh = c + p * 2 ^ sh := by
  have := Nat.shiftLeft_add_eq_or_of_lt h p
  rw [Nat.shiftLeft_eq] at this
  rw [Nat.or_comm, ← this, Nat.add_comm]
theorem p256 (k : Nat) : 256 ^ k = 2 ^ (8 * k) := by rw [show (256 : Nat) = 2 ^ 8 from rfl, ← Nat.pow_mul]
theorem or_byte (c p k : Nat) (hk : k < 8) (hc : c < 2 ^ (8 * k)) (hp : p < 256) : bits .or .u64 (c : Int) (IntKind.u64.wrap ((p : Int) * 2 ^ (8 * k))) = ((c + p * 2 ^ (8 * k) : Nat) : Int) := by
  have h1 : 2 ^ (8 * k) ≤ 2 ^ 56 := Nat.pow_le_pow_right (by omega) (by omega)
  have h2 : p * 2 ^ (8 * k) ≤ 255 * 2 ^ 56 := Nat.mul_le_mul (by omega) h1
  have e : (p : Int) * 2 ^ (8 * k) = ((p * 2 ^ (8 * k) : Nat) : Int) := by simp
  have e2 : IntKind.u64.wrap ((p * 2 ^ (8 * k) : Nat) : Int) = ((p * 2 ^ (8 * k) : Nat) : Int) := by
    generalize p * 2 ^ (8 * k) = q at *
    simp [IntKind.wrap, IntKind.bits, IntKind.signed]
    omega
  rw [e, e2, ← or_shift c p _ hc]
  exact u64_or_nat c (p * 2 ^ (8 * k)) (by omega) (by omega)

set_option maxHeartbeats 1000000 in
theorem wordOf_raw (v : Value) (l : List UInt8) (w : World) (h : LD 1 eB w v l) (h8 : 8 ≤ l.length) : Calls Try.prog 73 #[v] w fun e w' => e = .returned (.int .u64 (Hp.num (l.take 8) : Int)) ∧ w' = w := by
  obtain ⟨a, c, rfl, hc, hcm, hat⟩ := h
  obtain ⟨g, o, rfl, hg, hcell⟩ := hat (by omega)
  obtain ⟨n, hn⟩ : ∃ n, l.length = n := ⟨_, rfl⟩
  have HC : Hid (∀ k (hk : k < l.length), w.cell? ⟨g, o + k, none⟩ = some (.int .u8 ((l[k]).toNat : Int))) := fun k hk => by
    have := hcell k hk 0 (by omega)
    simpa [eB] using this
  have HN := hid hn
  rw [hn] at h8 hc
  rw [hn]
  clear hcell hat hn
  go_enter Try.func73, Try.ntmps73
  go_wp2
  go_loopw [3, 5] (fun x i wr => ∃ k : Nat, k ≤ 8 ∧ i = .int .i64 k ∧ x = .int .u64 (Hp.num (l.take k) : Int) ∧ wr = w) (fun _ i _ => 8 - (intOf i).toNat)
  case atStart => exact ⟨0, by omega, rfl, by simp [Hp.num], rfl⟩
  case round =>
    obtain ⟨k, hk, rfl, rfl, rfl⟩ := hrel
    by_cases hlt : k < 8
    · have hll : k < l.length := by have := HN.out; omega
      have hq := HC.out k hll
      have htk : l.take (k + 1) = l.take k ++ [l[k]] := by rw [List.take_add_one, List.getElem?_eq_getElem hll]; rfl
      have hlk : (l.take k).length = k := by simp; omega
      have hlt2 := Hp.num_lt (l.take k)
      rw [hlk, p256] at hlt2
      have hor := or_byte _ (l[k]).toNat k hlt hlt2 (l[k]).toNat_lt
      have HE : Hid (Hp.num (l.take (k + 1)) = Hp.num (l.take k) + (l[k]).toNat * 2 ^ (8 * k)) := hid (by rw [htk, num_snoc, hlk])
      have hb := (l[k]).toNat_lt
      have hki : (k : Int) < 8 := by omega
      have hkn : (k : Int) < (n : Int) := by omega
      have e1 : IntKind.i64.wrap (8 * (k : Int)) = 8 * (k : Int) := by simp [IntKind.wrap, IntKind.bits, IntKind.signed]; omega
      have e2 : (8 * (k : Int)).toNat = 8 * k := by omega
      have e3 : (0 : Int) ≤ 8 * (k : Int) := by omega
      clear hlt2 htk hlk HC
      generalize Hp.num (l.take k) = c0 at *
      generalize (l[k]).toNat = b0 at *
      go_wp2
      go_roundw
      case rel =>
        refine ⟨k + 1, by omega, by go_num, ?_, trivial⟩
        rw [HE.out]
        simp
      case measure => simp [intOf]; omega
    · obtain rfl : k = 8 := by omega
      go_wp2
      go_ret
      exact ⟨rfl, rfl⟩
end Go.Proofs.Ytlkbnjdhokjfnaa
namespace Go.Proofs.Ytlkbnjdhokjfnaa
set_option linter.unusedSimpArgs false
set_option linter.unusedVariables false
open Go.RowKit
attribute [local go_sem ↓] Go.wp_at_zero Go.wp_at_succ

theorem bl_loop (a : ByteArray) : ∀ (n i : Nat) (r : List UInt8), a.size - i = n → ByteArray.toList.loop a i r = r.reverse ++ a.data.toList.drop i := by
  intro n
  induction n with
  | zero =>
    intro i r h
    unfold ByteArray.toList.loop
    rw [if_neg (by omega), List.drop_eq_nil_of_le (by simp; have := a.size_data; omega)]
    simp
  | succ n ih =>
    intro i r h
    unfold ByteArray.toList.loop
    rw [if_pos (by omega), ih (i + 1) _ (by omega)]
    have hi : i < a.data.toList.length := by simp; have := a.size_data; omega
    rw [List.drop_eq_getElem_cons hi, List.reverse_cons, List.append_assoc]
    have h2 : i < a.data.size := by have := a.size_data; omega
    have e : a.get! i = a.data.toList[i] := by
      show a.data[i]! = _
      rw [getElem!_pos a.data i h2]; simp
    rw [e]; rfl
theorem bl (a : ByteArray) : a.toList = a.data.toList := by
  unfold ByteArray.toList
  rw [bl_loop a _ 0 [] rfl]; simp
theorem ext_list (s : ByteArray) (a : Nat) : (s.extract a s.size).data.toList = s.data.toList.drop a := by
  have e : (s.extract a s.size).data = s.data.extract a s.size := by simp
  rw [e]
  simp only [Array.toList_extract, List.extract_eq_take_drop]
  exact List.take_of_length_le (by simp)

theorem BR.ldB {w : World} {v : Value} {l : List UInt8} (h : BR w v l) : LD 1 eB w v l := by
  obtain ⟨hrw, hat⟩ := h
  rcases hrw with ⟨rfl, e⟩ | ⟨g, cap, rfl, hg, h1, h2, h3⟩
  · obtain rfl := List.length_eq_zero_iff.1 e
    exact LD.nil _ _ _
  · refine ⟨_, cap, rfl, h1, by unfold maxLen at h2; omega, fun _ => ⟨g, 0, rfl, hg, fun i hi j hj => ?_⟩⟩
    obtain rfl : j = 0 := by omega
    rw [Nat.zero_add, Nat.mul_one, Nat.add_zero]
    exact hat i hi

theorem num_zero4 {l : List UInt8} (h : l.length = 4) : Hp.num l = 0 ↔ l = [0, 0, 0, 0] := by
  match l, h with
  | [a, b, c, d], _ =>
    constructor
    · intro h
      simp only [Hp.num] at h
      have ha : a.toNat = (0 : UInt8).toNat := by show a.toNat = 0; omega
      have hb : b.toNat = (0 : UInt8).toNat := by show b.toNat = 0; omega
      have hc : c.toNat = (0 : UInt8).toNat := by show c.toNat = 0; omega
      have hd : d.toNat = (0 : UInt8).toNat := by show d.toNat = 0; omega
      rw [UInt8.toNat_inj.1 ha, UInt8.toNat_inj.1 hb, UInt8.toNat_inj.1 hc, UInt8.toNat_inj.1 hd]
    · intro h; rw [h]; rfl

/-- is it a great number? -/
def bigB (s : List UInt8) (below : Bool) : Bool := decide (8 ≤ s.length ∧ s.length % 4 = 0 ∧ Hp.num (s.drop (s.length - 4)) ≠ 0 ∧ (8 < s.length ∨ (4611686018427387903 : Int) + (cond below 1 0) < (Hp.num s : Int)))

set_option maxHeartbeats 1000000 in
set_option maxRecDepth 100000 in
theorem isBig_raw (s : ByteArray) (b : Bool) (w : World) (hs : s.size ≤ 1073741824) : Calls Try.prog 54 #[.string s, .bool b] w fun e w' => e = .returned (.bool (bigB s.data.toList b)) ∧ Tn No w w' := by
  have hl : s.data.toList.length = s.size := by simp
  obtain ⟨r, hr⟩ : ∃ r, bigB s.data.toList b = r := ⟨_, rfl⟩
  have HR := hid hr
  rw [hr]
  clear hr
  have HT := hid (Tn.refl No w)
  by_cases h1 : s.size % 4 = 0
  · by_cases h2 : 8 ≤ s.size
    · have i1 : ((s.size : Int) % 4 == 0) = true := by simp; omega
      have i2 : (8 : Int) ≤ (s.size : Int) := by omega
      have i3 : (4 : Int) ≤ (s.size : Int) ∧ (s.size : Int) - 4 ≤ (s.size : Int) := by omega
      have hd4 : (s.data.toList.drop (s.size - 4)).length = 4 := by simp; omega
      have hz := num_zero4 hd4
      rw [← ext_list, ← bl] at hz
      have hnz : Hp.num (s.data.toList.drop (s.data.toList.length - 4)) = Hp.num (s.extract (s.size - 4) s.size).toList := by rw [hl, ← ext_list, ← bl]
      cases h3 : ((s.extract (s.size - 4) s.size).toList == [0, 0, 0, 0]) with
      | true =>
        have e : r = false := by
          rw [← HR.out]
          simp only [bigB, decide_eq_false_iff_not, not_and]
          intro _ _ hn
          rw [hnz] at hn
          exact absurd (hz.2 (by simpa using h3)) hn
        subst e
        clear hz hnz hd4 HR
        go_enter Try.func54, Try.ntmps54
        go_wp2
        go_ret
        exact ⟨rfl, HT.out⟩
      | false =>
        have hnn : Hp.num (s.extract (s.size - 4) s.size).toList ≠ 0 := fun e => by
          rw [hz.1 e] at h3; simp at h3
        by_cases h4 : 8 < s.size
        · have e : r = true := by
            rw [← HR.out]
            simp only [bigB, decide_eq_true_eq]
            exact ⟨by omega, by omega, by rw [hnz]; exact hnn, .inl (by omega)⟩
          subst e
          have i4 : (8 : Int) < (s.size : Int) := by omega
          clear hz hnz hd4 HR hnn
          go_enter Try.func54, Try.ntmps54
          go_wp2
          go_ret
          exact ⟨rfl, HT.out⟩
        · have h8 : s.size = 8 := by omega
          have e : r = decide ((4611686018427387903 : Int) + (cond b 1 0) < (Hp.num s.data.toList : Int)) := by
            rw [← HR.out]
            simp only [bigB, decide_eq_decide]
            constructor
            · rintro ⟨_, _, _, h | h⟩
              · omega
              · exact h
            · intro h
              exact ⟨by omega, by omega, by rw [hnz]; exact hnn, .inr h⟩
          have HE := hid e
          have i4 : (s.size : Int) ≤ 8 := by omega
          have htk : s.data.toList.take 8 = s.data.toList := List.take_of_length_le (by omega)
          have HW : Hid (∀ g cap w1, BR w1 (.slice (some ⟨g, 0, none⟩) 8 cap) s.data.toList → Calls Try.prog 73 #[.slice (some ⟨g, 0, none⟩) 8 cap] w1 fun e w' => e = .returned (.int .u64 (Hp.num s.data.toList : Int)) ∧ w' = w1) := hid (fun g cap w1 hb => by
            have := wordOf_raw _ _ w1 hb.ldB (by omega)
            rw [htk] at this
            exact this)
          obtain ⟨q, hq⟩ : ∃ q, Hp.num s.data.toList = q := ⟨_, rfl⟩
          rw [hq] at HW HE
          have H8 := hid h8
          clear hz hnz hd4 HR hnn e hq htk h8 h1 h2 h4 hl
          go_enter Try.func54, Try.ntmps54
          go_wp2_with (first
            | (go_at_call 73; refine (HW.out _ _ _ HB.out).mono ?_; rintro e w' ⟨rfl, rfl⟩)
            | (refine wpList_bytes _ rfl _ rfl s rfl (by unfold maxLen; omega) ?_; intro g cap w1 hbr t1 hg1 hg2; rw [H8.out] at hbr ⊢; have HB := hid hbr; have HT1 := hid t1; clear hbr t1))
          all_goals
            go_ret
            refine ⟨ret_bool ?_, HT1.out⟩
            rw [HE.out]
            cases b <;> simp <;> omega
    · have i2 : (s.size : Int) < 8 := by omega
      have i1 : ((s.size : Int) % 4 == 0) = true := by simp; omega
      have e : r = false := by
        rw [← HR.out]
        simp only [bigB, decide_eq_false_iff_not, not_and]
        intro h; omega
      subst e
      clear HR
      go_enter Try.func54, Try.ntmps54
      go_wp2
      go_ret
      exact ⟨rfl, HT.out⟩
  · have i1 : ((s.size : Int) % 4 == 0) = false := by simp; omega
    have e : r = false := by
      rw [← HR.out]
      simp only [bigB, decide_eq_false_iff_not, not_and]
      intro _ h; omega
    subst e
    clear HR
    go_enter Try.func54, Try.ntmps54
    go_wp2
    go_ret
    exact ⟨rfl, HT.out⟩
end Go.Proofs.Ytlkbnjdhokjfnaa
namespace Go.Proofs.Ytlkbnjdhokjfnaa
set_option linter.unusedSimpArgs false
set_option linter.unusedVariables false
open Go.RowKit
attribute [local go_sem ↓] Go.wp_at_zero Go.wp_at_succ

def mayT (t : Th) : Bool := Hp.mayBe t.kind t.tag t.bytes.data.toList t.refs.length
def mayR (kind tag : Int) (s : ByteArray) (n : Nat) : Bool := Hp.mayBe kind tag s.data.toList n

theorem hasB_at {k : Int} {b : Bool} (h : Hp.isRow k = b) (w : World) : Calls Try.prog 52 #[.int .i64 k] w fun e w' => e = .returned (.bool b) ∧ w' = w := by
  rw [← h]; exact hasBytes_raw k w
theorem among_at {n l g : Int} {b : Bool} (h : (decide (l ≤ n) && decide (n ≤ g)) = b) (w : World) : Calls Try.prog 53 #[.int .i64 n, .int .i64 l, .int .i64 g] w fun e w' => e = .returned (.bool b) ∧ w' = w := by
  rw [← h]; exact among_raw n l g w

theorem may_row {k tag : Int} {s : ByteArray} {n : Nat} (h : Hp.isRow k = true) (hn : 0 < n) : mayR k tag s n = false := by
  simp only [mayR, Hp.mayBe, h, if_true]
  rw [decide_eq_false (by omega)]; rfl
theorem may_not {k tag : Int} {s : ByteArray} {n : Nat} (h : Hp.isRow k = false) (hs : 0 < s.size) : mayR k tag s n = false := by
  have : s.data.toList.isEmpty = false := by
    rw [List.isEmpty_eq_false_iff]
    intro e
    have h2 : s.data.toList.length = s.size := by simp
    have h1 : s.size = 0 := h2.symm.trans (congrArg List.length e)
    omega
  simp only [mayR, Hp.mayBe, h, this, Bool.false_eq_true, if_false, Bool.false_and]

set_option maxHeartbeats 2000000 in
set_option maxRecDepth 100000 in
theorem tmb_row0 (k tag : Int) (s : ByteArray) (a : Option Addr) (n c : Nat) (w : World) (hk : Hp.isRow k = true) (hn : 0 < n) :
    Calls Try.prog 29 #[.agg #[.int .i64 k, .int .i64 tag, .string s, .slice a n c]] w fun e w' => e = .returned (.bool false) ∧ Tn No w w' := by
  have HB := hid (fun u => hasB_at hk u)
  have i0 : (0 : Int) < (n : Int) := by omega
  have HT : Hid (∀ o, Tn No w (w.alloc o)) := hid (fun o => (Tn.refl No w).alloc o)
  clear hk hn
  go_enter Try.func29, Try.ntmps29
  go_wp2_with (go_at_call 52; refine (HB.out _).mono ?_; rintro e w' ⟨rfl, rfl⟩)
  go_ret
  exact ⟨rfl, HT.out _⟩

set_option maxHeartbeats 2000000 in
set_option maxRecDepth 100000 in
theorem tmb_not0 (k tag : Int) (s : ByteArray) (a : Option Addr) (n c : Nat) (w : World) (hk : Hp.isRow k = false) (hn : 0 < s.size) :
    Calls Try.prog 29 #[.agg #[.int .i64 k, .int .i64 tag, .string s, .slice a n c]] w fun e w' => e = .returned (.bool false) ∧ Tn No w w' := by
  have HB := hid (fun u => hasB_at hk u)
  have i0 : (0 : Int) < (s.size : Int) := by omega
  have HT : Hid (∀ o, Tn No w (w.alloc o)) := hid (fun o => (Tn.refl No w).alloc o)
  clear hk hn
  go_enter Try.func29, Try.ntmps29
  go_wp2_with (go_at_call 52; refine (HB.out _).mono ?_; rintro e w' ⟨rfl, rfl⟩)
  go_ret
  exact ⟨rfl, HT.out _⟩

set_option maxHeartbeats 8000000 in
set_option maxRecDepth 100000 in
theorem tmb_row (k tag : Int) (s : ByteArray) (a : Option Addr) (c : Nat) (w : World) (hk : k = 2 ∨ k = 7 ∨ k = 3 ∨ k = 4) (hs : s.size ≤ 1073741824) :
    Calls Try.prog 29 #[.agg #[.int .i64 k, .int .i64 tag, .string s, .slice a 0 c]] w fun e w' => e = .returned (.bool (mayR k tag s 0)) ∧ Tn No w w' := by
  have HT : Hid (∀ o, Tn No w (w.alloc o)) := hid (fun o => (Tn.refl No w).alloc o)
  have HT2 : Hid (∀ o w', Tn No (w.alloc o) w' → Tn No w w') := hid (fun o w' t => ((Tn.refl No w).alloc o).then t)
  rcases hk with rfl | rfl | rfl | rfl
  · have HB := hid (fun u => hasB_at (k := 2) (b := true) rfl u)
    go_enter Try.func29, Try.ntmps29
    go_wp2_with (go_at_call 52; refine (HB.out _).mono ?_; rintro e w' ⟨rfl, rfl⟩)
    go_ret
    exact ⟨ret_bool (by rw [Bool.eq_iff_iff]; simp [mayR, Hp.mayBe, Hp.isRow]; try omega), HT.out _⟩
  · have HB := hid (fun u => hasB_at (k := 7) (b := true) rfl u)
    go_enter Try.func29, Try.ntmps29
    go_wp2_with (go_at_call 52; refine (HB.out _).mono ?_; rintro e w' ⟨rfl, rfl⟩)
    go_ret
    exact ⟨ret_bool (by rw [Bool.eq_iff_iff]; simp [mayR, Hp.mayBe, Hp.isRow]; try omega), HT.out _⟩
  · have HB := hid (fun u => hasB_at (k := 3) (b := true) rfl u)
    by_cases ht : 0 ≤ tag ∧ tag ≤ 1
    · have HA := hid (fun u => among_at (n := tag) (l := 0) (g := 1) (b := true) (by simp [ht.1, ht.2]) u)
      obtain ⟨b, hb⟩ : ∃ b, (tag == 1) = b := ⟨_, rfl⟩
      have HI := hid (fun u => isBig_raw s b u hs)
      have HE : Hid (mayR 3 tag s 0 = bigB s.data.toList b) := by
        apply hid
        have e : ((cond b 1 0 : Int)) = tag := by
          rcases (by omega : tag = 0 ∨ tag = 1) with rfl | rfl <;> subst hb <;> rfl
        simp only [mayR, Hp.mayBe, Hp.isRow, bigB, e]
        simp only [ht.1, ht.2, true_and]
        simp
      rw [HE.out]
      clear ht HE
      generalize bigB s.data.toList b = r at *
      go_enter Try.func29, Try.ntmps29
      go_wp2_with (first
        | (go_at_call 52; refine (HB.out _).mono ?_; rintro e w' ⟨rfl, rfl⟩)
        | (go_at_call 53; refine (HA.out _).mono ?_; rintro e w' ⟨rfl, rfl⟩)
        | (go_at_call 54; refine (HI.out _).mono ?_; rintro e w' ⟨rfl, t1⟩; have HT1 := hid t1; clear t1))
      go_ret
      exact ⟨rfl, HT2.out _ _ HT1.out⟩
    · have HA := hid (fun u => among_at (n := tag) (l := 0) (g := 1) (b := false) (by simp; omega) u)
      have HE : Hid (mayR 3 tag s 0 = false) := by
        apply hid
        simp only [mayR, Hp.mayBe, Hp.isRow]
        simp
        intro h1 h2; omega
      rw [HE.out]
      clear ht HE
      go_enter Try.func29, Try.ntmps29
      go_wp2_with (first
        | (go_at_call 52; refine (HB.out _).mono ?_; rintro e w' ⟨rfl, rfl⟩)
        | (go_at_call 53; refine (HA.out _).mono ?_; rintro e w' ⟨rfl, rfl⟩))
      go_ret
      exact ⟨rfl, HT.out _⟩
  · have HB := hid (fun u => hasB_at (k := 4) (b := true) rfl u)
    by_cases ht : tag = 0
    · subst ht
      go_enter Try.func29, Try.ntmps29
      go_wp2_with (go_at_call 52; refine (HB.out _).mono ?_; rintro e w' ⟨rfl, rfl⟩)
      go_ret
      exact ⟨ret_bool (by rw [Bool.eq_iff_iff]; simp [mayR, Hp.mayBe, Hp.isRow]; try omega), HT.out _⟩
    · have ht2 : (tag == 0) = false := by simpa using ht
      go_enter Try.func29, Try.ntmps29
      go_wp2_with (go_at_call 52; refine (HB.out _).mono ?_; rintro e w' ⟨rfl, rfl⟩)
      go_ret
      exact ⟨ret_bool (by rw [Bool.eq_iff_iff]; simp [mayR, Hp.mayBe, Hp.isRow, ht]; try omega), HT.out _⟩

set_option maxHeartbeats 8000000 in
set_option maxRecDepth 100000 in
theorem tmb_not (k tag : Int) (a : Option Addr) (n c : Nat) (w : World) (hk : k = 1 ∨ k = 5 ∨ k = 6 ∨ k = 8) :
    Calls Try.prog 29 #[.agg #[.int .i64 k, .int .i64 tag, .string ⟨#[]⟩, .slice a n c]] w fun e w' => e = .returned (.bool (mayR k tag ⟨#[]⟩ n)) ∧ Tn No w w' := by
  have HT : Hid (∀ o, Tn No w (w.alloc o)) := hid (fun o => (Tn.refl No w).alloc o)
  have e0 : (ByteArray.mk #[]).size = 0 := rfl
  rcases hk with rfl | rfl | rfl | rfl
  · have HB := hid (fun u => hasB_at (k := 1) (b := false) rfl u)
    have HA := hid (fun u => among_raw tag 0 65535 u)
    go_enter Try.func29, Try.ntmps29
    go_wp2_with (first
        | (go_at_call 52; refine (HB.out _).mono ?_; rintro e w' ⟨rfl, rfl⟩)
        | (go_at_call 53; refine (HA.out _).mono ?_; rintro e w' ⟨rfl, rfl⟩))
    go_ret
    exact ⟨ret_bool (by rw [Bool.eq_iff_iff]; simp [mayR, Hp.mayBe, Hp.isRow]; try omega), HT.out _⟩
  · have HB := hid (fun u => hasB_at (k := 5) (b := false) rfl u)
    by_cases ht : tag = 0
    · subst ht
      go_enter Try.func29, Try.ntmps29
      go_wp2_with (go_at_call 52; refine (HB.out _).mono ?_; rintro e w' ⟨rfl, rfl⟩)
      go_ret
      exact ⟨ret_bool (by rw [Bool.eq_iff_iff]; simp [mayR, Hp.mayBe, Hp.isRow]; try omega), HT.out _⟩
    · have ht2 : (tag == 0) = false := by simpa using ht
      go_enter Try.func29, Try.ntmps29
      go_wp2_with (go_at_call 52; refine (HB.out _).mono ?_; rintro e w' ⟨rfl, rfl⟩)
      go_ret
      exact ⟨ret_bool (by rw [Bool.eq_iff_iff]; simp [mayR, Hp.mayBe, Hp.isRow, ht]; try omega), HT.out _⟩
  · have HB := hid (fun u => hasB_at (k := 6) (b := false) rfl u)
    go_enter Try.func29, Try.ntmps29
    go_wp2_with (go_at_call 52; refine (HB.out _).mono ?_; rintro e w' ⟨rfl, rfl⟩)
    go_ret
    exact ⟨ret_bool (by rw [Bool.eq_iff_iff]; simp [mayR, Hp.mayBe, Hp.isRow]; try omega), HT.out _⟩
  · have HB := hid (fun u => hasB_at (k := 8) (b := false) rfl u)
    have HA := hid (fun u => among_raw tag 0 4194303 u)
    go_enter Try.func29, Try.ntmps29
    go_wp2_with (first
        | (go_at_call 52; refine (HB.out _).mono ?_; rintro e w' ⟨rfl, rfl⟩)
        | (go_at_call 53; refine (HA.out _).mono ?_; rintro e w' ⟨rfl, rfl⟩))
    go_ret
    exact ⟨ret_bool (by rw [Bool.eq_iff_iff]; simp [mayR, Hp.mayBe, Hp.isRow]; try omega), HT.out _⟩

set_option maxHeartbeats 8000000 in
set_option maxRecDepth 100000 in
theorem tmb_none (k tag : Int) (a : Option Addr) (n c : Nat) (w : World) (h1 : k ≠ 1) (h2 : k ≠ 2) (h3 : k ≠ 3) (h4 : k ≠ 4) (h5 : k ≠ 5) (h6 : k ≠ 6) (h7 : k ≠ 7) (h8 : k ≠ 8) :
    Calls Try.prog 29 #[.agg #[.int .i64 k, .int .i64 tag, .string ⟨#[]⟩, .slice a n c]] w fun e w' => e = .returned (.bool false) ∧ Tn No w w' := by
  have HT : Hid (∀ o, Tn No w (w.alloc o)) := hid (fun o => (Tn.refl No w).alloc o)
  have e0 : (ByteArray.mk #[]).size = 0 := rfl
  have d1 : (k == 1) = false := by simpa using h1
  have d2 : (k == 2) = false := by simpa using h2
  have d3 : (k == 3) = false := by simpa using h3
  have d4 : (k == 4) = false := by simpa using h4
  have d5 : (k == 5) = false := by simpa using h5
  have d6 : (k == 6) = false := by simpa using h6
  have d7 : (k == 7) = false := by simpa using h7
  have d8 : (k == 8) = false := by simpa using h8
  have HB := hid (fun u => hasB_at (k := k) (b := false) (by simp only [Hp.isRow, d2, d3, d4, d7]; rfl) u)
  clear h1 h2 h3 h4 h5 h6 h7 h8
  go_enter Try.func29, Try.ntmps29
  go_wp2_with (go_at_call 52; refine (HB.out _).mono ?_; rintro e w' ⟨rfl, rfl⟩)
  go_ret
  exact ⟨rfl, HT.out _⟩

theorem size0 {s : ByteArray} (h : ¬ 0 < s.size) : s = ⟨#[]⟩ := by
  obtain ⟨d⟩ := s
  have : d.size = 0 := by simpa [ByteArray.size] using h
  rw [Array.eq_empty_of_size_eq_zero this]

theorem tmb_raw (k tag : Int) (s : ByteArray) (a : Option Addr) (n c : Nat) (w : World) (hs : s.size ≤ 1073741824) :
    Calls Try.prog 29 #[.agg #[.int .i64 k, .int .i64 tag, .string s, .slice a n c]] w fun e w' => e = .returned (.bool (mayR k tag s n)) ∧ Tn No w w' := by
  cases hr : Hp.isRow k with
  | true =>
    by_cases hn : 0 < n
    · rw [may_row hr hn]; exact tmb_row0 k tag s a n c w hr hn
    · obtain rfl : n = 0 := by omega
      exact tmb_row k tag s a c w (by simp [Hp.isRow] at hr; omega) hs
  | false =>
    by_cases hn : 0 < s.size
    · rw [may_not hr hn]; exact tmb_not0 k tag s a n c w hr hn
    · obtain rfl := size0 hn
      by_cases h1 : k = 1
      · exact tmb_not k tag a n c w (by omega)
      by_cases h5 : k = 5
      · exact tmb_not k tag a n c w (by omega)
      by_cases h6 : k = 6
      · exact tmb_not k tag a n c w (by omega)
      by_cases h8 : k = 8
      · exact tmb_not k tag a n c w (by omega)
      simp [Hp.isRow] at hr
      have e : mayR k tag ⟨#[]⟩ n = false := by
        simp only [mayR, Hp.mayBe]
        rw [if_neg h1, if_neg h8, if_neg (show ¬ (k = 2 ∨ k = 6 ∨ k = 7) by omega), if_neg (show ¬ k = 4 by omega), if_neg h5, if_neg (show ¬ k = 3 by omega)]
        simp
      rw [e]
      exact tmb_none k tag a n c w h1 (by omega) (by omega) (by omega) h5 h6 (by omega) h8
end Go.Proofs.Ytlkbnjdhokjfnaa
namespace Go.Proofs.Ytlkbnjdhokjfnaa
set_option linter.unusedSimpArgs false
set_option linter.unusedVariables false
open Go.RowKit
attribute [local go_sem ↓] Go.wp_at_zero Go.wp_at_succ

theorem or_cat (a b sh : Nat) (ha : a < 2 ^ sh) (h1 : a < 18446744073709551616) (h2 : b * 2 ^ sh < 18446744073709551616) : bits .or .u64 (a : Int) ((b : Int) * (2 ^ sh : Nat)) = ((a + b * 2 ^ sh : Nat) : Int) := by
  have h := u64_or_nat a (b * 2 ^ sh) h1 h2
  rw [or_shift a b sh ha] at h
  rw [← h]
  simp
theorem or_head (K T L : Nat) (hK : K ≤ 8) (hT : T ≤ 65535) (hL : L ≤ 1099511627775) : bits .or .u64 (bits .or .u64 (bits .or .u64 1 ((K : Int) * 2)) ((T : Int) * 256)) ((L : Int) * 16777216) = ((1 + 2 * K + 256 * T + 16777216 * L : Nat) : Int) := by
  have e1 := or_cat 1 K 1 (by omega) (by omega) (by omega)
  have e2 := or_cat (1 + K * 2 ^ 1) T 8 (by omega) (by omega) (by omega)
  have e3 := or_cat (1 + K * 2 ^ 1 + T * 2 ^ 8) L 24 (by omega) (by omega) (by omega)
  have f1 : ((2 ^ 1 : Nat) : Int) = 2 := rfl
  have f2 : ((2 ^ 8 : Nat) : Int) = 256 := rfl
  have f3 : ((2 ^ 24 : Nat) : Int) = 16777216 := rfl
  rw [f1] at e1
  rw [f2] at e2
  rw [f3] at e3
  have f0 : ((1 : Nat) : Int) = 1 := rfl
  rw [f0] at e1
  rw [e1, e2, e3]
  omega

theorem may_bounds {k tag : Int} {s : ByteArray} {n : Nat} (h : mayR k tag s n = true) : (1 ≤ k ∧ k ≤ 8) ∧ (0 ≤ tag ∧ (k ≠ 8 → tag ≤ 65535) ∧ tag < 4194304) ∧ (Hp.isRow k = true → n = 0) ∧ (Hp.isRow k = false → s = ⟨#[]⟩) := by
  simp only [mayR, Hp.mayBe, Bool.and_eq_true] at h
  obtain ⟨h1, h2⟩ := h
  refine ⟨?_, ?_, fun e => ?_, fun e => ?_⟩
  · repeat' split at h2
    all_goals first | omega | cases h2
  · repeat' split at h2
    all_goals first | (simp at h2; omega) | cases h2
  · rw [e] at h1; simpa using h1
  · rw [e] at h1
    have h3 : s.data.toList.isEmpty = true := by simpa using h1
    have h4 : s.data.toList.length = s.size := by simp
    rw [List.isEmpty_iff.1 h3] at h4
    exact size0 (by simp at h4; omega)

/-- the length in a header -/
def lenR (k : Int) (s : ByteArray) (n : Nat) : Nat := s.size + n + (if k = 8 then 1 else 0)
def headR (k tag : Int) (s : ByteArray) (n : Nat) : Nat := 1 + 2 * k.toNat + 256 * (if k = 8 then 0 else tag.toNat) + 16777216 * lenR k s n
def sizeR (k : Int) (s : ByteArray) (n : Nat) : Nat := 8 * (1 + (s.size + 7) / 8 + n + (if k = 8 then 1 else 0))

set_option maxHeartbeats 2000000 in
set_option maxRecDepth 100000 in
theorem header_raw (k tag : Int) (s : ByteArray) (a : Option Addr) (n c : Nat) (w : World) (hs : s.size ≤ 1073741824) (hn : n ≤ 1073741824) (hm : mayR k tag s n = true) :
    Calls Try.prog 34 #[.agg #[.int .i64 k, .int .i64 tag, .string s, .slice a n c]] w fun e w' => e = .returned (.int .u64 (headR k tag s n : Int)) ∧ Tn No w w' := by
  obtain ⟨⟨b1, b2⟩, ⟨b3, b4, b5⟩, _, _⟩ := may_bounds hm
  clear hm
  by_cases h8 : k = 8
  · subst h8
    have HE : Hid ((headR 8 tag s n : Int) = bits .or .u64 (bits .or .u64 (bits .or .u64 1 16) 0) (((s.size : Int) + (n : Int) + 1) * 16777216)) := by
      apply hid
      have := or_head 8 0 (s.size + n + 1) (by omega) (by omega) (by omega)
      have e1 : ((8 : Nat) : Int) * 2 = 16 := rfl
      have e2 : ((0 : Nat) : Int) * 256 = 0 := rfl
      rw [e1, e2] at this
      have e3 : ((s.size + n + 1 : Nat) : Int) = (s.size : Int) + (n : Int) + 1 := by omega
      rw [e3] at this
      rw [this]
      simp only [headR, lenR, if_true]
      omega
    rw [HE.out]
    clear HE b4
    go_enter Try.func34, Try.ntmps34
    go_wp2_with fail
    go_quiet (fail)
    go_wp2_with fail
    go_ret
    exact ⟨rfl, (by repeat (first | exact Tn.refl _ _ | apply Tn.drew | apply Tn.drewN | apply Tn.alloc | (refine Tn.then ?_ (by assumption)) | (refine Tn.thenNo ?_ (by assumption))))⟩
  · obtain ⟨K, rfl⟩ : ∃ K : Nat, k = (K : Int) := ⟨k.toNat, by omega⟩
    obtain ⟨T, rfl⟩ : ∃ T : Nat, tag = (T : Int) := ⟨tag.toNat, by omega⟩
    have b6 := b4 h8
    have d8 : ((K : Int) == 8) = false := by simpa using h8
    have HE : Hid ((headR K T s n : Int) = bits .or .u64 (bits .or .u64 (bits .or .u64 1 ((K : Int) * 2)) ((T : Int) * 256)) (((s.size : Int) + (n : Int)) * 16777216)) := by
      apply hid
      have := or_head K T (s.size + n) (by omega) (by omega) (by omega)
      have e3 : ((s.size + n : Nat) : Int) = (s.size : Int) + (n : Int) := by omega
      rw [e3] at this
      rw [this]
      simp only [headR, lenR, if_neg h8]
      omega
    rw [HE.out]
    clear HE b4 h8
    go_enter Try.func34, Try.ntmps34
    go_wp2_with fail
    go_quiet (fail)
    go_wp2_with fail
    go_ret
    exact ⟨rfl, (by repeat (first | exact Tn.refl _ _ | apply Tn.drew | apply Tn.drewN | apply Tn.alloc | (refine Tn.then ?_ (by assumption)) | (refine Tn.thenNo ?_ (by assumption))))⟩

set_option maxHeartbeats 2000000 in
set_option maxRecDepth 100000 in
theorem size_raw (k tag : Int) (s : ByteArray) (a : Option Addr) (n c : Nat) (w : World) (hs : s.size ≤ 1073741824) (hn : n ≤ 1073741824) :
    Calls Try.prog 30 #[.agg #[.int .i64 k, .int .i64 tag, .string s, .slice a n c]] w fun e w' => e = .returned (.int .i64 (sizeR k s n : Int)) ∧ Tn No w w' := by
  by_cases h8 : k = 8
  · subst h8
    go_enter Try.func30, Try.ntmps30
    go_wp2
    go_ret
    exact ⟨ret_int (by simp only [sizeR, if_true]; omega), (by repeat (first | exact Tn.refl _ _ | apply Tn.drew | apply Tn.drewN | apply Tn.alloc | (refine Tn.then ?_ (by assumption)) | (refine Tn.thenNo ?_ (by assumption))))⟩
  · have d8 : (k == 8) = false := by simpa using h8
    go_enter Try.func30, Try.ntmps30
    go_wp2
    go_ret
    exact ⟨ret_int (by simp only [sizeR, if_neg h8]; omega), (by repeat (first | exact Tn.refl _ _ | apply Tn.drew | apply Tn.drewN | apply Tn.alloc | (refine Tn.then ?_ (by assumption)) | (refine Tn.thenNo ?_ (by assumption))))⟩

def placeB (n m : Int) : Bool := decide (n % 8 = 0 ∧ n + m ≤ 9223372036854775808)
set_option maxRecDepth 100000 in
theorem place_raw (n m : Int) (w : World) (h0 : 0 ≤ n) (h1 : 0 ≤ m) : Calls Try.prog 46 #[.int .u64 n, .int .u64 m] w fun e w' => e = .returned (.bool (placeB n m)) ∧ w' = w := by
  by_cases h8 : n % 8 = 0
  · by_cases h2 : n ≤ 9223372036854775808
    · go_enter Try.func46, Try.ntmps46
      go_wp2
      go_ret
      exact ⟨ret_bool (by rw [Bool.eq_iff_iff]; simp [placeB]; omega), rfl⟩
    · have h3 : 9223372036854775808 < n := by omega
      clear h2
      go_enter Try.func46, Try.ntmps46
      go_wp2
      go_ret
      exact ⟨ret_bool (by rw [Bool.eq_iff_iff]; simp [placeB]; omega), rfl⟩
  · have d8 : (n % 8 == 0) = false := by simpa using h8
    clear h8
    go_enter Try.func46, Try.ntmps46
    go_wp2
    go_ret
    exact ⟨ret_bool (by rw [Bool.eq_iff_iff]; simp [placeB]; have := d8; simp at this; omega), rfl⟩

/-- a value's word -/
def wordR (ps : List Int) (r : Rf) : Int := if r.1 = 2 then (ps[r.2.toNat]?).getD 0 else (2 * r.2 + 1) % 18446744073709551616

theorem or_one (x : Int) : bits .or .u64 (IntKind.u64.wrap (IntKind.u64.wrap x * 2)) 1 = (2 * x + 1) % 18446744073709551616 := by
  obtain ⟨q, hq⟩ : ∃ q : Nat, (q : Int) = x % 9223372036854775808 := ⟨(x % 9223372036854775808).toNat, by omega⟩
  have e : IntKind.u64.wrap (IntKind.u64.wrap x * 2) = ((q * 2 ^ 1 : Nat) : Int) := by
    simp [IntKind.wrap, IntKind.bits, IntKind.signed]
    omega
  have h := u64_or_nat (q * 2 ^ 1) 1 (by omega) (by omega)
  rw [Nat.or_comm, or_shift 1 q 1 (by omega)] at h
  rw [e]
  have f : ((1 : Nat) : Int) = 1 := rfl
  rw [f] at h
  rw [h]
  omega

set_option maxHeartbeats 1000000 in
set_option maxRecDepth 100000 in
theorem word_raw (r : Rf) (v : Value) (ps : List Int) (w : World) (hp : LD 1 eU w v ps) (hr : r.1 = 2 → 0 ≤ r.2 ∧ r.2 < ps.length) : Calls Try.prog 66 #[.agg #[.int .i64 r.1, .int .i64 r.2], v] w fun e w' => e = .returned (.int .u64 (wordR ps r)) ∧ Tn No w w' := by
  obtain ⟨k, n⟩ := r
  by_cases hk : k = 2
  · obtain ⟨h0, h1⟩ := hr hk
    simp only at hk h0 h1
    subst hk
    obtain ⟨N, rfl⟩ : ∃ N : Nat, n = (N : Int) := ⟨n.toNat, by omega⟩
    obtain ⟨a, c, rfl, hc, hcm, hat⟩ := hp
    obtain ⟨g, o, rfl, hg, hcell⟩ := hat (by omega)
    have hN : N < ps.length := by omega
    have hq := hcell N hN 0 (by omega)
    rw [Nat.mul_one, Nat.add_zero] at hq
    have e : wordR ps (2, (N : Int)) = ps[N] := by simp [wordR, hN]
    rw [e]
    simp only [eU, List.getElem?_cons_zero] at hq
    clear hcell hat hr h0
    simp only
    generalize ps[N] = x at *
    generalize ps.length = m at *
    have hq2 : (w.alloc (.cells #[.int .i64 2, .int .i64 (N : Int)] 61)).cell? ⟨g, o + N, none⟩ = some (.int .u64 x) := by
      rw [((Tn.refl No w).alloc _).cell hg (fun e => e)]; exact hq
    go_enter Try.func66, Try.ntmps66
    go_wp2
    go_ret
    exact ⟨rfl, (by repeat (first | exact Tn.refl _ _ | apply Tn.drew | apply Tn.drewN | apply Tn.alloc | (refine Tn.then ?_ (by assumption)) | (refine Tn.thenNo ?_ (by assumption))))⟩
  · have d : (k == 2) = false := by simpa using hk
    have e : wordR ps (k, n) = bits .or .u64 (IntKind.u64.wrap (IntKind.u64.wrap n * 2)) 1 := by rw [or_one]; simp [wordR, hk]
    rw [e]
    clear e hr hp hk
    simp only
    go_enter Try.func66, Try.ntmps66
    go_wp2
    go_ret
    exact ⟨rfl, (by repeat (first | exact Tn.refl _ _ | apply Tn.drew | apply Tn.drewN | apply Tn.alloc | (refine Tn.then ?_ (by assumption)) | (refine Tn.thenNo ?_ (by assumption))))⟩

/-- room that is made -/
def RoomPost {α : Type} (size : Nat) (en : α → List Value) (w : World) (e : Ending) (w' : World) : Prop :=
  ∃ v, e = .returned v ∧ LR size en w' v ([] : List α) ∧ Tn No w w' ∧ ∀ g, v.ownBlock = some g → w.heap.size ≤ g

set_option maxRecDepth 100000 in
theorem room_u (n : Nat) (hn : n ≤ 2147483648) (w : World) : Calls Try.prog 63 #[.int .i64 (n : Int)] w (RoomPost 1 eU w) := by
  by_cases h0 : n = 0
  · subst h0
    go_enter Try.func63, Try.ntmps63
    go_wp2
    go_ret
    exact ⟨_, rfl, LR.nil _ _ _, Tn.refl _ _, fun g h => by cases h⟩
  · have d0 : ((n : Int) == 0) = false := by simp; omega
    obtain ⟨M, hM⟩ := lr_room (size := 1) Try.underlying41 u64_info rfl n hn (by omega) eU
    have hmk := fun W => (hM W).1
    have HL := hid (hM w).2
    clear h0 hM
    go_enter Try.func63, Try.ntmps63
    go_wp2
    go_ret
    exact ⟨_, rfl, HL.out, (by repeat (first | exact Tn.refl _ _ | apply Tn.drew | apply Tn.drewN | apply Tn.alloc | (refine Tn.then ?_ (by assumption)) | (refine Tn.thenNo ?_ (by assumption)))), fun g h => by cases h; exact Nat.le_refl _⟩
set_option maxRecDepth 100000 in
theorem room_r (n : Nat) (hn : n ≤ 2147483648) (w : World) : Calls Try.prog 69 #[.int .i64 (n : Int)] w (RoomPost 2 eR w) := by
  by_cases h0 : n = 0
  · subst h0
    go_enter Try.func69, Try.ntmps69
    go_wp2
    go_ret
    exact ⟨_, rfl, LR.nil _ _ _, Tn.refl _ _, fun g h => by cases h⟩
  · have d0 : ((n : Int) == 0) = false := by simp; omega
    obtain ⟨M, hM⟩ := lr_room (size := 2) Try.underlying22 ref_info rfl n hn (by omega) eR
    have hmk := fun W => (hM W).1
    have HL := hid (hM w).2
    clear h0 hM
    go_enter Try.func69, Try.ntmps69
    go_wp2
    go_ret
    exact ⟨_, rfl, HL.out, (by repeat (first | exact Tn.refl _ _ | apply Tn.drew | apply Tn.drewN | apply Tn.alloc | (refine Tn.then ?_ (by assumption)) | (refine Tn.thenNo ?_ (by assumption)))), fun g h => by cases h; exact Nat.le_refl _⟩
set_option maxRecDepth 100000 in
theorem room_b (n : Nat) (hn : n ≤ 2147483648) (w : World) : Calls Try.prog 64 #[.int .i64 (n : Int)] w (RoomPost 1 eB w) := by
  by_cases h0 : n = 0
  · subst h0
    go_enter Try.func64, Try.ntmps64
    go_wp2
    go_ret
    exact ⟨_, rfl, LR.nil _ _ _, Tn.refl _ _, fun g h => by cases h⟩
  · have d0 : ((n : Int) == 0) = false := by simp; omega
    obtain ⟨M, hM⟩ := lr_room (size := 1) Try.underlying40 u8_info rfl n hn (by omega) eB
    have hmk := fun W => (hM W).1
    have HL := hid (hM w).2
    clear h0 hM
    go_enter Try.func64, Try.ntmps64
    go_wp2
    go_ret
    exact ⟨_, rfl, HL.out, (by repeat (first | exact Tn.refl _ _ | apply Tn.drew | apply Tn.drewN | apply Tn.alloc | (refine Tn.then ?_ (by assumption)) | (refine Tn.thenNo ?_ (by assumption)))), fun g h => by cases h; exact Nat.le_refl _⟩
theorem LR.br {w : World} {v : Value} {l : List UInt8} (h : LR 1 eB w v l) : BR w v l := ⟨h.rw, fun j hj => by have := h.at' j hj 0 (by omega); simpa [eB] using this⟩
theorem BR.lr {w : World} {v : Value} {l : List UInt8} (h : BR w v l) : LR 1 eB w v l := by
  refine ⟨h.rw, fun i hi j hj => ?_⟩
  obtain rfl : j = 0 := by omega
  simpa [eB] using h.at' i hi
end Go.Proofs.Ytlkbnjdhokjfnaa
