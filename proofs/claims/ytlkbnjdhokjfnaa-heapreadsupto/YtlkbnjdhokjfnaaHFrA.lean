/-
  heap: bytes from an address on; what is cut of them.
-/
import Derived.Test.YtlkbnjdhokjfnaaHSame
namespace Go.Proofs.Ytlkbnjdhokjfnaa
set_option linter.unusedSimpArgs false
set_option linter.unusedVariables false
open Go.RowKit
attribute [local go_sem ↓] Go.wp_at_zero Go.wp_at_succ

theorem LD.drop {w : World} {a a' : Option Addr} {n c : Nat} {l : List UInt8} (h : LD 1 eB w (.slice a n c) l) (k : Nat) (hk : k ≤ l.length) {n' c' : Nat} (hn : n' = n - k) (hc : c' = c - k) (ha : k < l.length → ∀ g o, a = some ⟨g, o, none⟩ → a' = some ⟨g, o + k, none⟩) : LD 1 eB w (.slice a' n' c') (l.drop k) := by
  subst hn hc
  obtain ⟨b, d, e, h1, h2, h3⟩ := h
  simp only [Value.slice.injEq] at e
  obtain ⟨rfl, rfl, rfl⟩ := e
  refine ⟨a', c - k, by simp, by simp; omega, by omega, fun h0 => ?_⟩
  simp at h0
  obtain ⟨g, o, rfl, hg, hc⟩ := h3 (by omega)
  refine ⟨g, o + k, ha (by omega) g o rfl, hg, fun i hi j hj => ?_⟩
  simp at hi
  have := hc (k + i) (by omega) j hj
  rw [List.getElem_drop]
  rw [← this]
  congr 2
  omega
theorem LD.take {w : World} {a : Option Addr} {n c k : Nat} {l : List UInt8} (h : LD 1 eB w (.slice a n c) l) (hk : k ≤ l.length) : LD 1 eB w (.slice a k c) (l.take k) := by
  obtain ⟨b, d, e, h1, h2, h3⟩ := h
  simp only [Value.slice.injEq] at e
  obtain ⟨rfl, rfl, rfl⟩ := e
  refine ⟨a, c, by simp; omega, by simp; omega, by omega, fun h0 => ?_⟩
  simp at h0
  obtain ⟨g, o, rfl, hg, hc⟩ := h3 (by omega)
  refine ⟨g, o, rfl, hg, fun i hi j hj => ?_⟩
  simp at hi
  rw [List.getElem_take]
  exact hc i (by omega) j hj
theorem LD.form {α : Type} {size : Nat} {en : α → List Value} {w : World} {v : Value} {l : List α} (h : LD size en w v l) : ∃ a c, v = .slice a l.length c ∧ l.length ≤ c ∧ c ≤ 9223372036854775807 := by
  obtain ⟨a, c, e, h1, h2, _⟩ := h
  exact ⟨a, c, e, h1, h2⟩

/-- may an address be one of bytes that lie from another on? -/
def fromB (at_ n x : Int) : Bool := decide (x % 8 = 0 ∧ at_ ≤ x ∧ x - at_ ≤ n)

set_option maxHeartbeats 2000000 in
set_option maxRecDepth 100000 in
theorem from_raw (v : Value) (l : List UInt8) (at_ x : Int) (w : World) (h : LD 1 eB w v l) (hl : l.length ≤ 1073741824) (h0 : 0 ≤ at_) (h1 : at_ ≤ 18446744073709551615) (x0 : 0 ≤ x) (x1 : x ≤ 18446744073709551615) :
    Calls Try.prog 72 #[.agg #[v, .int .u64 at_], .int .u64 x] w fun e w' => ∃ v', e = .returned v' ∧ (∀ w0, LD 1 eB w0 v l → LD 1 eB w0 v' (if fromB at_ l.length x then l.drop (x - at_).toNat else [])) ∧ Tn No w w' := by
  obtain ⟨a, c, rfl, hc, hcm⟩ := h.form
  have HN : Hid (∀ o, (∀ w0, LD 1 eB w0 (.slice a l.length c) l → LD 1 eB w0 (.slice none 0 0) []) ∧ Tn No w (w.alloc o)) := hid (fun o => ⟨fun _ _ => LD.nil _ _ _, (Tn.refl No w).alloc o⟩)
  have HD : Hid (∀ o, Tn No w (w.alloc o)) := hid (fun o => (Tn.refl No w).alloc o)
  by_cases hf : fromB at_ l.length x = true
  · rw [hf]
    simp only [fromB, decide_eq_true_eq] at hf
    obtain ⟨f1, f2, f3⟩ := hf
    obtain ⟨n, hn⟩ : ∃ n, l.length = n := ⟨_, rfl⟩
    rw [hn] at hc hl f3
    have HNL := hid hn
    clear h
    obtain ⟨k, hk⟩ : ∃ k : Nat, x = at_ + (k : Int) := ⟨(x - at_).toNat, by omega⟩
    have e1 : IntKind.u64.wrap (x - at_) = (k : Int) := by simp [IntKind.wrap, IntKind.bits, IntKind.signed]; omega
    have e2 : x - at_ = (k : Int) := by omega
    have e3 : (k : Int) ≤ (n : Int) := by omega
    have e4 : (k : Int) ≤ (c : Int) := by omega
    rw [hn, e2]
    clear hn HN
    subst hk
    clear e2
    go_enter Try.func72, Try.ntmps72
    go_wp2
    · go_ret
      exact ⟨_, rfl, (fun w0 h0 => h0.drop _ (by have := HNL.out; omega) rfl (by omega) (fun h => by have := HNL.out; omega)), HD.out _⟩
    · go_ret
      exact ⟨_, rfl, (fun w0 h0 => h0.drop _ (by have := HNL.out; omega) rfl rfl (fun _ g o e => by subst e; simp [Addr.add])), HD.out _⟩
  · rw [if_neg hf]
    have hf2 := Bool.eq_false_iff.2 hf
    simp only [fromB, decide_eq_false_iff_not, not_and] at hf2
    clear hf h HD
    generalize hgen : l.length = n at *
    clear hgen
    by_cases g1 : x % 8 = 0
    · by_cases g2 : at_ ≤ x
      · have g3 : (n : Int) < x - at_ := by have := hf2 g1 g2; omega
        clear hf2
        go_enter Try.func72, Try.ntmps72
        go_wp2
        go_ret
        exact ⟨_, rfl, fun _ _ => LD.nil _ _ _, (HN.out _).2⟩
      · rw [Int.not_le] at g2
        clear hf2
        go_enter Try.func72, Try.ntmps72
        go_wp2
        go_ret
        exact ⟨_, rfl, fun _ _ => LD.nil _ _ _, (HN.out _).2⟩
    · have g3 : (x % 8 == 0) = false := by simpa using g1
      clear hf2
      go_enter Try.func72, Try.ntmps72
      go_wp2
      go_ret
      exact ⟨_, rfl, fun _ _ => LD.nil _ _ _, (HN.out _).2⟩
end Go.Proofs.Ytlkbnjdhokjfnaa
namespace Go.Proofs.Ytlkbnjdhokjfnaa
set_option linter.unusedSimpArgs false
set_option linter.unusedVariables false
open Go.RowKit
attribute [local go_sem ↓] Go.wp_at_zero Go.wp_at_succ

def cutLen (n : Nat) (b : Bool) : Nat := cond b n (8 * n)
def cutRoom (m : Nat) : Nat := (m + 7) / 8 * 8
/-- what is cut -/
def cutB (l : List UInt8) (m : Nat) : Bool := decide (cutRoom m ≤ l.length) && ((l.drop m).take (cutRoom m - m)).all (· == 0)

def CutPost (a : Option Addr) (c m : Nat) (q : Bool) (w : World) (e : Ending) (w' : World) : Prop := w' = w ∧ ∃ v', (∃ a n c, v' = .slice a n c) ∧ e = .returned (.tuple #[v', .bool q]) ∧ (q = true → v' = .slice a m c)

set_option maxHeartbeats 4000000 in
set_option maxRecDepth 100000 in
theorem cut_raw (a : Option Addr) (c : Nat) (l : List UInt8) (n : Nat) (b : Bool) (w : World) (h : LD 1 eB w (.slice a l.length c) l) (hl : l.length ≤ 1073741824) (hn : n < 1099511627776) :
    Calls Try.prog 76 #[.slice a l.length c, .int .u64 (n : Int), .bool b] w (CutPost a c (cutLen n b) (cutB l (cutLen n b)) w) := by
  obtain ⟨a', c', hv, hc, hcm, hat⟩ := h
  simp only [Value.slice.injEq, true_and] at hv
  obtain ⟨rfl, rfl⟩ := hv
  have h : LD 1 eB w (.slice a l.length c) l := ⟨a, c, rfl, hc, hcm, hat⟩
  obtain ⟨m, hm⟩ : ∃ m, cutLen n b = m := ⟨_, rfl⟩
  obtain ⟨r, hr⟩ : ∃ r, cutRoom m = r := ⟨_, rfl⟩
  rw [hm]
  have hmb : m < 8796093022208 := by rw [← hm]; cases b <;> simp [cutLen] <;> omega
  have hmr : m ≤ r ∧ r < m + 8 := by rw [← hr]; unfold cutRoom; omega
  have er : (m + 7) / 8 * 8 = r := hr
  have HM : Hid (cutLen n b = m) := hid hm
  have HR := hid hr
  obtain ⟨q, hq⟩ : ∃ q, cutB l m = q := ⟨_, rfl⟩
  have HQ := hid hq
  rw [hq]
  have ern : ((m : Int) + 8 - 1) / 8 * 8 = (r : Int) := by omega
  by_cases hroom : r ≤ l.length
  · have HZ : Hid (∀ k, k < r - m → ∃ (hk : m + k < l.length) (g o : Nat), a = some ⟨g, o, none⟩ ∧ w.cell? ⟨g, o + (m + k), none⟩ = some (.int .u8 ((l[m + k]).toNat : Int))) := hid (fun k hk => by
      obtain ⟨g, o, rfl, hg, hcell⟩ := hat (by omega)
      have hkl : m + k < l.length := by omega
      have := hcell (m + k) hkl 0 (by omega)
      refine ⟨hkl, g, o, rfl, ?_⟩
      simpa [eB] using this)
    have HYES : Hid ((∀ k, k < r - m → ∀ hk : m + k < l.length, l[m + k] = 0) → q = true) := hid (fun hz => by
      rw [← HQ.out, cutB, HR.out, Bool.and_eq_true, decide_eq_true_eq, List.all_eq_true]
      refine ⟨hroom, fun x hx => ?_⟩
      obtain ⟨i, hi⟩ := List.getElem?_of_mem hx
      obtain ⟨hi1, hi2⟩ := List.getElem?_eq_some_iff.1 hi
      simp only [List.length_take, List.length_drop] at hi1
      rw [List.getElem_take, List.getElem_drop] at hi2
      have := hz i (by omega) (by omega)
      rw [← hi2, this]; rfl)
    have HNO : Hid (∀ k (_ : k < r - m) (hk : m + k < l.length), l[m + k] ≠ 0 → q = false) := hid (fun k hk hkl hz => by
      rw [← HQ.out, cutB, HR.out]
      rw [Bool.and_eq_false_iff]
      right
      rw [List.all_eq_false]
      refine ⟨l[m + k], ?_, by simpa using hz⟩
      apply List.mem_of_getElem? (i := k)
      rw [List.getElem?_take_of_lt hk, List.getElem?_drop, List.getElem?_eq_getElem hkl])
    obtain ⟨ln, hln⟩ : ∃ ln, l.length = ln := ⟨_, rfl⟩
    rw [hln] at hroom hl hc
    rw [hln]
    have hml : m ≤ ln := by omega
    have i1 : (r : Int) ≤ (ln : Int) := by omega
    have i2 : (m : Int) ≤ (r : Int) := by omega
    have i3 : (r : Int) ≤ (c : Int) := by omega
    have i4 : (0 : Int) ≤ (m : Int) := by omega
    have i5 : (0 : Int) ≤ (r : Int) := by omega
    have i6 : (m : Int) ≤ (c : Int) := by omega
    obtain ⟨d, hd⟩ : ∃ d, r - m = d := ⟨_, rfl⟩
    rw [hd] at HZ HYES HNO
    have HDD := hid hd
    clear h hat hq hr er hln hmr hm
    have id1 : (r : Int) - (m : Int) = (d : Int) := by omega
    have id2 : r - m = d := hd
    by_cases hcm' : c = m
    · have hd0 : d = 0 := by omega
      have hqt := HYES.out (fun k hk => by omega)
      subst hcm'
      obtain rfl : r = c := by omega
      subst hqt
      clear HR HQ
      cases b
      · have e0 : (n : Int) * 8 = (r : Int) := by have := HM.out; simp [cutLen] at this; omega
        go_enter Try.func76, Try.ntmps76
        go_wp2_with fail
        go_loopw [32] (fun i wr => i = .int .i64 0 ∧ wr = w) (fun i _ => 0)
        case atStart => exact ⟨rfl, rfl⟩
        case round =>
          obtain ⟨rfl, rfl⟩ := hrel
          clear HYES HNO HZ
          go_wp2
          go_ret2
          exact ⟨rfl, _, ⟨_, _, _, rfl⟩, rfl, fun _ => rfl⟩
      · have e0 : n = r := HM.out
        subst e0
        go_enter Try.func76, Try.ntmps76
        go_wp2_with fail
        go_loopw [32] (fun i wr => i = .int .i64 0 ∧ wr = w) (fun i _ => 0)
        case atStart => exact ⟨rfl, rfl⟩
        case round =>
          obtain ⟨rfl, rfl⟩ := hrel
          clear HYES HNO HZ
          go_wp2
          go_ret2
          exact ⟨rfl, _, ⟨_, _, _, rfl⟩, rfl, fun _ => rfl⟩
    · have hcm2 : ¬ (c : Int) = (m : Int) := by omega
      cases b
      · have e0 : (n : Int) * 8 = (m : Int) := by have := HM.out; simp [cutLen] at this; omega
        obtain rfl : r = m := by have := HM.out; simp [cutLen] at this; omega
        have hqt := HYES.out (fun k hk => by omega)
        subst hqt
        clear HR HQ
        go_enter Try.func76, Try.ntmps76
        go_wp2_with fail
        go_loopw [32] (fun i wr => i = .int .i64 0 ∧ wr = w) (fun i _ => 0)
        case atStart => exact ⟨rfl, rfl⟩
        case round =>
          obtain ⟨rfl, rfl⟩ := hrel
          clear HYES HNO HZ
          go_wp2
          go_ret2
          exact ⟨rfl, _, ⟨_, _, _, rfl⟩, rfl, fun _ => rfl⟩
      · have e0 : n = m := HM.out
        subst e0
        go_enter Try.func76, Try.ntmps76
        go_wp2_with fail
        go_loopw [32] (fun i wr => ∃ k : Nat, k ≤ d ∧ i = .int .i64 (k : Int) ∧ (∀ j, j < k → ∀ hj : n + j < l.length, l[n + j] = 0) ∧ wr = w) (fun i _ => d - (intOf i).toNat)
        case atStart => exact ⟨0, by omega, rfl, fun j hj => by omega, rfl⟩
        case round =>
          obtain ⟨k, hk, rfl, hz, rfl⟩ := hrel
          by_cases hlt : k < d
          · obtain ⟨hkl, g, o, rfl, hcell⟩ := HZ.out k hlt
            rw [← Nat.add_assoc] at hcell
            have hki : (k : Int) < (r : Int) - (n : Int) := by have := HDD.out; omega
            have hki2 : (k : Int) < (d : Int) := by omega
            by_cases hz0 : l[n + k] = 0
            · have HY : Hid (∀ j, j < k + 1 → ∀ hj : n + j < l.length, l[n + j] = 0) := hid (fun j hj hjl => by
                by_cases e : j = k
                · subst e; exact hz0
                · exact hz j (by omega) hjl)
              rw [hz0] at hcell
              clear hz hz0 HYES HNO HZ
              go_wp2
              go_roundw
              case rel => exact ⟨k + 1, by omega, by go_num, HY.out, by first | rfl | trivial⟩
              case measure => simp [intOf]; omega
            · have hqf := HNO.out k hlt hkl hz0
              have hnz : ((l[n + k]).toNat : Int) ≠ 0 := by
                intro e
                apply hz0
                apply UInt8.toNat_inj.1
                simpa using e
              have hnz2 : (((l[n + k]).toNat : Int) == 0) = false := by simpa using hnz
              generalize (l[n + k]).toNat = y at *
              subst hqf
              clear hz hz0 HYES HNO HZ
              go_wp2
              go_ret2
              exact ⟨rfl, _, ⟨_, _, _, rfl⟩, rfl, fun e => by cases e⟩
          · obtain rfl : k = d := by omega
            have hqt := HYES.out hz
            subst hqt
            clear hz HYES HNO HZ
            go_wp2
            go_ret2
            exact ⟨rfl, _, ⟨_, _, _, rfl⟩, rfl, fun _ => rfl⟩
  · have hq2 : q = false := by
      rw [← HQ.out, cutB, HR.out, Bool.and_eq_false_iff]
      left
      simp; omega
    subst hq2
    have i1 : (l.length : Int) < (r : Int) := by omega
    clear h hat hq hr er hm HR HQ hmr
    generalize l.length = ln at *
    cases b
    · have e0 : (n : Int) * 8 = (m : Int) := by have := HM.out; simp [cutLen] at this; omega
      go_enter Try.func76, Try.ntmps76
      go_wp2
      go_ret2
      exact ⟨rfl, _, ⟨_, _, _, rfl⟩, rfl, fun e => by cases e⟩
    · have e0 : n = m := HM.out
      subst e0
      go_enter Try.func76, Try.ntmps76
      go_wp2
      go_ret2
      exact ⟨rfl, _, ⟨_, _, _, rfl⟩, rfl, fun e => by cases e⟩
end Go.Proofs.Ytlkbnjdhokjfnaa
namespace Go.Proofs.Ytlkbnjdhokjfnaa
set_option linter.unusedSimpArgs false
set_option linter.unusedVariables false
open Go.RowKit
attribute [local go_sem ↓] Go.wp_at_zero Go.wp_at_succ

/-- how far from the first function's address a word is -/
def farOf (l : List UInt8) : Int := ((Hp.num (l.take 8) : Int) - 4194304) % 18446744073709551616
def fnB (l : List UInt8) : Bool := decide (l ≠ [] ∧ farOf l % 16 = 0 ∧ farOf l / 16 ≤ 4194303)

set_option maxHeartbeats 2000000 in
set_option maxRecDepth 100000 in
theorem fn_raw (v : Value) (l : List UInt8) (w : World) (h : LD 1 eB w v l) (h8 : l = [] ∨ 8 ≤ l.length) : Calls Try.prog 78 #[v] w fun e w' => w' = w ∧ e = .returned (.tuple #[.int .i64 (if fnB l then farOf l / 16 else 0), .bool (fnB l)]) := by
  obtain ⟨q, hq⟩ : ∃ q, fnB l = q := ⟨_, rfl⟩
  have HQ := hid hq
  rw [hq]
  rcases h8 with h8 | h8
  · obtain ⟨a, c, rfl, _⟩ := h.form
    have hqf : q = false := by rw [← HQ.out]; simp [fnB, h8]
    subst hqf
    have hl : l.length = 0 := by rw [h8]; rfl
    rw [hl]
    clear h hq HQ hl h8
    go_enter Try.func78, Try.ntmps78
    go_wp2
    go_ret2
    exact ⟨rfl, rfl⟩
  · have HW := hid (wordOf_raw v l w h h8)
    obtain ⟨a, c, rfl, _⟩ := h.form
    have hne : l ≠ [] := by intro e; rw [e] at h8; simp at h8
    have hlt : Hp.num (l.take 8) < 18446744073709551616 := by
      have := Hp.num_lt (l.take 8)
      have e : (l.take 8).length = 8 := by simp; omega
      rw [e] at this
      exact this
    obtain ⟨f, hf⟩ : ∃ f, farOf l = f := ⟨_, rfl⟩
    have hf2 : q = decide (f % 16 = 0 ∧ f / 16 ≤ 4194303) := by rw [← HQ.out, fnB, hf]; simp [hne]
    have hf0 : 0 ≤ f ∧ f < 18446744073709551616 := by rw [← hf]; unfold farOf; omega
    have hfw : IntKind.u64.wrap ((Hp.num (l.take 8) : Int) - 4194304) = f := by rw [← hf]; simp [IntKind.wrap, IntKind.bits, IntKind.signed, farOf]
    have hl0 : ((l.length : Int) == 0) = false := by simp; omega
    rw [hf]
    generalize Hp.num (l.take 8) = x at *
    have hln : (0 : Int) < (l.length : Int) := by omega
    generalize l.length = ln at *
    have HF2 := hid hf2
    clear h hq HQ hf hf2 hne
    by_cases g1 : f % 16 = 0
    · by_cases g2 : f / 16 ≤ 4194303
      · obtain rfl : q = true := by rw [HF2.out]; simp [g1, g2]
        have g3 : IntKind.i64.wrap (f / 16) = f / 16 := by simp [IntKind.wrap, IntKind.bits, IntKind.signed]; omega
        have g4 : wrap64 (f / 16) = f / 16 := by unfold wrap64; omega
        clear HF2
        go_enter Try.func78, Try.ntmps78
        go_wp2_with (go_at_call 73; refine HW.out.mono ?_; rintro e w' ⟨rfl, rfl⟩)
        go_ret2
        exact ⟨rfl, rfl⟩
      · have g3 : 4194303 < f / 16 := by omega
        obtain rfl : q = false := by rw [HF2.out]; simp [g1]; omega
        clear HF2 g2
        go_enter Try.func78, Try.ntmps78
        go_wp2_with (go_at_call 73; refine HW.out.mono ?_; rintro e w' ⟨rfl, rfl⟩)
        go_ret2
        exact ⟨rfl, rfl⟩
    · have g3 : (f % 16 == 0) = false := by simpa using g1
      obtain rfl : q = false := by rw [HF2.out]; simp [g1]
      clear HF2
      go_enter Try.func78, Try.ntmps78
      go_wp2_with (go_at_call 73; refine HW.out.mono ?_; rintro e w' ⟨rfl, rfl⟩)
      go_ret2
      exact ⟨rfl, rfl⟩

def laidB (k tag : Int) (s : ByteArray) (n : Nat) (H : Int) : Bool := mayR k tag s n && decide ((headR k tag s n : Int) = H)

set_option maxHeartbeats 2000000 in
set_option maxRecDepth 100000 in
theorem isLaid_raw (k tag : Int) (s : ByteArray) (a : Option Addr) (n c : Nat) (H : Int) (w : World) (hs : s.size ≤ 1073741824) (hn : n ≤ 1073741824) :
    Calls Try.prog 77 #[.agg #[.int .i64 k, .int .i64 tag, .string s, .slice a n c], .int .u64 H] w fun e w' => e = .returned (.bool (laidB k tag s n H)) ∧ Tn No w w' := by
  have HM := hid (fun u => tmb_raw k tag s a n c u hs)
  have HS : Hid (mayR k tag s n = true → ∀ u, Calls Try.prog 34 #[.agg #[.int .i64 k, .int .i64 tag, .string s, .slice a n c]] u fun e w' => e = .returned (.int .u64 (headR k tag s n : Int)) ∧ Tn No u w') := hid (fun h u => header_raw k tag s a n c u hs hn h)
  have hTN : Hid (∀ o u, Tn No (w.alloc o) u → Tn No w u) := hid (fun o u t => ((Tn.refl No w).alloc o).then t)
  have HC3 : Hid (∀ u, Tn No (w.alloc (.cells #[.int .i64 k, .int .i64 tag, .string s, .slice a n c] 24)) u → u.cell? ⟨w.heap.size, 0, none⟩ = some (.int .i64 k) ∧ u.cell? ⟨w.heap.size, 1, none⟩ = some (.int .i64 tag) ∧ u.cell? ⟨w.heap.size, 2, none⟩ = some (.string s) ∧ u.cell? ⟨w.heap.size, 3, none⟩ = some (.slice a n c) ∧ w.heap.size < u.heap.size) := hid (fun u t => by
    refine ⟨?_, ?_, ?_, ?_, by have := t.size; simp at this; omega⟩ <;> (rw [t.cell (by simp) (fun e => e), World.cell?_alloc_new]; rfl))
  unfold laidB
  generalize mayR k tag s n = b at *
  cases b
  · clear HS
    go_enter Try.func77, Try.ntmps77
    go_wp2_with (go_at_call 29; refine (HM.out _).mono ?_; rintro e w2 ⟨rfl, t2⟩; have HT2 := hid t2; clear t2)
    go_ret
    exact ⟨rfl, hTN.out _ _ HT2.out⟩
  · have HS2 := hid (HS.out rfl)
    clear HS
    generalize headR k tag s n = y at *
    go_enter Try.func77, Try.ntmps77
    go_wp2_with (first
      | (go_at_call 29; refine (HM.out _).mono ?_; rintro e w2 ⟨rfl, t2⟩; obtain ⟨p0, p1, p2, p3, z2⟩ := HC3.out _ t2; have HT2 := hid t2; clear t2)
      | (go_at_call 34; refine (HS2.out _).mono ?_; rintro e w3 ⟨rfl, t3⟩; have HT3 := hid t3; clear t3))
    go_ret
    exact ⟨ret_bool (by rw [Bool.eq_iff_iff]; simp), hTN.out _ _ (HT2.out.then HT3.out)⟩

/-- a word's value, as it stands -/
def valW (row : List Int) (x : Nat) : Rf := if x % 2 = 1 then (1, if x < 9223372036854775808 then (x / 2 : Nat) else ((x / 2 : Nat) : Int) - 9223372036854775808) else (2, ((Hp.pos row x : Nat) : Int))
def meetW (row : List Int) (x : Nat) : List Int := if x % 2 = 1 then row else meetI row x

def ValPost (w : World) (p b : Nat) (mv : Value) (row : List Int) (x : Nat) (e : Ending) (w' : World) : Prop :=
  ∃ mv', e = .returned (.agg #[.int .i64 (valW (meetW row x) x).1, .int .i64 (valW (meetW row x) x).2]) ∧ RAU w' p b mv' (meetW row x) ∧ Up (RO p b mv) w (RO p b mv') w'

set_option maxHeartbeats 2000000 in
set_option maxRecDepth 100000 in
theorem value_raw (p b : Nat) (mv : Value) (row : List Int) (x : Nat) (w : World) (h : RAU w p b mv row) (hx : x < 18446744073709551616) (hl : row.length + 1 ≤ 4294967296) :
    Calls Try.prog 70 #[.int .u64 (x : Int), .pointer (some ⟨p, 0, none⟩)] w (ValPost w p b mv row x) := by
  by_cases h2 : x % 2 = 1
  · have e1 : ((x : Int) % 2) = 1 := by omega
    have HFIN : Hid (∀ o, Up (RO p b mv) w (RO p b mv) (w.alloc o) ∧ RAU (w.alloc o) p b mv row) := hid (fun o => ⟨Up.no ((Tn.refl No w).alloc o), h.no ((Tn.refl No w).alloc o)⟩)
    unfold ValPost meetW valW
    simp only [if_pos h2]
    obtain ⟨y, hy⟩ : ∃ y : Int, (if x < 9223372036854775808 then ((x / 2 : Nat) : Int) else ((x / 2 : Nat) : Int) - 9223372036854775808) = y := ⟨_, rfl⟩
    have hw : IntKind.i64.wrap (x : Int) / 2 = y := by
      rw [← hy]
      by_cases hx2 : x < 9223372036854775808
      · rw [if_pos hx2]
        have : IntKind.i64.wrap (x : Int) = x := by simp [IntKind.wrap, IntKind.bits, IntKind.signed]; omega
        rw [this]; omega
      · rw [if_neg hx2]
        have : IntKind.i64.wrap (x : Int) = (x : Int) - 18446744073709551616 := by simp [IntKind.wrap, IntKind.bits, IntKind.signed]; omega
        rw [this]; omega
    have hw2 : wrap64 (x : Int) / 2 = y := by
      rw [← hy]
      unfold wrap64
      by_cases hx2 : x < 9223372036854775808
      · rw [if_pos hx2]; omega
      · rw [if_neg hx2]; omega
    rw [hy]
    clear h hy
    go_enter Try.func70, Try.ntmps70
    go_wp2
    refine bodyPost_ret (v := .agg #[.int .i64 1, .int .i64 y]) (by simp [results, Try.results70, go_sem]) rfl ?_
    exact ⟨_, rfl, (HFIN.out _).2, (HFIN.out _).1⟩
  · have e1 : ((x : Int) % 2 == 1) = false := by simp; omega
    obtain ⟨w1, hw1⟩ : ∃ w1, w.alloc (.cells #[.int .i64 0, .int .i64 0] 61) = w1 := ⟨_, rfl⟩
    have t1 : Tn No w w1 := by rw [← hw1]; exact (Tn.refl No w).alloc _
    have s1 : w1.heap.size = w.heap.size + 1 := by rw [← hw1]; simp
    have hh := heap_alloc_new w (.cells #[.int .i64 0, .int .i64 0] 61)
    rw [hw1] at hh
    unfold ValPost meetW valW
    simp only [if_neg h2]
    have HC : Hid (Calls Try.prog 75 #[.pointer (some ⟨p, 0, none⟩), .int .u64 (x : Int)] w1 fun e w' => ∃ mv', e = .returned (.agg #[.int .i64 2, .int .i64 ((Hp.pos (meetI row x) x : Nat) : Int)]) ∧ (w'.cell? ⟨w.heap.size, 0, none⟩ = some (.int .i64 0) ∧ w'.cell? ⟨w.heap.size, 1, none⟩ = some (.int .i64 0) ∧ w'.frozen? ⟨w.heap.size, 0, none⟩ = false ∧ w'.frozen? ⟨w.heap.size, 1, none⟩ = false ∧ w.heap.size < w'.heap.size) ∧
        ∀ a a', RAU ((w'.setCell ⟨w.heap.size, 0, none⟩ a).setCell ⟨w.heap.size, 1, none⟩ a') p b mv' (meetI row x) ∧ Up (RO p b mv) w (RO p b mv') ((w'.setCell ⟨w.heap.size, 0, none⟩ a).setCell ⟨w.heap.size, 1, none⟩ a')) := by
      apply hid
      refine (meetU_raw p b mv row (x : Int) w1 (h.no t1) (WalkArith.wf_u64 (by omega)) hl).mono ?_
      rintro e w' ⟨mv', he, ra, up⟩
      have hnr : ¬ RO p b mv w.heap.size := fun e => by have := h.olt _ e; omega
      have hnr2 : ¬ RO p b mv' w.heap.size := fun e => by
        rcases up.own _ e with e | e
        · exact hnr e
        · omega
      have b2 : w'.heap[w.heap.size]? = some (.cells #[.int .i64 0, .int .i64 0] 61 (0, 0)) := by rw [up.tn.block _ (by omega) hnr]; exact hh
      have z2 := up.tn.size
      refine ⟨mv', he, ⟨by simp only [World.cell?, b2]; rfl, by simp only [World.cell?, b2]; rfl, by simp only [World.frozen?, b2]; rfl, by simp only [World.frozen?, b2]; rfl, by omega⟩, fun a a' => ?_⟩
      have ts : Tn (fun k => k = w.heap.size) w' ((w'.setCell ⟨w.heap.size, 0, none⟩ a).setCell ⟨w.heap.size, 1, none⟩ a') := ((Tn.refl (fun k => k = w.heap.size) w').set _ _ (fun _ => rfl)).set _ _ (fun _ => rfl)
      refine ⟨ra.kept ts (fun k hk e => hnr2 (by rw [← e]; exact hk)), ?_⟩
      have u2 := (Up.no (F := RO p b mv) t1).trans up
      exact ⟨u2.tn.trans ts (fun _ _ e => e) (fun i hi e => by omega), u2.own⟩
    clear h hh t1 s1
    generalize Hp.pos (meetI row x) x = n at *
    generalize meetI row x = row' at *
    subst hw1
    go_enter Try.func70, Try.ntmps70
    go_wp2_with (go_at_call 75; refine HC.out.mono ?_; rintro e w2 ⟨mv', rfl, ⟨y0, y1, y2, y3, y4⟩, hfin⟩; have HFIN := hid hfin; clear hfin)
    have K2 : Hid (∀ a a', ((w2.setCell ⟨w.heap.size, 0, none⟩ a).setCell ⟨w.heap.size, 1, none⟩ a').cell? ⟨w.heap.size, 1, none⟩ = some a' ∧ (w2.setCell ⟨w.heap.size, 0, none⟩ a).cell? ⟨w.heap.size, 0, none⟩ = some a) := hid (fun a a' => by
      have a1 : (w2.setCell ⟨w.heap.size, 0, none⟩ a).cell? ⟨w.heap.size, 1, none⟩ = some (.int .i64 0) := by rw [World.cell?_setCell_other _ _ _ _ (by simp)]; exact y1
      exact ⟨World.cell?_setCell_same _ _ _ a1, World.cell?_setCell_same _ _ _ y0⟩)
    refine bodyPost_ret (v := .agg #[.int .i64 2, .int .i64 (n : Int)]) (by simp [results, Try.results70, go_sem, (K2.out _ _).1, (K2.out _ (.int .i64 0)).2]) rfl ?_
    exact ⟨_, rfl, (HFIN.out _ _).1, (HFIN.out _ _).2⟩
end Go.Proofs.Ytlkbnjdhokjfnaa
