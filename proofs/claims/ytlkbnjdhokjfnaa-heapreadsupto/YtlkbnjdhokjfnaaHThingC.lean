/-
  heap: thingIn, walked.
-/
import Derived.Test.YtlkbnjdhokjfnaaHThingA
namespace Go.Proofs.Ytlkbnjdhokjfnaa
set_option linter.unusedSimpArgs false
set_option linter.unusedVariables false
open Go.RowKit
attribute [local go_sem ↓] Go.wp_at_zero Go.wp_at_succ


set_option maxHeartbeats 8000000 in
set_option maxRecDepth 100000 in
theorem thingIn_nofn (a : Option Addr) (c : Nat) (l : List UInt8) (w : World) (h : LD 1 eB w (.slice a l.length c) l) (hcl : l.length ≤ c) (hcm : c ≤ 9223372036854775807) (hl : l.length ≤ 1073741824) (h8 : 8 ≤ l.length) (hc8 : ¬ c = 8) (hx1 : cutB (l.drop 8) (cutLen (hdr l / 16777216) (Hp.isRow ((hdr l / 2 % 16 : Nat) : Int))) = true) (hx2 : Hp.isRow ((hdr l / 2 % 16 : Nat) : Int) = false) (hx3 : ((hdr l / 2 % 16 : Nat) : Int) = 8) (hx4 : fnB (insOf l) = false) : Calls Try.prog 71 #[.slice a l.length c] w (ThingPost (.slice a l.length c) l w) := by
  have hlt : Hp.num (l.take 8) < 18446744073709551616 := by
    have := Hp.num_lt (l.take 8)
    have e : (l.take 8).length = 8 := by simp; omega
    rw [e] at this
    exact this
  obtain ⟨H, hH⟩ : ∃ H, hdr l = H := ⟨_, rfl⟩
  rw [hH] at hx1 hx2 hx3
  have hHlt : H < 18446744073709551616 := by rw [← hH]; unfold hdr clr; omega
  have hclr := clr_bits _ hlt
  have hkb := kind_bits H hHlt
  have htb := tag_bits H hHlt
  have hHc : clr (Hp.num (l.take 8)) = H := hH
  rw [hHc] at hclr
  have hl24 : (H : Int) / 16777216 = ((H / 16777216 : Nat) : Int) := by omega
  obtain ⟨kn, hkn⟩ : ∃ kn, H / 2 % 16 = kn := ⟨_, rfl⟩
  obtain ⟨tn, htn⟩ : ∃ tn, H / 256 % 65536 = tn := ⟨_, rfl⟩
  obtain ⟨n, hn⟩ : ∃ n, H / 16777216 = n := ⟨_, rfl⟩
  obtain ⟨K, hKd⟩ : ∃ K : Int, ((kn : Nat) : Int) = K := ⟨_, rfl⟩
  have hK0 : 0 ≤ K := by omega
  have hK1 : K < 16 := by omega
  have htnl : tn < 65536 := by omega
  have hnl : n < 1099511627776 := by omega
  rw [hkn, hKd] at hkb
  rw [htn] at htb
  rw [hn] at hl24
  have HW : Hid (∀ o, Calls Try.prog 73 #[.slice a l.length c] (w.alloc o) fun e w' => e = .returned (.int .u64 (Hp.num (l.take 8) : Int)) ∧ w' = w.alloc o) := hid (fun o => wordOf_raw _ l _ (h.no ((Tn.refl No w).alloc o)) h8)
  have HDF : ∀ w0, LD 1 eB w0 (.slice a l.length c) l → LD 1 eB w0 (.slice (a.map (fun x => x.add 8)) (l.length - 8) (c - 8)) (l.drop 8) := fun w0 h => h.drop 8 h8 rfl rfl (fun _ g o e => by subst e; simp [Addr.add])
  have HD := HDF w h
  have HH := hid h
  have hdl : (l.drop 8).length ≤ 1073741824 := by simp; omega
  have hdln : (l.drop 8).length = l.length - 8 := by simp
  obtain ⟨r, hr⟩ : ∃ r, Hp.isRow K = r := ⟨_, rfl⟩
  have HB : Hid (∀ u, Calls Try.prog 52 #[.int .i64 K] u fun e w' => e = .returned (.bool r) ∧ w' = u) := hid (fun u => by rw [← hr]; exact hasBytes_raw K u)
  obtain ⟨m, hm⟩ : ∃ m, cutLen n r = m := ⟨_, rfl⟩
  have hins : insOf l = (l.drop 8).take m := by unfold insOf; rw [hH, hn, hkn, hKd, hr, hm]
  have HC : Hid (∀ u, Tn No w u → Calls Try.prog 76 #[(.slice (a.map (fun x => x.add 8)) (l.length - 8) (c - 8)), .int .u64 (n : Int), .bool r] u fun e w' => w' = u ∧ ∃ v', (∃ a n c, v' = .slice a n c) ∧ e = .returned (.tuple #[v', .bool (cutB (l.drop 8) m)]) ∧ (cutB (l.drop 8) m = true → ∀ w0, LD 1 eB w0 (.slice a l.length c) l → LD 1 eB w0 v' (insOf l))) := hid (fun u t => by
    have := cut_raw (a.map (fun x => x.add 8)) (c - 8) (l.drop 8) n r u (by rw [hdln]; exact HD.no t) hdl hnl
    rw [hm, hdln] at this
    refine this.mono ?_
    rintro e w' ⟨h1, v', h2, h3, h4⟩
    refine ⟨h1, v', h2, h3, fun hq w0 h0 => ?_⟩
    rw [h4 hq, hins]
    refine (HDF w0 h0).take ?_
    exact cutB_le hq)
  have hTP : thingP l = (if cutB (l.drop 8) m = false then none else
      if r = true then (if laidB K (tn : Int) ⟨(insOf l).toArray⟩ 0 H then some ⟨K, (tn : Int), insOf l, []⟩ else none)
      else if K = 8 then (if fnB (insOf l) = false then none else if laidB 8 (farOf (insOf l) / 16) ⟨#[]⟩ (((insOf l).length - 8) / 8) H then some ⟨8, farOf (insOf l) / 16, [], (insOf l).drop 8⟩ else none)
      else if laidB K (tn : Int) ⟨#[]⟩ ((insOf l).length / 8) H then some ⟨K, (tn : Int), [], insOf l⟩ else none) := by
    unfold thingP
    rw [hH, if_neg (show ¬ l.length < 8 by omega)]
    simp only [hkn, hKd, htn, hn, hr, hm]
  have hii : (insOf l).length ≤ 1073741824 := by rw [hins, List.length_take]; omega
  have i8 : (8 : Int) ≤ (l.length : Int) := by omega
  have i9 : (8 : Int) ≤ (c : Int) := by omega
  have ilc : (l.length : Int) ≤ (c : Int) := by omega
  rw [hkn, hKd] at hx2 hx3
  obtain rfl : r = false := by rw [← hr, hx2]
  rw [hkn, hKd, hn, hr, hm] at hx1
  have hmn : m = 8 * n := by rw [← hm]; rfl
  have HIL : Hid ((insOf l).length = 8 * n) := hid (by
    rw [hins, List.length_take, hmn]
    have := cutB_le hx1
    omega)
  have hnb : 8 * n ≤ 1073741824 := by rw [← HIL.out]; exact hii
  have HTP : Hid (thingP l = none) := hid (by rw [hTP, hx1, if_pos hx3, hx4]; simp)
  clear hTP hkn hKd hr hx2
  subst hx3
  have HF8 : Hid (insOf l = [] ∨ 8 ≤ (insOf l).length) := hid (by
    by_cases h0 : n = 0
    · left; apply List.length_eq_zero_iff.1; rw [HIL.out, h0]
    · right; rw [HIL.out]; omega)
  have HFN := hid hx4
  have HTN : Hid (∀ o o', Tn No w ((w.alloc o).alloc o').drew) := hid (fun o o' => (((Tn.refl No w).alloc o).alloc o').drew)
  rw [hx1] at HC
  clear hins HD HDF h hm hn htn hHc hx1 hH hx4 hmn
  generalize Hp.num (l.take 8) = W at *
  obtain ⟨il, hil⟩ : ∃ il, 8 * n = il := ⟨_, rfl⟩
  rw [hil] at HIL hnb
  go_enter Try.func71, Try.ntmps71
  go_wp2_with (go_at_call 73; refine (HW.out _).mono ?_; rintro e w' ⟨rfl, rfl⟩)
  go_region_held3 (fun w' => w'.cell? ⟨w.heap.size + 1, 0, none⟩ = some (.int .i64 8)) (go_keep) (first
    | (go_at_call 52; refine (HB.out _).mono ?_; rintro e w2 ⟨rfl, rfl⟩)
    | (go_at_call 76; refine (HC.out _ (by repeat (first | exact Tn.refl _ _ | apply Tn.drew | apply Tn.drewN | apply Tn.alloc | (refine Tn.then ?_ (by assumption)) | (refine Tn.thenNo ?_ (by assumption))))).mono ?_; rintro e w2 ⟨rfl, v2, ⟨a2, n2, cc2, rfl⟩, rfl, hld⟩; have hld := hld trivial; obtain ⟨a3, c3, he, hq1, hq2⟩ := (hld w HH.out).form; rw [HIL.out] at he hq1; simp only [Value.slice.injEq] at he; obtain ⟨rfl, rfl, rfl⟩ := he; have HLD := hid hld; clear hld))
  go_wp2_with (go_at_call 52; refine (HB.out _).mono ?_; rintro e w2 ⟨rfl, rfl⟩)
  refine (fn_raw _ (insOf l) _ ((HLD.out w HH.out).no (by repeat (first | exact Tn.refl _ _ | apply Tn.drew | apply Tn.drewN | apply Tn.alloc | (refine Tn.then ?_ (by assumption)) | (refine Tn.thenNo ?_ (by assumption))))) HF8.out).mono ?_
  rintro e w2 ⟨rfl, he⟩
  rw [HFN.out] at he
  simp only [Bool.false_eq_true, if_false] at he
  subst he
  go_wp2_with fail
  refine bodyPost_ret (v := .tuple #[.agg #[.int .i64 0, .int .i64 0, .string ⟨#[]⟩, .slice none 0 0], .slice none 0 0, .bool false]) (by simp [results, Try.results71, go_sem]) rfl ?_
  unfold ThingPost
  rw [HTP.out]
  exact ⟨_, _, _, _, _, _, _, _, rfl, ⟨_, _, _, rfl⟩, HTN.out _ _, fun _ => rfl, fun T h => by cases h⟩

set_option maxHeartbeats 8000000 in
set_option maxRecDepth 100000 in
theorem thingIn_clo (a : Option Addr) (c : Nat) (l : List UInt8) (w : World) (h : LD 1 eB w (.slice a l.length c) l) (hcl : l.length ≤ c) (hcm : c ≤ 9223372036854775807) (hl : l.length ≤ 1073741824) (h8 : 8 ≤ l.length) (hc8 : ¬ c = 8) (hx1 : cutB (l.drop 8) (cutLen (hdr l / 16777216) (Hp.isRow ((hdr l / 2 % 16 : Nat) : Int))) = true) (hx2 : Hp.isRow ((hdr l / 2 % 16 : Nat) : Int) = false) (hx3 : ((hdr l / 2 % 16 : Nat) : Int) = 8) (hx4 : fnB (insOf l) = true) : Calls Try.prog 71 #[.slice a l.length c] w (ThingPost (.slice a l.length c) l w) := by
  have hlt : Hp.num (l.take 8) < 18446744073709551616 := by
    have := Hp.num_lt (l.take 8)
    have e : (l.take 8).length = 8 := by simp; omega
    rw [e] at this
    exact this
  obtain ⟨H, hH⟩ : ∃ H, hdr l = H := ⟨_, rfl⟩
  rw [hH] at hx1 hx2 hx3
  have hHlt : H < 18446744073709551616 := by rw [← hH]; unfold hdr clr; omega
  have hclr := clr_bits _ hlt
  have hkb := kind_bits H hHlt
  have htb := tag_bits H hHlt
  have hHc : clr (Hp.num (l.take 8)) = H := hH
  rw [hHc] at hclr
  have hl24 : (H : Int) / 16777216 = ((H / 16777216 : Nat) : Int) := by omega
  obtain ⟨kn, hkn⟩ : ∃ kn, H / 2 % 16 = kn := ⟨_, rfl⟩
  obtain ⟨tn, htn⟩ : ∃ tn, H / 256 % 65536 = tn := ⟨_, rfl⟩
  obtain ⟨n, hn⟩ : ∃ n, H / 16777216 = n := ⟨_, rfl⟩
  obtain ⟨K, hKd⟩ : ∃ K : Int, ((kn : Nat) : Int) = K := ⟨_, rfl⟩
  have hK0 : 0 ≤ K := by omega
  have hK1 : K < 16 := by omega
  have htnl : tn < 65536 := by omega
  have hnl : n < 1099511627776 := by omega
  rw [hkn, hKd] at hkb
  rw [htn] at htb
  rw [hn] at hl24
  have HW : Hid (∀ o, Calls Try.prog 73 #[.slice a l.length c] (w.alloc o) fun e w' => e = .returned (.int .u64 (Hp.num (l.take 8) : Int)) ∧ w' = w.alloc o) := hid (fun o => wordOf_raw _ l _ (h.no ((Tn.refl No w).alloc o)) h8)
  have HDF : ∀ w0, LD 1 eB w0 (.slice a l.length c) l → LD 1 eB w0 (.slice (a.map (fun x => x.add 8)) (l.length - 8) (c - 8)) (l.drop 8) := fun w0 h => h.drop 8 h8 rfl rfl (fun _ g o e => by subst e; simp [Addr.add])
  have HD := HDF w h
  have HH := hid h
  have hdl : (l.drop 8).length ≤ 1073741824 := by simp; omega
  have hdln : (l.drop 8).length = l.length - 8 := by simp
  obtain ⟨r, hr⟩ : ∃ r, Hp.isRow K = r := ⟨_, rfl⟩
  have HB : Hid (∀ u, Calls Try.prog 52 #[.int .i64 K] u fun e w' => e = .returned (.bool r) ∧ w' = u) := hid (fun u => by rw [← hr]; exact hasBytes_raw K u)
  obtain ⟨m, hm⟩ : ∃ m, cutLen n r = m := ⟨_, rfl⟩
  have hins : insOf l = (l.drop 8).take m := by unfold insOf; rw [hH, hn, hkn, hKd, hr, hm]
  have HC : Hid (∀ u, Tn No w u → Calls Try.prog 76 #[(.slice (a.map (fun x => x.add 8)) (l.length - 8) (c - 8)), .int .u64 (n : Int), .bool r] u fun e w' => w' = u ∧ ∃ v', (∃ a n c, v' = .slice a n c) ∧ e = .returned (.tuple #[v', .bool (cutB (l.drop 8) m)]) ∧ (cutB (l.drop 8) m = true → ∀ w0, LD 1 eB w0 (.slice a l.length c) l → LD 1 eB w0 v' (insOf l))) := hid (fun u t => by
    have := cut_raw (a.map (fun x => x.add 8)) (c - 8) (l.drop 8) n r u (by rw [hdln]; exact HD.no t) hdl hnl
    rw [hm, hdln] at this
    refine this.mono ?_
    rintro e w' ⟨h1, v', h2, h3, h4⟩
    refine ⟨h1, v', h2, h3, fun hq w0 h0 => ?_⟩
    rw [h4 hq, hins]
    refine (HDF w0 h0).take ?_
    exact cutB_le hq)
  have hTP : thingP l = (if cutB (l.drop 8) m = false then none else
      if r = true then (if laidB K (tn : Int) ⟨(insOf l).toArray⟩ 0 H then some ⟨K, (tn : Int), insOf l, []⟩ else none)
      else if K = 8 then (if fnB (insOf l) = false then none else if laidB 8 (farOf (insOf l) / 16) ⟨#[]⟩ (((insOf l).length - 8) / 8) H then some ⟨8, farOf (insOf l) / 16, [], (insOf l).drop 8⟩ else none)
      else if laidB K (tn : Int) ⟨#[]⟩ ((insOf l).length / 8) H then some ⟨K, (tn : Int), [], insOf l⟩ else none) := by
    unfold thingP
    rw [hH, if_neg (show ¬ l.length < 8 by omega)]
    simp only [hkn, hKd, htn, hn, hr, hm]
  have hii : (insOf l).length ≤ 1073741824 := by rw [hins, List.length_take]; omega
  have i8 : (8 : Int) ≤ (l.length : Int) := by omega
  have i9 : (8 : Int) ≤ (c : Int) := by omega
  have ilc : (l.length : Int) ≤ (c : Int) := by omega
  rw [hkn, hKd] at hx2 hx3
  obtain rfl : r = false := by rw [← hr, hx2]
  rw [hkn, hKd, hn, hr, hm] at hx1
  have hmn : m = 8 * n := by rw [← hm]; rfl
  have HIL : Hid ((insOf l).length = 8 * n) := hid (by
    rw [hins, List.length_take, hmn]
    have := cutB_le hx1
    omega)
  have hnb : 8 * n ≤ 1073741824 := by rw [← HIL.out]; exact hii
  rw [if_pos hx3] at hTP
  clear hkn hKd hr hx2
  subst hx3
  have hn0 : 1 ≤ n := by
    by_cases h0 : n = 0
    · have : insOf l = [] := by apply List.length_eq_zero_iff.1; rw [HIL.out, h0]
      rw [this] at hx4
      simp [fnB] at hx4
    · omega
  obtain ⟨rf, hrf⟩ : ∃ rf, rf = n - 1 := ⟨_, rfl⟩
  have hrfb : rf ≤ 1073741824 := by omega
  have hrfi : ((8 * n - 8 : Nat) : Int) / 8 = (rf : Int) := by omega
  obtain ⟨fT, hfT⟩ : ∃ fT, farOf (insOf l) / 16 = fT := ⟨_, rfl⟩
  obtain ⟨q, hq⟩ : ∃ q, laidB 8 fT ⟨#[]⟩ rf H = q := ⟨_, rfl⟩
  have HTP : Hid (thingP l = (if q = true then some ⟨8, fT, [], (insOf l).drop 8⟩ else none)) := hid (by rw [hTP, hx1, hx4, HIL.out, show (8 * n - 8) / 8 = rf by omega, hfT, hq]; simp)
  have HF8 : Hid (insOf l = [] ∨ 8 ≤ (insOf l).length) := hid (by right; rw [HIL.out]; omega)
  have HFN := hid hx4
  have HFT := hid hfT
  have HRM : Hid (∀ u, Tn No ((w.alloc (.cells #[.int .i64 0, .int .i64 0, .string ⟨#[]⟩, .slice none 0 0] 24)).alloc (.cells #[.int .i64 8, .int .i64 fT, .string ⟨#[]⟩, .slice none 0 0] 24)) u → Calls Try.prog 69 #[.int .i64 (rf : Int)] u fun e w' => ∃ ra rc, e = .returned (.slice ra 0 rc) ∧ (rf ≤ rc ∧ rc ≤ 1073741824) ∧ LR 2 eR w' (.slice ra rf rc) (List.replicate rf (0, 0)) ∧ Tn No u w' ∧ (∀ g, (Value.slice ra rf rc).ownBlock = some g → w.heap.size + 2 ≤ g) ∧ Two w 8 fT ⟨#[]⟩ (.slice none 0 0) w') := hid (fun u t => by
    refine (room_r0 rf hrfb u).mono ?_
    rintro e w' ⟨ra, rc, he, h1, h2, h3, h4, h5, h6⟩
    have hz := t.size
    simp at hz
    exact ⟨ra, rc, he, ⟨h1, h2⟩, h4, h5, (fun g hg => by have := h6 g hg; omega), (Two.begin w _ _ _ _).no (t.then h5)⟩)
  have HI : Hid (∀ u u' ra rc, Two w 8 fT ⟨#[]⟩ (.slice ra rf rc) u → Tn No u u' → Calls Try.prog 77 #[.agg #[.int .i64 8, .int .i64 fT, .string ⟨#[]⟩, .slice ra rf rc], .int .u64 (H : Int)] u' fun e w' => e = .returned (.bool q) ∧ Two w 8 fT ⟨#[]⟩ (.slice ra rf rc) w' ∧ Tn No u w') := hid (fun u u' ra rc h2 t => by
    refine (isLaid_raw 8 fT ⟨#[]⟩ ra rf rc H u' (by simp [ByteArray.size]) hrfb).mono ?_
    rintro e w' ⟨he, t'⟩
    rw [hq] at he
    exact ⟨he, h2.no (t.then t'), t.then t'⟩)
  rw [hx1] at HC
  clear hTP hins HD HDF h hm hn htn hHc hx1 hH hx4 hmn hq hfT
  generalize Hp.num (l.take 8) = W at *
  obtain ⟨il, hil⟩ : ∃ il, 8 * n = il := ⟨_, rfl⟩
  rw [hil] at HIL hrfi hnb
  have hil8 : (8 : Int) ≤ (il : Int) := by omega
  have hil9 : 8 ≤ il := by omega
  have HRF : Hid (rf = (il - 8) / 8) := hid (by omega)
  clear hrf hn0 hil
  go_enter Try.func71, Try.ntmps71
  go_wp2_with (go_at_call 73; refine (HW.out _).mono ?_; rintro e w' ⟨rfl, rfl⟩)
  go_region_held3 (fun w' => w'.cell? ⟨w.heap.size + 1, 0, none⟩ = some (.int .i64 8)) (go_keep) (first
    | (go_at_call 52; refine (HB.out _).mono ?_; rintro e w2 ⟨rfl, rfl⟩)
    | (go_at_call 76; refine (HC.out _ (by repeat (first | exact Tn.refl _ _ | apply Tn.drew | apply Tn.drewN | apply Tn.alloc | (refine Tn.then ?_ (by assumption)) | (refine Tn.thenNo ?_ (by assumption))))).mono ?_; rintro e w2 ⟨rfl, v2, ⟨a2, n2, cc2, rfl⟩, rfl, hld⟩; have hld := hld trivial; obtain ⟨a3, c3, he, hq1, hq2⟩ := (hld w HH.out).form; rw [HIL.out] at he hq1; simp only [Value.slice.injEq] at he; obtain ⟨rfl, rfl, rfl⟩ := he; have HLD := hid hld; clear hld))
  have hcc8 : (8 : Int) ≤ (cc2 : Int) := by omega
  have hcc9 : ((n2 : Nat) : Int) ≤ (cc2 : Int) := by omega
  by_cases hcc : cc2 = 8
  · subst hcc
    obtain rfl : n2 = 8 := by omega
    obtain rfl : rf = 0 := by have := HRF.out; omega
    clear hrfi hil8 hil9 hq1 hcc8 hcc9 hnb
    go_wp2_with (go_at_call 52; refine (HB.out _).mono ?_; rintro e w2 ⟨rfl, rfl⟩)
    refine (fn_raw _ (insOf l) _ ((HLD.out w HH.out).no (by repeat (first | exact Tn.refl _ _ | apply Tn.drew | apply Tn.drewN | apply Tn.alloc | (refine Tn.then ?_ (by assumption)) | (refine Tn.thenNo ?_ (by assumption))))) HF8.out).mono ?_
    rintro e w2 ⟨rfl, he⟩
    rw [HFN.out] at he
    simp only [if_true, HFT.out] at he
    subst he
    go_wp2_with (go_at_call 69; refine (HRM.out _ (by repeat (first | exact Tn.refl _ _ | apply Tn.drew | apply Tn.drewN | apply Tn.alloc | (refine Tn.then ?_ (by assumption)) | (refine Tn.thenNo ?_ (by assumption))))).mono ?_; rintro e w3 ⟨ra, rc, rfl, ⟨hr1, hr2⟩, hlr, t3, hnew, h2⟩; have HRV := hid hlr; have HNW : Hid (∀ g, (Value.slice ra 0 rc).ownBlock = some g → w.heap.size ≤ g) := hid (fun g hg => by have := hnew g hg; omega); have HNE : Hid (∀ g, (Value.slice ra 0 rc).ownBlock = some g → ¬ (g = w.heap.size + 1)) := hid (fun g hg => by have := hnew g hg; omega); have HNE2 : Hid (∀ g, (Value.slice ra 0 rc).ownBlock = some g → ¬ (g = w.heap.size)) := hid (fun g hg => by have := hnew g hg; omega); have HSET : Hid (Tn (fun k => k = w.heap.size + 1) w3 (w3.setCell ⟨w.heap.size + 1, 3, none⟩ (.slice ra 0 rc))) := hid ((Tn.refl (fun k => k = w.heap.size + 1) w3).set _ _ (fun _ => rfl)); have h3 := h2.set3 (.slice ra 0 rc); have d0 := h3.c0; have d1 := h3.c1; have d2 := h3.c2; have d3 := h3.c3; have H3 := hid h3; clear h3; have p0 := h2.c0; have p1 := h2.c1; have p2 := h2.c2; have p3 := h2.c3; have g3 := h2.f 3; have zz := h2.sz; have hr3 : (0 : Int) ≤ (rc : Int) := (by omega); clear h2 hlr hnew t3)
    all_goals
      go_region_held3 (fun w' => w'.cell? ⟨w.heap.size + 1, 0, none⟩ = some (.int .i64 8) ∧ w'.cell? ⟨w.heap.size + 1, 1, none⟩ = some (.int .i64 fT) ∧ w'.cell? ⟨w.heap.size + 1, 2, none⟩ = some (.string ⟨#[]⟩) ∧ w'.cell? ⟨w.heap.size + 1, 3, none⟩ = some (.slice ra 0 rc)) (go_keep) (first | (go_at_call 77; refine (HI.out _ _ ra rc H3.out (by repeat (first | exact Tn.refl _ _ | apply Tn.drew | apply Tn.drewN | apply Tn.alloc | (refine Tn.then ?_ (by assumption)) | (refine Tn.thenNo ?_ (by assumption))))).mono ?_; rintro e w4 ⟨rfl, h2, t34⟩; obtain ⟨z0, z1, z2, z3, f0, f1, f2, f3⟩ := h2.zs; have p0 := h2.c0; have p1 := h2.c1; have p2 := h2.c2; have p3 := h2.c3; have zz := h2.sz; have zy : w.heap.size < w4.heap.size := (by omega); have H2 := hid h2; have HT34 := hid t34; clear h2 t34))
      go_wp2
      obtain ⟨k0, k1, k2, k3⟩ := put4_cells z0 z1 z2 z3 (.int .i64 8) (.int .i64 fT) (.string ⟨#[]⟩) (.slice ra 0 rc)
      refine bodyPost_ret (v := .tuple #[.agg #[.int .i64 8, .int .i64 fT, .string ⟨#[]⟩, .slice ra 0 rc], .slice a2 0 0, .bool q]) (by simp [results, Try.results71, go_sem, k0, k1, k2, k3]) rfl ?_
      unfold ThingPost
      rw [HTP.out]
      have hp4 := put4_tn w4 w.heap.size (.int .i64 8) (.int .i64 fT) (.string ⟨#[]⟩) (.slice ra 0 rc)
      refine ⟨_, _, _, _, _, _, _, _, rfl, ⟨_, _, _, rfl⟩, H2.out.tn.trans hp4 (fun _ _ e => e) (fun i hi e => by omega), ?_, ?_⟩
      · intro e
        cases q
        · rfl
        · simp at e
      · intro T e
        cases q
        · simp at e
        · simp only [if_true, Option.some.injEq] at e
          subst e
          have hrv := (HRV.out.tn (HSET.out.then HT34.out.any) (fun g hg => HNE.out g hg)).tn hp4 (fun g hg => HNE2.out g hg)
          refine ⟨rfl, rfl, rfl, rfl, ?_, HNW.out, ?_⟩
          · rw [show ((insOf l).drop 8).length / 8 = 0 from (by rw [List.length_drop, HIL.out] <;> exact HRF.out.symm)]
            exact hrv
          · intro w0 h0
            have hlw := HLD.out w0 h0
            exact hlw.drop 8 (by rw [HIL.out]; omega) rfl (by omega) (fun e => by rw [HIL.out] at e; omega)

  · have HCC := hid hcc
    go_wp2_with (go_at_call 52; refine (HB.out _).mono ?_; rintro e w2 ⟨rfl, rfl⟩)
    refine (fn_raw _ (insOf l) _ ((HLD.out w HH.out).no (by repeat (first | exact Tn.refl _ _ | apply Tn.drew | apply Tn.drewN | apply Tn.alloc | (refine Tn.then ?_ (by assumption)) | (refine Tn.thenNo ?_ (by assumption))))) HF8.out).mono ?_
    rintro e w2 ⟨rfl, he⟩
    rw [HFN.out] at he
    simp only [if_true, HFT.out] at he
    subst he
    go_wp2_with (go_at_call 69; refine (HRM.out _ (by repeat (first | exact Tn.refl _ _ | apply Tn.drew | apply Tn.drewN | apply Tn.alloc | (refine Tn.then ?_ (by assumption)) | (refine Tn.thenNo ?_ (by assumption))))).mono ?_; rintro e w3 ⟨ra, rc, rfl, ⟨hr1, hr2⟩, hlr, t3, hnew, h2⟩; have HRV := hid hlr; have HNW : Hid (∀ g, (Value.slice ra rf rc).ownBlock = some g → w.heap.size ≤ g) := hid (fun g hg => by have := hnew g hg; omega); have HNE : Hid (∀ g, (Value.slice ra rf rc).ownBlock = some g → ¬ (g = w.heap.size + 1)) := hid (fun g hg => by have := hnew g hg; omega); have HNE2 : Hid (∀ g, (Value.slice ra rf rc).ownBlock = some g → ¬ (g = w.heap.size)) := hid (fun g hg => by have := hnew g hg; omega); have HSET : Hid (Tn (fun k => k = w.heap.size + 1) w3 (w3.setCell ⟨w.heap.size + 1, 3, none⟩ (.slice ra rf rc))) := hid ((Tn.refl (fun k => k = w.heap.size + 1) w3).set _ _ (fun _ => rfl)); have h3 := h2.set3 (.slice ra rf rc); have d0 := h3.c0; have d1 := h3.c1; have d2 := h3.c2; have d3 := h3.c3; have H3 := hid h3; clear h3; have p0 := h2.c0; have p1 := h2.c1; have p2 := h2.c2; have p3 := h2.c3; have g3 := h2.f 3; have zz := h2.sz; have hr3 : (rf : Int) ≤ (rc : Int) := (by omega); clear h2 hlr hnew t3)
    all_goals
      go_region_held3 (fun w' => w'.cell? ⟨w.heap.size + 1, 0, none⟩ = some (.int .i64 8) ∧ w'.cell? ⟨w.heap.size + 1, 1, none⟩ = some (.int .i64 fT) ∧ w'.cell? ⟨w.heap.size + 1, 2, none⟩ = some (.string ⟨#[]⟩) ∧ w'.cell? ⟨w.heap.size + 1, 3, none⟩ = some (.slice ra rf rc)) (go_keep) (first | (go_at_call 77; refine (HI.out _ _ ra rc H3.out (by repeat (first | exact Tn.refl _ _ | apply Tn.drew | apply Tn.drewN | apply Tn.alloc | (refine Tn.then ?_ (by assumption)) | (refine Tn.thenNo ?_ (by assumption))))).mono ?_; rintro e w4 ⟨rfl, h2, t34⟩; obtain ⟨z0, z1, z2, z3, f0, f1, f2, f3⟩ := h2.zs; have p0 := h2.c0; have p1 := h2.c1; have p2 := h2.c2; have p3 := h2.c3; have zz := h2.sz; have zy : w.heap.size < w4.heap.size := (by omega); have H2 := hid h2; have HT34 := hid t34; clear h2 t34))
      go_wp2
      obtain ⟨k0, k1, k2, k3⟩ := put4_cells z0 z1 z2 z3 (.int .i64 8) (.int .i64 fT) (.string ⟨#[]⟩) (.slice ra rf rc)
      refine bodyPost_ret (v := .tuple #[.agg #[.int .i64 8, .int .i64 fT, .string ⟨#[]⟩, .slice ra rf rc], .slice (a2.map (fun x => x.add 8)) (n2 - 8) (cc2 - 8), .bool q]) (by simp [results, Try.results71, go_sem, k0, k1, k2, k3]) rfl ?_
      unfold ThingPost
      rw [HTP.out]
      have hp4 := put4_tn w4 w.heap.size (.int .i64 8) (.int .i64 fT) (.string ⟨#[]⟩) (.slice ra rf rc)
      refine ⟨_, _, _, _, _, _, _, _, rfl, ⟨_, _, _, rfl⟩, H2.out.tn.trans hp4 (fun _ _ e => e) (fun i hi e => by omega), ?_, ?_⟩
      · intro e
        cases q
        · rfl
        · simp at e
      · intro T e
        cases q
        · simp at e
        · simp only [if_true, Option.some.injEq] at e
          subst e
          have hrv := (HRV.out.tn (HSET.out.then HT34.out.any) (fun g hg => HNE.out g hg)).tn hp4 (fun g hg => HNE2.out g hg)
          refine ⟨rfl, rfl, rfl, rfl, ?_, HNW.out, ?_⟩
          · rw [show ((insOf l).drop 8).length / 8 = rf from (by rw [List.length_drop, HIL.out] <;> exact HRF.out.symm)]
            exact hrv
          · intro w0 h0
            have hlw := HLD.out w0 h0
            exact hlw.drop 8 (by rw [HIL.out]; omega) rfl rfl (fun _ g o e => by subst e; simp [Addr.add])

end Go.Proofs.Ytlkbnjdhokjfnaa
