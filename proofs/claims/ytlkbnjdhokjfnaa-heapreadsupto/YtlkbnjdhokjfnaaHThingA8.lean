/-
  heap: thingIn, walked.
-/
import Derived.Test.YtlkbnjdhokjfnaaHThingA
namespace Go.Proofs.Ytlkbnjdhokjfnaa
set_option linter.unusedSimpArgs false
set_option linter.unusedVariables false
open Go.RowKit
attribute [local go_sem ↓] Go.wp_at_zero Go.wp_at_succ


set_option maxHeartbeats 8000000 in
set_option maxRecDepth 100000 in
theorem thingIn_no8 (a : Option Addr) (l : List UInt8) (w : World) (h : LD 1 eB w (.slice a 8 8) l) (hl8 : l.length = 8) (hx1 : cutB (l.drop 8) (cutLen (hdr l / 16777216) (Hp.isRow ((hdr l / 2 % 16 : Nat) : Int))) = false) : Calls Try.prog 71 #[.slice a 8 8] w (ThingPost (.slice a 8 8) l w) := by
  have h8 : 8 ≤ l.length := by omega
  have hl : l.length ≤ 1073741824 := by omega
  have hlt : Hp.num (l.take 8) < 18446744073709551616 := by
    have := Hp.num_lt (l.take 8)
    have e : (l.take 8).length = 8 := by simp; omega
    rw [e] at this
    exact this
  obtain ⟨H, hH⟩ : ∃ H, hdr l = H := ⟨_, rfl⟩
  rw [hH] at hx1
  have hHlt : H < 18446744073709551616 := by rw [← hH]; unfold hdr clr; omega
  have hclr := clr_bits _ hlt
  have hkb := kind_bits H hHlt
  have htb := tag_bits H hHlt
  have hHc : clr (Hp.num (l.take 8)) = H := hH
  rw [hHc] at hclr
  have hl24 : (H : Int) / 16777216 = ((H / 16777216 : Nat) : Int) := by omega
  obtain ⟨kn, hkn⟩ : ∃ kn, H / 2 % 16 = kn := ⟨_, rfl⟩
  obtain ⟨tn, htn⟩ : ∃ tn, H / 256 % 65536 = tn := ⟨_, rfl⟩
  obtain ⟨n, hn⟩ : ∃ n, H / 16777216 = n := ⟨_, rfl⟩
  obtain ⟨K, hKd⟩ : ∃ K : Int, ((kn : Nat) : Int) = K := ⟨_, rfl⟩
  have hK0 : 0 ≤ K := by omega
  have hK1 : K < 16 := by omega
  have htnl : tn < 65536 := by omega
  have hnl : n < 1099511627776 := by omega
  rw [hkn, hKd] at hkb
  rw [htn] at htb
  rw [hn] at hl24
  have HW : Hid (∀ o, Calls Try.prog 73 #[.slice a 8 8] (w.alloc o) fun e w' => e = .returned (.int .u64 (Hp.num (l.take 8) : Int)) ∧ w' = w.alloc o) := hid (fun o => wordOf_raw _ l _ (h.no ((Tn.refl No w).alloc o)) h8)
  have HDF : ∀ w0, LD 1 eB w0 (.slice a 8 8) l → LD 1 eB w0 (.slice a 0 0) (l.drop 8) := fun w0 h => h.drop 8 h8 rfl rfl (fun e => by omega)
  have HD := HDF w h
  have HH := hid h
  have hdl : (l.drop 8).length ≤ 1073741824 := by simp; omega
  have hdln : (l.drop 8).length = 0 := by simp; omega
  obtain ⟨r, hr⟩ : ∃ r, Hp.isRow K = r := ⟨_, rfl⟩
  have HB : Hid (∀ u, Calls Try.prog 52 #[.int .i64 K] u fun e w' => e = .returned (.bool r) ∧ w' = u) := hid (fun u => by rw [← hr]; exact hasBytes_raw K u)
  obtain ⟨m, hm⟩ : ∃ m, cutLen n r = m := ⟨_, rfl⟩
  have hins : insOf l = (l.drop 8).take m := by unfold insOf; rw [hH, hn, hkn, hKd, hr, hm]
  have HC : Hid (∀ u, Tn No w u → Calls Try.prog 76 #[(.slice a 0 0), .int .u64 (n : Int), .bool r] u fun e w' => w' = u ∧ ∃ v', (∃ a n c, v' = .slice a n c) ∧ e = .returned (.tuple #[v', .bool (cutB (l.drop 8) m)]) ∧ (cutB (l.drop 8) m = true → ∀ w0, LD 1 eB w0 (.slice a 8 8) l → LD 1 eB w0 v' (insOf l))) := hid (fun u t => by
    have := cut_raw a 0 (l.drop 8) n r u (by rw [hdln]; exact HD.no t) hdl hnl
    rw [hm, hdln] at this
    refine this.mono ?_
    rintro e w' ⟨h1, v', h2, h3, h4⟩
    refine ⟨h1, v', h2, h3, fun hq w0 h0 => ?_⟩
    rw [h4 hq, hins]
    refine (HDF w0 h0).take ?_
    exact cutB_le hq)
  have hTP : thingP l = (if cutB (l.drop 8) m = false then none else
      if r = true then (if laidB K (tn : Int) ⟨(insOf l).toArray⟩ 0 H then some ⟨K, (tn : Int), insOf l, []⟩ else none)
      else if K = 8 then (if fnB (insOf l) = false then none else if laidB 8 (farOf (insOf l) / 16) ⟨#[]⟩ (((insOf l).length - 8) / 8) H then some ⟨8, farOf (insOf l) / 16, [], (insOf l).drop 8⟩ else none)
      else if laidB K (tn : Int) ⟨#[]⟩ ((insOf l).length / 8) H then some ⟨K, (tn : Int), [], insOf l⟩ else none) := by
    unfold thingP
    rw [hH, if_neg (show ¬ l.length < 8 by omega)]
    simp only [hkn, hKd, htn, hn, hr, hm]
  have hii : (insOf l).length ≤ 1073741824 := by rw [hins, List.length_take]; omega
  rw [hkn, hKd, hn, hr, hm] at hx1
  have HTP : Hid (thingP l = none) := hid (by rw [hTP, if_pos hx1])
  rw [hx1] at HC
  have HTN : Hid (∀ o o', Tn No w ((w.alloc o).alloc o').drew) := hid (fun o o' => (((Tn.refl No w).alloc o).alloc o').drew)
  clear hTP hins HD HDF h hm hr hn htn hkn hKd hHc hx1 hH
  generalize Hp.num (l.take 8) = W at *
  generalize insOf l = ins at *
  clear hl8 h8 hl hdl hdln
  go_enter Try.func71, Try.ntmps71
  go_wp2_with (go_at_call 73; refine (HW.out _).mono ?_; rintro e w' ⟨rfl, rfl⟩)
  go_region_held3 (fun w' => w'.cell? ⟨w.heap.size + 1, 0, none⟩ = some (.int .i64 K)) (go_keep) (first
    | (go_at_call 52; refine (HB.out _).mono ?_; rintro e w2 ⟨rfl, rfl⟩)
    | (go_at_call 76; refine (HC.out _ (by repeat (first | exact Tn.refl _ _ | apply Tn.drew | apply Tn.drewN | apply Tn.alloc | (refine Tn.then ?_ (by assumption)) | (refine Tn.thenNo ?_ (by assumption))))).mono ?_; rintro e w2 ⟨rfl, v2, ⟨a2, n2, c2, rfl⟩, rfl, hld⟩; have HLD := hid (hld); clear hld))
  go_wp2
  refine bodyPost_ret (v := .tuple #[.agg #[.int .i64 0, .int .i64 0, .string ⟨#[]⟩, .slice none 0 0], .slice none 0 0, .bool false]) (by simp [results, Try.results71, go_sem]) rfl ?_
  unfold ThingPost
  rw [HTP.out]
  exact ⟨_, _, _, _, _, _, _, _, rfl, ⟨_, _, _, rfl⟩, HTN.out _ _, fun _ => rfl, fun T h => by cases h⟩

set_option maxHeartbeats 8000000 in
set_option maxRecDepth 100000 in
theorem thingIn_row8 (a : Option Addr) (l : List UInt8) (w : World) (h : LD 1 eB w (.slice a 8 8) l) (hl8 : l.length = 8) (hx1 : cutB (l.drop 8) (cutLen (hdr l / 16777216) (Hp.isRow ((hdr l / 2 % 16 : Nat) : Int))) = true) (hx2 : Hp.isRow ((hdr l / 2 % 16 : Nat) : Int) = true) : Calls Try.prog 71 #[.slice a 8 8] w (ThingPost (.slice a 8 8) l w) := by
  have h8 : 8 ≤ l.length := by omega
  have hl : l.length ≤ 1073741824 := by omega
  have hlt : Hp.num (l.take 8) < 18446744073709551616 := by
    have := Hp.num_lt (l.take 8)
    have e : (l.take 8).length = 8 := by simp; omega
    rw [e] at this
    exact this
  obtain ⟨H, hH⟩ : ∃ H, hdr l = H := ⟨_, rfl⟩
  rw [hH] at hx1 hx2
  have hHlt : H < 18446744073709551616 := by rw [← hH]; unfold hdr clr; omega
  have hclr := clr_bits _ hlt
  have hkb := kind_bits H hHlt
  have htb := tag_bits H hHlt
  have hHc : clr (Hp.num (l.take 8)) = H := hH
  rw [hHc] at hclr
  have hl24 : (H : Int) / 16777216 = ((H / 16777216 : Nat) : Int) := by omega
  obtain ⟨kn, hkn⟩ : ∃ kn, H / 2 % 16 = kn := ⟨_, rfl⟩
  obtain ⟨tn, htn⟩ : ∃ tn, H / 256 % 65536 = tn := ⟨_, rfl⟩
  obtain ⟨n, hn⟩ : ∃ n, H / 16777216 = n := ⟨_, rfl⟩
  obtain ⟨K, hKd⟩ : ∃ K : Int, ((kn : Nat) : Int) = K := ⟨_, rfl⟩
  have hK0 : 0 ≤ K := by omega
  have hK1 : K < 16 := by omega
  have htnl : tn < 65536 := by omega
  have hnl : n < 1099511627776 := by omega
  rw [hkn, hKd] at hkb
  rw [htn] at htb
  rw [hn] at hl24
  have HW : Hid (∀ o, Calls Try.prog 73 #[.slice a 8 8] (w.alloc o) fun e w' => e = .returned (.int .u64 (Hp.num (l.take 8) : Int)) ∧ w' = w.alloc o) := hid (fun o => wordOf_raw _ l _ (h.no ((Tn.refl No w).alloc o)) h8)
  have HDF : ∀ w0, LD 1 eB w0 (.slice a 8 8) l → LD 1 eB w0 (.slice a 0 0) (l.drop 8) := fun w0 h => h.drop 8 h8 rfl rfl (fun e => by omega)
  have HD := HDF w h
  have HH := hid h
  have hdl : (l.drop 8).length ≤ 1073741824 := by simp; omega
  have hdln : (l.drop 8).length = 0 := by simp; omega
  obtain ⟨r, hr⟩ : ∃ r, Hp.isRow K = r := ⟨_, rfl⟩
  have HB : Hid (∀ u, Calls Try.prog 52 #[.int .i64 K] u fun e w' => e = .returned (.bool r) ∧ w' = u) := hid (fun u => by rw [← hr]; exact hasBytes_raw K u)
  obtain ⟨m, hm⟩ : ∃ m, cutLen n r = m := ⟨_, rfl⟩
  have hins : insOf l = (l.drop 8).take m := by unfold insOf; rw [hH, hn, hkn, hKd, hr, hm]
  have HC : Hid (∀ u, Tn No w u → Calls Try.prog 76 #[(.slice a 0 0), .int .u64 (n : Int), .bool r] u fun e w' => w' = u ∧ ∃ v', (∃ a n c, v' = .slice a n c) ∧ e = .returned (.tuple #[v', .bool (cutB (l.drop 8) m)]) ∧ (cutB (l.drop 8) m = true → ∀ w0, LD 1 eB w0 (.slice a 8 8) l → LD 1 eB w0 v' (insOf l))) := hid (fun u t => by
    have := cut_raw a 0 (l.drop 8) n r u (by rw [hdln]; exact HD.no t) hdl hnl
    rw [hm, hdln] at this
    refine this.mono ?_
    rintro e w' ⟨h1, v', h2, h3, h4⟩
    refine ⟨h1, v', h2, h3, fun hq w0 h0 => ?_⟩
    rw [h4 hq, hins]
    refine (HDF w0 h0).take ?_
    exact cutB_le hq)
  have hTP : thingP l = (if cutB (l.drop 8) m = false then none else
      if r = true then (if laidB K (tn : Int) ⟨(insOf l).toArray⟩ 0 H then some ⟨K, (tn : Int), insOf l, []⟩ else none)
      else if K = 8 then (if fnB (insOf l) = false then none else if laidB 8 (farOf (insOf l) / 16) ⟨#[]⟩ (((insOf l).length - 8) / 8) H then some ⟨8, farOf (insOf l) / 16, [], (insOf l).drop 8⟩ else none)
      else if laidB K (tn : Int) ⟨#[]⟩ ((insOf l).length / 8) H then some ⟨K, (tn : Int), [], insOf l⟩ else none) := by
    unfold thingP
    rw [hH, if_neg (show ¬ l.length < 8 by omega)]
    simp only [hkn, hKd, htn, hn, hr, hm]
  have hii : (insOf l).length ≤ 1073741824 := by rw [hins, List.length_take]; omega
  rw [hkn, hKd] at hx2
  obtain rfl : r = true := by rw [← hr, hx2]
  rw [hkn, hKd, hn, hr, hm] at hx1
  obtain ⟨s, hs⟩ : ∃ s : ByteArray, (⟨(insOf l).toArray⟩ : ByteArray) = s := ⟨_, rfl⟩
  have hss : s.size ≤ 1073741824 := by rw [← hs]; simpa [ByteArray.size] using hii
  obtain ⟨q, hq⟩ : ∃ q, laidB K (tn : Int) s 0 H = q := ⟨_, rfl⟩
  have HTP : Hid (thingP l = (if q = true then some ⟨K, (tn : Int), insOf l, []⟩ else none)) := hid (by rw [hTP, hx1, hs, hq]; simp)
  have HI : Hid (∀ u, Tn No ((w.alloc (.cells #[.int .i64 0, .int .i64 0, .string ⟨#[]⟩, .slice none 0 0] 24)).alloc (.cells #[.int .i64 K, .int .i64 (tn : Int), .string s, .slice none 0 0] 24)) u → Calls Try.prog 77 #[.agg #[.int .i64 K, .int .i64 (tn : Int), .string s, .slice none 0 0], .int .u64 (H : Int)] u fun e w' => e = .returned (.bool q) ∧ Two w K (tn : Int) s (.slice none 0 0) w') := hid (fun u t => by
    refine (isLaid_raw K (tn : Int) s none 0 0 H u hss (by omega)).mono ?_
    rintro e w' ⟨he, t'⟩
    rw [hq] at he
    exact ⟨he, (Two.begin w _ _ _ _).no (t.then t')⟩)
  rw [hx1] at HC
  have HS := hid hs
  clear hTP hins HD HDF h hm hr hn htn hkn hKd hHc hx1 hH hx2 hs hq
  generalize Hp.num (l.take 8) = W at *
  clear hl8 h8 hl hdl hdln
  go_enter Try.func71, Try.ntmps71
  go_wp2_with (go_at_call 73; refine (HW.out _).mono ?_; rintro e w' ⟨rfl, rfl⟩)
  go_region_held3 (fun w' => w'.cell? ⟨w.heap.size + 1, 0, none⟩ = some (.int .i64 K)) (go_keep) (first
    | (go_at_call 52; refine (HB.out _).mono ?_; rintro e w2 ⟨rfl, rfl⟩)
    | (go_at_call 76; refine (HC.out _ (by repeat (first | exact Tn.refl _ _ | apply Tn.drew | apply Tn.drewN | apply Tn.alloc | (refine Tn.then ?_ (by assumption)) | (refine Tn.thenNo ?_ (by assumption))))).mono ?_; rintro e w2 ⟨rfl, v2, ⟨a2, n2, c2, rfl⟩, rfl, hld⟩; have HLD := hid (hld trivial); clear hld))
  go_wp2_with (first
    | (go_at_call 52; refine (HB.out _).mono ?_; rintro e w2 ⟨rfl, rfl⟩)
    | (refine wpList_str _ rfl _ rfl _ rfl (insOf l) ((HLD.out w HH.out).no (by repeat (first | exact Tn.refl _ _ | apply Tn.drew | apply Tn.drewN | apply Tn.alloc | (refine Tn.then ?_ (by assumption)) | (refine Tn.thenNo ?_ (by assumption))))) ?_; rw [HS.out]))
  go_region_held3 (fun w' => w'.cell? ⟨w.heap.size + 1, 0, none⟩ = some (.int .i64 K) ∧ w'.cell? ⟨w.heap.size + 1, 1, none⟩ = some (.int .i64 (tn : Int)) ∧ w'.cell? ⟨w.heap.size + 1, 2, none⟩ = some (.string s) ∧ w'.cell? ⟨w.heap.size + 1, 3, none⟩ = some (.slice none 0 0)) (go_keep) (first | (go_at_call 77; refine (HI.out _ (by repeat (first | exact Tn.refl _ _ | apply Tn.drew | apply Tn.drewN | apply Tn.alloc | (refine Tn.then ?_ (by assumption)) | (refine Tn.thenNo ?_ (by assumption))))).mono ?_; rintro e w3 ⟨rfl, h2⟩; obtain ⟨z0, z1, z2, z3, f0, f1, f2, f3⟩ := h2.zs; have p0 := h2.c0; have p1 := h2.c1; have p2 := h2.c2; have p3 := h2.c3; have zz := h2.sz; have zy : w.heap.size < w3.heap.size := (by omega); have H2 := hid h2; clear h2))
  go_wp2
  obtain ⟨k0, k1, k2, k3⟩ := put4_cells z0 z1 z2 z3 (.int .i64 K) (.int .i64 (tn : Int)) (.string s) (.slice none 0 0)
  refine bodyPost_ret (v := .tuple #[.agg #[.int .i64 K, .int .i64 (tn : Int), .string s, .slice none 0 0], .slice none 0 0, .bool q]) (by simp [results, Try.results71, go_sem, k0, k1, k2, k3]) rfl ?_
  unfold ThingPost
  rw [HTP.out]
  refine ⟨_, _, _, _, _, _, _, _, rfl, ⟨_, _, _, rfl⟩, H2.out.tn.trans (put4_tn w3 w.heap.size _ _ _ _) (fun _ _ e => e) (fun i hi e => by omega), ?_, ?_⟩
  · intro e
    cases q
    · rfl
    · simp at e
  · intro T e
    cases q
    · simp at e
    · simp only [if_true, Option.some.injEq] at e
      subst e
      exact ⟨rfl, rfl, rfl, HS.out.symm, (by simp only [List.length_nil, Nat.zero_div, List.replicate_zero]; exact LR.nil _ _ _), (fun g hg => (by cases hg)), fun _ _ => LD.nil _ _ _⟩
end Go.Proofs.Ytlkbnjdhokjfnaa
