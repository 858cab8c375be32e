/-
  heap's reference: a thing that is read: a row of bytes.
-/
import Derived.Test.YtlkbnjdhokjfnaaRThA
namespace Go.Proofs.Ytlkbnjdhokjfnaa
set_option linter.unusedSimpArgs false
set_option linter.unusedVariables false
open Go.RowKit
attribute [local go_sem ↓] Go.wp_at_zero Go.wp_at_succ

/-- a thing's own place -/
structure Tz (t : Nat) (kd tg : Int) (s : ByteArray) (v : Value) (u : World) : Prop where
  c0 : u.cell? ⟨t, 0, none⟩ = some (.int .i64 kd)
  c1 : u.cell? ⟨t, 1, none⟩ = some (.int .i64 tg)
  c2 : u.cell? ⟨t, 2, none⟩ = some (.string s)
  c3 : u.cell? ⟨t, 3, none⟩ = some v
  fz : ∀ j, u.frozen? ⟨t, j, none⟩ = false
  lt : t < u.heap.size
theorem tz_new (w : World) (kd tg : Int) (s : ByteArray) (v : Value) : Tz w.heap.size kd tg s v (w.alloc (.cells #[.int .i64 kd, .int .i64 tg, .string s, v] 24)) := by
  have hh := heap_alloc_new w (.cells #[.int .i64 kd, .int .i64 tg, .string s, v] 24)
  exact ⟨by simp only [World.cell?, hh]; rfl, by simp only [World.cell?, hh]; rfl, by simp only [World.cell?, hh]; rfl, by simp only [World.cell?, hh]; rfl, fun j => by simp only [World.frozen?, hh]; simp, by simp⟩
theorem Tz.tn {F : Nat → Prop} {t : Nat} {kd tg : Int} {s : ByteArray} {v : Value} {u u' : World} (h : Tz t kd tg s v u) (q : Tn F u u') (hn : ¬ F t) : Tz t kd tg s v u' :=
  ⟨by rw [q.cell h.lt hn]; exact h.c0, by rw [q.cell h.lt hn]; exact h.c1, by rw [q.cell h.lt hn]; exact h.c2, by rw [q.cell h.lt hn]; exact h.c3, fun j => by rw [q.frozen h.lt hn]; exact h.fz j, Nat.lt_of_lt_of_le h.lt q.size⟩
theorem tnr {w u u' : World} (t : Tn No w u) (t' : Tn (fun k => k = w.heap.size) u u') : Tn No w u' := t.trans t' (fun _ _ e => e) (fun i hi e => by omega)

theorem rv_nil {bv : Value} {A : Nat} {w w' : World} {p b : Nat} {mv : Value} {row : List Int} (h : RQ bv A w p b mv row) (t : Tn No w w') : Rv bv A w p b mv row [] (.slice none 0 0) w' mv :=
  ⟨LR.nil 2 eR w', (fun g hg => by cases hg), h.no t, Up.no t⟩

set_option maxHeartbeats 8000000 in
set_option maxRecDepth 100000 in
theorem rthing_rows (bv : Value) (A : Nat) (p b : Nat) (mv : Value) (row : List Int) (l : List UInt8) (x : Nat) (w : World) (h : RQ bv A w p b mv row) (hl : LD 1 eB w bv l) (hn : l.length ≤ 1073741824) (hA : A < 18446744073709551616) (hx : x < 18446744073709551616)
    (hB : atB l A x = true) (h8 : x % 8 = 0) (h2 : atW l A x % 2 = 1) (h64 : atW l A x / 64 % 4 = 0)
    (hrow : Hp.isRow ((atW l A x / 2 % 16 : Nat) : Int) = true) (hfit : (atW l A x / 16777216 + 7) / 8 ≤ (l.length - (x - A) - 8) / 8) :
    Calls Try.prog 50 #[.pointer (some ⟨p, 0, none⟩), .int .u64 (x : Int)] w (RThingPost bv A l w p b mv row x) := by
  have hread := read_at hB
  have hHb := atW_lt l A x
  have hd := hd_of _ hHb
  have hBB := hB
  simp only [atB, decide_eq_true_eq] at hBB
  have t1 : Tn No w (w.alloc (.cells #[.int .i64 0, .int .i64 0, .string ⟨#[]⟩, .slice none 0 0] 24)) := (Tn.refl No w).alloc _
  have HAT : Hid (Calls Try.prog 67 #[.pointer (some ⟨p, 0, none⟩), .int .u64 (x : Int)] (w.alloc (.cells #[.int .i64 0, .int .i64 0, .string ⟨#[]⟩, .slice none 0 0] 24)) fun e w' => e = .returned (.tuple #[.int .u64 (atW l A x : Int), .bool true]) ∧ Rz w.heap.size w' ∧ RQ bv A w' p b mv row ∧ Tn No w w') := hid ((rat_raw bv A p b mv row l x _ (h.no t1) (hl.no t1) hn hA hx).mono (fun e w' ⟨he, t⟩ => ⟨by rw [he, hB], (rz_new w).tn t (fun e => e), h.no (t1.then t), t1.then t⟩))
  obtain ⟨o, ho⟩ : ∃ o, x - A = o := ⟨_, rfl⟩
  rw [ho] at hBB hfit hread
  obtain ⟨H, hH⟩ : ∃ H, atW l A x = H := ⟨_, rfl⟩
  rw [hH] at hHb hd h2 h64 hrow hfit HAT hread
  unfold readH at hread
  simp only at hread
  obtain ⟨Q2, hQ2⟩ : ∃ q, H / 2 = q := ⟨_, rfl⟩
  obtain ⟨Q64, hQ64⟩ : ∃ q, H / 64 = q := ⟨_, rfl⟩
  obtain ⟨Q256, hQ256⟩ : ∃ q, H / 256 = q := ⟨_, rfl⟩
  rw [hQ2, hQ64, hQ256] at hd hread
  rw [hQ2] at hrow
  rw [hQ64] at h64
  obtain ⟨K, hK⟩ : ∃ q, Q2 % 16 = q := ⟨_, rfl⟩
  obtain ⟨T, hT⟩ : ∃ q, Q256 % 65536 = q := ⟨_, rfl⟩
  obtain ⟨N, hN⟩ : ∃ q, H / 16777216 = q := ⟨_, rfl⟩
  obtain ⟨W, hW⟩ : ∃ q, (N + 7) / 8 = q := ⟨_, rfl⟩
  rw [hK, hT, hN] at hd hread
  rw [hK] at hrow
  rw [hN, hW] at hfit
  simp only [hrow, if_true, hW] at hread
  have hk8 : 1 ≤ K ∧ K ≤ 8 := by
    simp [Hp.isRow] at hrow
    omega
  rw [if_pos ⟨h8, h2, h64, hk8.1, hk8.2, hfit⟩] at hread
  obtain ⟨S, hS⟩ : ∃ S, Hp.sub l (o + 8) N = S := ⟨_, rfl⟩
  obtain ⟨O8, hO8⟩ : ∃ q, o + 8 = q := ⟨_, rfl⟩
  obtain ⟨I, hI⟩ : ∃ q, O8 + N = q := ⟨_, rfl⟩
  obtain ⟨E, hE⟩ : ∃ q, O8 + 8 * W = q := ⟨_, rfl⟩
  have hEL : E ≤ l.length := by omega
  have hIE : I ≤ E := by omega
  have hSl : S.length = N := by rw [← hS]; simp [Hp.sub]; omega
  have hpad : (∀ q, I ≤ q → q < E → ∀ hq : q < l.length, l[q] = 0) → Hp.sub l (o + 8 + N) (8 * W - N) = List.replicate (8 * W - N) 0 := fun hz => by
    rw [hO8, hI, show 8 * W - N = E - I by omega]
    apply List.ext_getElem
    · simp [Hp.sub]; omega
    · intro i h1 h2
      simp [Hp.sub] at h1
      simp only [Hp.sub, List.getElem_take, List.getElem_drop, List.getElem_replicate]
      exact hz _ (by omega) (by omega) _
  have hpad2 : ∀ q, I ≤ q → q < E → ∀ hq : q < l.length, l[q] ≠ 0 → ¬ Hp.sub l (o + 8 + N) (8 * W - N) = List.replicate (8 * W - N) 0 := fun q h1 h2 hq hne he => by
    apply hne
    have e := congrArg (fun z => z[q - I]?) he
    rw [hO8, hI] at e
    simp only [Hp.sub] at e
    rw [List.getElem?_take_of_lt (by omega), List.getElem?_drop, show I + (q - I) = q by omega, List.getElem?_eq_getElem hq, List.getElem?_replicate, if_pos (by omega)] at e
    exact Option.some.inj e
  have HNO : Hid (∀ q, I ≤ q → q < E → ∀ hq : q < l.length, l[q] ≠ 0 → ∀ u', Tn No w u' → RThingPost bv A l w p b mv row x (.returned (.tuple #[.agg #[.int .i64 (K : Int), .int .i64 (T : Int), .string ⟨S.toArray⟩, .slice none 0 0], .bool false])) u') := hid (fun q h1 h2 hq hne u' t => by
    rw [if_neg (hpad2 q h1 h2 hq hne)] at hread
    exact ⟨_, _, _, _, _, _, _, mv, rfl, Up.no t, .inl ⟨rfl, hread⟩⟩)
  obtain ⟨mb, hmb⟩ : ∃ mb, mayR (K : Int) (T : Int) ⟨S.toArray⟩ 0 = mb := ⟨_, rfl⟩
  have HOK : Hid ((∀ q, I ≤ q → q < E → ∀ hq : q < l.length, l[q] = 0) → ∀ u', Tn No w u' → RThingPost bv A l w p b mv row x (.returned (.tuple #[.agg #[.int .i64 (K : Int), .int .i64 (T : Int), .string ⟨S.toArray⟩, .slice none 0 0], .bool mb])) u') := hid (fun hz u' t => by
    rw [if_pos (hpad hz), hS] at hread
    have hm : Hp.May (⟨(K : Int), (T : Int), S, []⟩ : Hp.Nd Nat) = mb := by rw [← hmb]; rfl
    simp only [hm] at hread
    refine ⟨_, _, _, _, _, _, _, mv, rfl, Up.no t, ?_⟩
    cases mb with
    | false => exact .inl ⟨rfl, by simpa using hread⟩
    | true => exact .inr ⟨rfl, [], by simpa using hread, rv_nil h t, by simp⟩)
  obtain ⟨kd, hkd⟩ : ∃ kd : Int, (K : Int) = kd := ⟨_, rfl⟩
  obtain ⟨tg, htg⟩ : ∃ tg : Int, (T : Int) = tg := ⟨_, rfl⟩
  have HMY : Hid (∀ w2, Rz w.heap.size w2 → Tn No w w2 → Calls Try.prog 31 #[.agg #[.int .i64 kd, .int .i64 tg, .string ⟨S.toArray⟩, .slice none 0 0]] (w2.alloc (.cells #[.int .i64 kd, .int .i64 tg, .string ⟨S.toArray⟩, .slice none 0 0] 24)) fun e w' => e = .returned (.bool mb) ∧ Rz w.heap.size w' ∧ Tz w2.heap.size kd tg ⟨S.toArray⟩ (.slice none 0 0) w' ∧ Tn No w w') := hid (fun w2 hz t => (rmb_raw kd tg ⟨S.toArray⟩ none 0 0 _ (by simp [ByteArray.size]; omega)).mono (fun e w' ⟨he, t'⟩ => by
    rw [← hkd, ← htg, hmb] at he
    have ta : Tn No w2 (w2.alloc (.cells #[.int .i64 kd, .int .i64 tg, .string ⟨S.toArray⟩, .slice none 0 0] 24)) := (Tn.refl No w2).alloc _
    exact ⟨he, hz.tn (ta.then t') (fun e => e), (tz_new w2 _ _ _ _).tn t' (fun e => e), t.then (ta.then t')⟩))
  obtain ⟨w2', w64, w256, hk, ht, hnn, kb, tb, nb⟩ := hd
  obtain ⟨ba, bc', hbv, hbc, hbcm, hat⟩ := hl
  obtain ⟨g, off, rfl, hg, hcell⟩ := hat (by omega)
  have HCV : Hid (∀ ad u, (¬ bc' = O8 → ad = some ⟨g, off + O8, none⟩) → Tn No w u → (convert 40 9 (.slice ad N (bc' - O8))).run Try.prog u = .ok (.string ⟨S.toArray⟩) u) := hid (fun ad u had t => by
    refine ld_string ⟨ad, bc' - O8, by rw [hSl], by omega, by omega, fun h0 => ⟨g, off + O8, had (by omega), Nat.lt_of_lt_of_le hg t.size, fun i hi j hj => ?_⟩⟩
    have := hcell (O8 + i) (by omega) j hj
    rw [t.cell hg (fun e => e), show off + O8 + (i * 1 + j) = off + ((O8 + i) * 1 + j) by omega, this]
    simp [← hS, Hp.sub, hO8])
  have HCE : Hid (∀ u, Tn No w u → ∀ q (hq : q < l.length), u.cell? ⟨g, off + q, none⟩ = some (.int .u8 (l[q].toNat : Int))) := hid (fun u t q hq => by
    have := hcell q hq 0 (by omega)
    rw [t.cell hg (fun e => e), show off + q = off + (q * 1 + 0) by omega, this]
    rfl)
  obtain ⟨L, hL⟩ : ∃ L, l.length = L := ⟨_, rfl⟩
  have HL := hid hL
  have hgl : g < w.heap.size := hg
  clear hat hcell
  rw [hL] at hbv hbc hn hBB hfit hEL
  rw [hkd, htg] at HNO HOK
  rw [hkd] at hk hrow
  rw [htg] at ht
  have HRR := hid (fun u => rrows_at hrow u)
  have e8 : ((x : Int) % 8 != 0) = false := by simp; omega
  have e2 : ((H : Int) % 2 == 0) = false := by simp; omega
  have e64 : ((Q64 : Int) % 4 != 0) = false := by simp; omega
  have s1 : (x : Int) - (A : Int) = (o : Int) := by omega
  have s2 : IntKind.u64.wrap ((x : Int) - (A : Int)) = (o : Int) := by rw [s1]; simp [IntKind.wrap, IntKind.bits, IntKind.signed]; omega
  obtain ⟨M, hM⟩ : ∃ M, (L - o - 8) / 8 = M := ⟨_, rfl⟩
  have s3 : ((L : Int) - (o : Int) - 8) / 8 = (M : Int) := by omega
  have s4 : IntKind.u64.wrap ((L : Int) - (o : Int)) = (L : Int) - (o : Int) := by simp [IntKind.wrap, IntKind.bits, IntKind.signed]; omega
  have s5 : IntKind.u64.wrap ((L : Int) - (o : Int) - 8) = (L : Int) - (o : Int) - 8 := by simp [IntKind.wrap, IntKind.bits, IntKind.signed]; omega
  have b1 : (o : Int) + 8 ≤ (L : Int) := by omega
  have b2 : (L : Int) ≤ 1073741824 := by omega
  have nbi : (N : Int) < 1099511627776 := by omega
  rw [hM] at hfit
  have g4 : decide (M < W) = false := by simp; omega
  have v1 : ((N : Int) + 7) / 8 = (W : Int) := by omega
  have v2 : (o : Int) + 8 = (O8 : Int) := by omega
  have v3 : (O8 : Int) + (N : Int) = (I : Int) := by omega
  have v4 : (O8 : Int) + 8 * (W : Int) = (E : Int) := by omega
  have v7 : (O8 : Int) + 8 * (((N : Int) + 7) / 8) = (E : Int) := by omega
  have v8 : ((N : Int) + 7) / 8 ≤ 1073741824 := by omega
  have v5 : (I : Int) - (O8 : Int) = (N : Int) := by omega
  have v6 : I - O8 = N := by omega
  have c1 : (E : Int) ≤ (L : Int) := by omega
  have c2 : (I : Int) ≤ (E : Int) := by omega
  have c3 : (L : Int) ≤ (bc' : Int) := by omega
  have c4 : (W : Int) ≤ 1073741824 := by omega
  have c5 : (O8 : Int) ≤ (I : Int) := by omega
  have kb0 : 1 ≤ kd := by omega
  have kb1 : kd ≤ 8 := by omega
  have kb2 : decide (kd < 1) = false := by simp; omega
  have kb3 : decide (8 < kd) = false := by simp; omega
  have tb0 : 0 ≤ tg := by omega
  have tb1 : tg < 65536 := by omega
  subst hbv
  clear h hA hx t1 hH hB h8 h2 h64 hHb hQ2 hQ64 hQ256 hK hT hN hW hO8 hI hE ho hM hBB hread hpad hpad2 hmb hkd htg kb tb hk8 hS hSl hfit hrow hL
  by_cases hcc : bc' = O8
  · subst hcc
    obtain rfl : N = 0 := by omega
    obtain rfl : W = 0 := by omega
    obtain rfl : I = bc' := by omega
    obtain rfl : E = I := by omega
    obtain rfl : L = E := by omega
    simp only [Int.natCast_zero] at hnn
    clear v1 v3 v4 v5 v6 v7 v8 c1 c2 c3 c4 c5 hIE hEL hbc nb nbi
    go_enter Try.func50, Try.ntmps50
    go_wp2_with (first
      | (go_at_call 67; refine HAT.out.mono ?_; rintro e w2 ⟨rfl, hz, hq, t2⟩; have z0 := hz.c0; have z1 := hz.c1; have z2 := hz.c2; have z3 := hz.c3; have f0 := hz.fz 0; have f1 := hz.fz 1; have f2 := hz.fz 2; have f3 := hz.fz 3; have r0 := hq.c0; have r1 := hq.c1; have rl := hq.lt; have zl := hz.lt; have HZ2 := hid hz; have HT2 := hid t2; have hcv := HCV.out (some ⟨g, off, none⟩) (w2.alloc (.cells #[.int .i64 kd, .int .i64 tg, .string ⟨#[]⟩, .slice none 0 0] 24)) (fun e => absurd rfl e) (t2.alloc _); rw [Nat.sub_self] at hcv; clear hz t2 hq)
      | (go_at_call 33; refine (HRR.out _).mono ?_; rintro e w3 ⟨rfl, rfl⟩))
    go_loopw [13] (fun i wr => i = .int .u64 (L : Int) ∧ wr = w2.alloc (.cells #[.int .i64 kd, .int .i64 tg, .string ⟨S.toArray⟩, .slice none 0 0] 24)) (fun i _ => 0)
    case atStart => exact ⟨rfl, rfl⟩
    case round =>
      obtain ⟨rfl, rfl⟩ := hrel
      have hfin := hid (HOK.out (fun q h1 h2 _ => by omega))
      have hmy := hid (HMY.out w2 HZ2.out HT2.out)
      clear HNO HOK HMY HCE HCV z0 z1 z2 z3 f0 f1 f2 f3
      go_wp2_with (go_at_call 31; refine hmy.out.mono ?_; rintro e w4 ⟨rfl, hz, hq, t4⟩; have z0 := hz.c0; have z1 := hz.c1; have z2 := hz.c2; have z3 := hz.c3; have f0 := hz.fz 0; have f1 := hz.fz 1; have f2 := hz.fz 2; have f3 := hz.fz 3; have zl4 := hz.lt; have y0 := hq.c0; have y1 := hq.c1; have y2 := hq.c2; have y3 := hq.c3; have yl := hq.lt; have HT4 := hid t4; clear hz hq t4)
      have K4 := hid (set4 z0 z1 z2 z3)
      refine bodyPost_ret (v := .tuple #[.agg #[.int .i64 kd, .int .i64 tg, .string ⟨S.toArray⟩, .slice none 0 0], .bool mb]) (by simp [results, Try.results50, go_sem, (K4.out _ _ _ _).1, (K4.out _ _ _ _).2.1, (K4.out _ _ _ _).2.2.1, (K4.out _ _ _ _).2.2.2]) rfl ?_
      exact hfin.out _ (tnr HT4.out (((((Tn.refl (fun k => k = w.heap.size) w4).set _ _ (fun _ => rfl)).set _ _ (fun _ => rfl)).set _ _ (fun _ => rfl)).set _ _ (fun _ => rfl)))
  · have hcc2 : ¬ (bc' : Int) = (O8 : Int) := by omega
    go_enter Try.func50, Try.ntmps50
    go_wp2_with (first
      | (go_at_call 67; refine HAT.out.mono ?_; rintro e w2 ⟨rfl, hz, hq, t2⟩; have z0 := hz.c0; have z1 := hz.c1; have z2 := hz.c2; have z3 := hz.c3; have f0 := hz.fz 0; have f1 := hz.fz 1; have f2 := hz.fz 2; have f3 := hz.fz 3; have r0 := hq.c0; have r1 := hq.c1; have rl := hq.lt; have zl := hz.lt; have HZ2 := hid hz; have HT2 := hid t2; have hcv := HCV.out (some ⟨g, off + O8, none⟩) (w2.alloc (.cells #[.int .i64 kd, .int .i64 tg, .string ⟨#[]⟩, .slice none 0 0] 24)) (fun _ => rfl) (t2.alloc _); clear hz t2 hq)
      | (go_at_call 33; refine (HRR.out _).mono ?_; rintro e w3 ⟨rfl, rfl⟩))
    go_loopw [13] (fun i wr => ∃ q : Nat, I ≤ q ∧ q ≤ E ∧ i = .int .u64 (q : Int) ∧ (∀ j, I ≤ j → j < q → ∀ hj : j < l.length, l[j] = 0) ∧ wr = w2.alloc (.cells #[.int .i64 kd, .int .i64 tg, .string ⟨S.toArray⟩, .slice none 0 0] 24)) (fun i _ => E - (intOf i).toNat)
    case atStart => exact ⟨I, Nat.le_refl _, hIE, rfl, fun j h1 h2 => by omega, rfl⟩
    case round =>
      obtain ⟨q, hq1, hq2, rfl, hz, rfl⟩ := hrel
      by_cases hlt : q < E
      · have hql : q < l.length := by have := HL.out; omega
        have hce := HCE.out (w2.alloc (.cells #[.int .i64 kd, .int .i64 tg, .string ⟨S.toArray⟩, .slice none 0 0] 24)) (HT2.out.alloc _) q hql
        have hqi : (q : Int) < (E : Int) := by omega
        have hqi2 : (q : Int) < (L : Int) := by omega
        by_cases hz0 : l[q] = 0
        · have HY : Hid (∀ j, I ≤ j → j < q + 1 → ∀ hj : j < l.length, l[j] = 0) := hid (fun j hj1 hj2 hjl => by
            by_cases e : j = q
            · subst e; exact hz0
            · exact hz j hj1 (by omega) hjl)
          rw [hz0] at hce
          clear hz hz0 HNO HOK HMY
          go_wp2
          go_roundw
          case rel => exact ⟨q + 1, by omega, by omega, by go_num, HY.out, by first | rfl | trivial⟩
          case measure => simp [intOf]; omega
        · have hfin := hid (HNO.out q hq1 hlt hql hz0)
          have hnz : ((l[q]).toNat : Int) ≠ 0 := by
            intro e
            apply hz0
            apply UInt8.toNat_inj.1
            simpa using e
          have hnz2 : (((l[q]).toNat : Int) == 0) = false := by simpa using hnz
          have hnz3 : (((l[q]).toNat : Int) != 0) = true := by simpa using hnz
          generalize ((l[q]).toNat : Int) = y at *
          clear hz hz0 HNO HOK HMY
          go_wp2
          have K4 := hid (set4a z0 z1 z2 z3 zl)
          refine bodyPost_ret (v := .tuple #[.agg #[.int .i64 kd, .int .i64 tg, .string ⟨S.toArray⟩, .slice none 0 0], .bool false]) (by simp [results, Try.results50, go_sem, (K4.out _ _ _ _ _).1, (K4.out _ _ _ _ _).2.1, (K4.out _ _ _ _ _).2.2.1, (K4.out _ _ _ _ _).2.2.2]) rfl ?_
          exact hfin.out _ (tnr HT2.out ((((((Tn.refl (fun k => k = w.heap.size) w2).set _ _ (fun _ => rfl)).set _ _ (fun _ => rfl)).set _ _ (fun _ => rfl)).set _ _ (fun _ => rfl)).alloc _))
      · obtain rfl : q = E := by omega
        have hfin := hid (HOK.out hz)
        have hmy := hid (HMY.out w2 HZ2.out HT2.out)
        clear hz HNO HOK HMY HCE HCV z0 z1 z2 z3 f0 f1 f2 f3
        go_wp2_with (go_at_call 31; refine hmy.out.mono ?_; rintro e w4 ⟨rfl, hz, hq, t4⟩; have z0 := hz.c0; have z1 := hz.c1; have z2 := hz.c2; have z3 := hz.c3; have f0 := hz.fz 0; have f1 := hz.fz 1; have f2 := hz.fz 2; have f3 := hz.fz 3; have zl4 := hz.lt; have y0 := hq.c0; have y1 := hq.c1; have y2 := hq.c2; have y3 := hq.c3; have yl := hq.lt; have HT4 := hid t4; clear hz hq t4)
        have K4 := hid (set4 z0 z1 z2 z3)
        refine bodyPost_ret (v := .tuple #[.agg #[.int .i64 kd, .int .i64 tg, .string ⟨S.toArray⟩, .slice none 0 0], .bool mb]) (by simp [results, Try.results50, go_sem, (K4.out _ _ _ _).1, (K4.out _ _ _ _).2.1, (K4.out _ _ _ _).2.2.1, (K4.out _ _ _ _).2.2.2]) rfl ?_
        exact hfin.out _ (tnr HT4.out (((((Tn.refl (fun k => k = w.heap.size) w4).set _ _ (fun _ => rfl)).set _ _ (fun _ => rfl)).set _ _ (fun _ => rfl)).set _ _ (fun _ => rfl)))
end Go.Proofs.Ytlkbnjdhokjfnaa
namespace Go.Proofs.Ytlkbnjdhokjfnaa
set_option linter.unusedSimpArgs false
set_option linter.unusedVariables false
open Go.RowKit

/-- a thing whose values are being read, k of them -/
structure Rt (bv : Value) (A : Nat) (wb : World) (p b : Nat) (mv : Value) (row : List Int) (r tb : Nat) (kd tg : Int) (ws : List Nat) (k : Nat) (v : Value) (mvk : Value) (wr : World) : Prop where
  rv : Rv bv A wb p b mv row (ws.take k) v wr mvk
  rz : Rz r wr
  tz : Tz tb kd tg ⟨#[]⟩ v wr
  own : ∀ g, v.ownBlock = some g → g ≠ tb ∧ g ≠ r
  tbn : ¬ RO p b mvk tb
  rn : ¬ RO p b mvk r
  rt : r ≠ tb
  hi : wb.heap.size ≤ tb
section
variable {bv : Value} {A : Nat} {wb : World} {p b : Nat} {mv : Value} {row : List Int} {r tb : Nat} {kd tg : Int} {ws : List Nat} {k : Nat} {v mvk : Value} {wr : World}
theorem Rt.no (h : Rt bv A wb p b mv row r tb kd tg ws k v mvk wr) {u : World} (t : Tn No wr u) : Rt bv A wb p b mv row r tb kd tg ws k v mvk u :=
  ⟨h.rv.no t, h.rz.tn t (fun e => e), h.tz.tn t (fun e => e), h.own, h.tbn, h.rn, h.rt, h.hi⟩
theorem Rt.start (h : RQ bv A wb p b mv row) (hz : Rz r wb) (hr : ¬ RO p b mv r) : Rt bv A wb p b mv row r wb.heap.size kd tg ws 0 (.slice none 0 0) mv (wb.alloc (.cells #[.int .i64 kd, .int .i64 tg, .string ⟨#[]⟩, .slice none 0 0] 24)) := by
  have t : Tn No wb (wb.alloc (.cells #[.int .i64 kd, .int .i64 tg, .string ⟨#[]⟩, .slice none 0 0] 24)) := (Tn.refl No wb).alloc _
  have hlt := hz.lt
  refine ⟨?_, hz.tn t (fun e => e), tz_new _ _ _ _ _, (fun g hg => by cases hg), fun e => ?_, hr, by omega, Nat.le_refl _⟩
  · rw [List.take_zero]; exact rv_nil h t
  · have := h.olt _ e; omega
theorem Rt.step (h : Rt bv A wb p b mv row r tb kd tg ws k v mvk wr) (hk : k < ws.length) (hy : ws[k] < 18446744073709551616) (hl : ((ws.take k).foldl meetW row).length + 1 ≤ 4294967296) (hwl : ws.length ≤ 4294967295) (u : World) (t : Tn No wr u) :
    Calls Try.prog 49 #[.pointer (some ⟨p, 0, none⟩), .int .u64 (ws[k] : Int)] u fun e w5 => ∃ mv5 r1 r2, e = .returned (.agg #[.int .i64 r1, .int .i64 r2]) ∧ (w5.cell? ⟨tb, 3, none⟩ = some v ∧ tb < w5.heap.size) ∧
      ∃ v' w6, (Builtin.append_ #[22, 22] 22 #[v, .slice (some ⟨w5.heap.size, 0, none⟩) 1 1]).run Try.prog (w5.alloc (.cells #[.int .i64 r1, .int .i64 r2] 61)) = .ok v' w6 ∧ (∃ a n c, v' = .slice a n c) ∧ w6.cell? ⟨tb, 3, none⟩ = some v ∧ w6.frozen? ⟨tb, 3, none⟩ = false ∧ tb < w6.heap.size ∧
        Rt bv A wb p b mv row r tb kd tg ws (k + 1) v' mv5 (w6.setCell ⟨tb, 3, none⟩ v') := by
  have hu := h.no t
  refine (rref_raw bv A p b mvk _ ws[k] u hu.rv.ra hy hl).mono ?_
  rintro e w5 ⟨mv5, he, ra5, up5⟩
  have hz5 := up5.tn.size
  have hno : ∀ g, g < u.heap.size → ¬ RO p b mvk g → ¬ RO p b mv5 g := fun g hg hn e => by
    rcases up5.own g e with e | e
    · exact hn e
    · omega
  have htl := hu.tz.lt
  have hrl := hu.rz.lt
  obtain ⟨o, ho⟩ : ∃ o, Obj.cells #[.int .i64 (valW (meetW ((ws.take k).foldl meetW row) ws[k]) ws[k]).1, .int .i64 (valW (meetW ((ws.take k).foldl meetW row) ws[k]) ws[k]).2] 61 = o := ⟨_, rfl⟩
  have t3 : Tn No w5 (w5.alloc o) := (Tn.refl No w5).alloc _
  have ra := ra5.no t3
  have up := up5.trans (Up.no (F := RO p b mv5) t3)
  obtain ⟨e1, e2⟩ := valWs_succ (row := row) hk
  obtain ⟨hlr, hn5⟩ := hu.rv.lr.up up (fun g hg => (hu.rv.new g hg).2)
  obtain ⟨v', w6, hrun, lr', ou⟩ := lref_push hlr (valW (meetW ((ws.take k).foldl meetW row) ws[k]) ws[k]) w5.heap.size (by rw [← ho, World.cell?_alloc_new]; rfl) (by rw [← ho, World.cell?_alloc_new]; rfl) (by simp; omega)
  have hz6 := ou.tn.size
  have hza : (w5.alloc o).heap.size = w5.heap.size + 1 := by simp
  have nv : ∀ g, (g = tb ∨ g = r) → ¬ v.ownBlock = some g := fun g hg e => by
    rcases hg with hg | hg
    · exact (hu.own g e).1 hg
    · exact (hu.own g e).2 hg
  have own6 : ∀ g, v'.ownBlock = some g → g ≠ tb ∧ g ≠ r := fun g hg => by
    rcases ou.own g hg with e | e
    · exact hu.own g e
    · constructor <;> omega
  have tS : Tn (fun i => i = tb) w6 (w6.setCell ⟨tb, 3, none⟩ v') := (Tn.refl (fun i => i = tb) w6).set _ _ (fun _ => rfl)
  have tz6 : Tz tb kd tg ⟨#[]⟩ v w6 := ((hu.tz.tn up5.tn hu.tbn).tn t3 (fun e => e)).tn ou.tn (nv tb (.inl rfl))
  have rz6 : Rz r w6 := ((hu.rz.tn up5.tn hu.rn).tn t3 (fun e => e)).tn ou.tn (nv r (.inr rfl))
  have tb5 := hno tb htl hu.tbn
  have hhi := hu.hi
  have up6 : Up (RO p b mv) wb (RO p b mv5) w6 := by
    refine ⟨(hu.rv.up.trans up).tn.trans ou.tn (fun _ _ e => e) (fun i hi e => ?_), (hu.rv.up.trans up).own⟩
    have := (hu.rv.new i e).1; omega
  have ra6 : RQ bv A w6 p b mv5 (meetW ((ws.take k).foldl meetW row) ws[k]) := ra.kept ou.tn (fun g hg e => hn5 g e hg)
  obtain ⟨a', c', hform, _⟩ := lr'.rw.form
  refine ⟨mv5, _, _, he, ⟨(hu.tz.tn up5.tn hu.tbn).c3, by omega⟩, v', w6, by rw [ho]; exact hrun, ⟨_, _, _, hform⟩, tz6.c3, tz6.fz 3, tz6.lt, ?_⟩
  exact {
    rv := ⟨by rw [e2]; exact lr'.tn tS (fun g hg e => (own6 g hg).1 e), fun g hg => by
        rcases ou.own g hg with e | e
        · exact ⟨(hu.rv.new g e).1, hn5 g e⟩
        · refine ⟨by have := up6.tn.size; have := (hu.rv.up.trans up).tn.size; omega, fun e' => ?_⟩
          have := ra.olt g e'; omega, by rw [e1]; exact ra6.kept tS (fun g hg e => tb5 (by rw [← e]; exact hg)), ⟨up6.tn.trans tS (fun _ _ e => e) (fun i hi e => by omega), up6.own⟩⟩
    rz := rz6.tn tS hu.rt
    tz := ⟨by rw [World.cell?_setCell_other _ _ _ _ (by simp)]; exact tz6.c0, by rw [World.cell?_setCell_other _ _ _ _ (by simp)]; exact tz6.c1, by rw [World.cell?_setCell_other _ _ _ _ (by simp)]; exact tz6.c2, World.cell?_setCell_same _ _ _ tz6.c3, fun j => by rw [World.frozen?_setCell]; exact tz6.fz j, by simpa using tz6.lt⟩
    own := own6
    tbn := tb5
    rn := hno r hrl hu.rn
    rt := hu.rt
    hi := hhi }
theorem Rt.fin {w : World} (h : Rt bv A wb p b mv row r tb kd tg ws k v mvk wr) (hk : ws.length ≤ k) (t : Tn No w wb) (hr : w.heap.size ≤ r) {u : World} (ts : Tn (fun i => i = r) wr u) : Rv bv A w p b mv row ws v u mvk ∧ Up (RO p b mv) w (RO p b mvk) u := by
  have hrv := h.rv
  rw [List.take_of_length_le hk] at hrv
  have hz := t.size
  have up : Up (RO p b mv) w (RO p b mvk) u := by
    have u1 := (Up.no (F := RO p b mv) t).trans hrv.up
    exact ⟨u1.tn.trans ts (fun _ _ e => e) (fun i hi e => by omega), u1.own⟩
  exact ⟨⟨hrv.lr.tn ts (fun g hg e => (h.own g hg).2 e), fun g hg => ⟨by have := (hrv.new g hg).1; omega, (hrv.new g hg).2⟩, hrv.ra.kept ts (fun g hg e => h.rn (by rw [← e]; exact hg)), up⟩, up⟩
end

/-- a word of those that lie in a row -/
theorem atW_at {l : List UInt8} {A x o n k : Nat} (ho : x - A = o) (hA : A ≤ x) (hn : o + 8 + 8 * n ≤ l.length) (hk : k < n) : atW l A (x + 8 + 8 * k) = (Hp.wordsAt l (o + 8) n)[k]'(by simp [Hp.wordsAt]; exact hk) := by
  have hB : atB l A (x + 8 + 8 * k) = true := by simp only [atB, decide_eq_true_eq]; omega
  rw [atW, if_pos hB, show x + 8 + 8 * k - A = o + 8 + 8 * k by omega]
  simp [Hp.wordsAt]
theorem wordsAt_lt (l : List UInt8) (o n : Nat) : ∀ y ∈ Hp.wordsAt l o n, y < 18446744073709551616 := by
  intro y hy
  simp only [Hp.wordsAt, List.mem_map] at hy
  obtain ⟨k, _, rfl⟩ := hy
  have h := Hp.num_lt (Hp.sub l (o + 8 * k) 8)
  have h2 : (Hp.sub l (o + 8 * k) 8).length ≤ 8 := by simp [Hp.sub]; omega
  have h3 : 256 ^ (Hp.sub l (o + 8 * k) 8).length ≤ 256 ^ 8 := Nat.pow_le_pow_right (by omega) h2
  omega
end Go.Proofs.Ytlkbnjdhokjfnaa
namespace Go.Proofs.Ytlkbnjdhokjfnaa
set_option linter.unusedSimpArgs false
set_option linter.unusedVariables false
open Go.RowKit
attribute [local go_sem ↓] Go.wp_at_zero Go.wp_at_succ

set_option maxHeartbeats 8000000 in
set_option maxRecDepth 100000 in
theorem rthing_plain (bv : Value) (A : Nat) (p b : Nat) (mv : Value) (row : List Int) (l : List UInt8) (x : Nat) (w : World) (h : RQ bv A w p b mv row) (hl : LD 1 eB w bv l) (hn : l.length ≤ 1073741824) (hAL : A + l.length ≤ 9223372036854775808) (hx : x < 18446744073709551616) (hbo : ∀ g, bv.ownBlock = some g → ¬ RO p b mv g) (hrl : row.length ≤ 3221225000)
    (hB : atB l A x = true) (h8 : x % 8 = 0) (h2 : atW l A x % 2 = 1) (h64 : atW l A x / 64 % 4 = 0)
    (hrow : Hp.isRow ((atW l A x / 2 % 16 : Nat) : Int) = false) (hk8 : 1 ≤ atW l A x / 2 % 16 ∧ atW l A x / 2 % 16 < 8) (hfit : atW l A x / 16777216 ≤ (l.length - (x - A) - 8) / 8) :
    Calls Try.prog 50 #[.pointer (some ⟨p, 0, none⟩), .int .u64 (x : Int)] w (RThingPost bv A l w p b mv row x) := by
  have hread := read_at hB
  have hHb := atW_lt l A x
  have hd := hd_of _ hHb
  have hBB := hB
  simp only [atB, decide_eq_true_eq] at hBB
  have hA : A < 18446744073709551616 := by omega
  have t1 : Tn No w (w.alloc (.cells #[.int .i64 0, .int .i64 0, .string ⟨#[]⟩, .slice none 0 0] 24)) := (Tn.refl No w).alloc _
  have HAT : Hid (Calls Try.prog 67 #[.pointer (some ⟨p, 0, none⟩), .int .u64 (x : Int)] (w.alloc (.cells #[.int .i64 0, .int .i64 0, .string ⟨#[]⟩, .slice none 0 0] 24)) fun e w' => e = .returned (.tuple #[.int .u64 (atW l A x : Int), .bool true]) ∧ Rz w.heap.size w' ∧ RQ bv A w' p b mv row ∧ Tn No w w') := hid ((rat_raw bv A p b mv row l x _ (h.no t1) (hl.no t1) hn hA hx).mono (fun e w' ⟨he, t⟩ => ⟨by rw [he, hB], (rz_new w).tn t (fun e => e), h.no (t1.then t), t1.then t⟩))
  have hro : ¬ RO p b mv w.heap.size := fun e => by have := h.olt _ e; omega
  obtain ⟨o, ho⟩ : ∃ o, x - A = o := ⟨_, rfl⟩
  rw [ho] at hBB hfit hread
  obtain ⟨H, hH⟩ : ∃ H, atW l A x = H := ⟨_, rfl⟩
  rw [hH] at hHb hd h2 h64 hrow hfit HAT hread hk8
  unfold readH at hread
  simp only at hread
  obtain ⟨Q2, hQ2⟩ : ∃ q, H / 2 = q := ⟨_, rfl⟩
  obtain ⟨Q64, hQ64⟩ : ∃ q, H / 64 = q := ⟨_, rfl⟩
  obtain ⟨Q256, hQ256⟩ : ∃ q, H / 256 = q := ⟨_, rfl⟩
  rw [hQ2, hQ64, hQ256] at hd hread
  rw [hQ2] at hrow hk8
  rw [hQ64] at h64
  obtain ⟨K, hK⟩ : ∃ q, Q2 % 16 = q := ⟨_, rfl⟩
  obtain ⟨T, hT⟩ : ∃ q, Q256 % 65536 = q := ⟨_, rfl⟩
  obtain ⟨N, hN⟩ : ∃ q, H / 16777216 = q := ⟨_, rfl⟩
  rw [hK, hT, hN] at hd hread
  rw [hK] at hrow hk8
  rw [hN] at hfit
  simp only [hrow, Bool.false_eq_true, if_false] at hread
  rw [if_pos ⟨h8, h2, h64, hk8.1, by omega, hfit⟩, if_neg (show ¬ K = 8 by omega)] at hread
  obtain ⟨ws, hws⟩ : ∃ ws, Hp.wordsAt l (o + 8) N = ws := ⟨_, rfl⟩
  have hwl : ws.length = N := by rw [← hws]; simp [Hp.wordsAt]
  have hwlt : ∀ y ∈ ws, y < 18446744073709551616 := by rw [← hws]; exact wordsAt_lt l (o + 8) N
  rw [hws] at hread
  obtain ⟨mb, hmb⟩ : ∃ mb, mayR (K : Int) (T : Int) ⟨#[]⟩ N = mb := ⟨_, rfl⟩
  have hm : Hp.May (⟨(K : Int), (T : Int), [], ws.map Hp.value⟩ : Hp.Nd Nat) = mb := by rw [← hmb]; simp [Hp.May, mayR, hwl]
  simp only [hm] at hread
  have HFIN : Hid (∀ w2 a n c mvk wr u', Rt bv A w2 p b mv row w.heap.size w2.heap.size (K : Int) (T : Int) ws N (.slice a n c) mvk wr → Tn No w w2 → Tn (fun i => i = w.heap.size) wr u' → RThingPost bv A l w p b mv row x (.returned (.tuple #[.agg #[.int .i64 (K : Int), .int .i64 (T : Int), .string ⟨#[]⟩, .slice a n c], .bool mb])) u') := hid (fun w2 a n c mvk wr u' hr t ts => by
    obtain ⟨f1, f2⟩ := hr.fin (by omega) t (Nat.le_refl _) ts
    refine ⟨_, _, _, _, _, _, _, mvk, rfl, f2, ?_⟩
    cases mb with
    | false => exact .inl ⟨rfl, by simpa using hread⟩
    | true => exact .inr ⟨rfl, ws, by simpa using hread, f1, hwlt⟩)
  obtain ⟨kd, hkd⟩ : ∃ kd : Int, (K : Int) = kd := ⟨_, rfl⟩
  obtain ⟨tg, htg⟩ : ∃ tg : Int, (T : Int) = tg := ⟨_, rfl⟩
  have HST : Hid (∀ w2, Rz w.heap.size w2 → RQ bv A w2 p b mv row → Rt bv A w2 p b mv row w.heap.size w2.heap.size kd tg ws 0 (.slice none 0 0) mv (w2.alloc (.cells #[.int .i64 kd, .int .i64 tg, .string ⟨#[]⟩, .slice none 0 0] 24))) := hid (fun w2 hz hq => Rt.start hq hz hro)
  have HMY : Hid (∀ w2 a c mvk wr, Rt bv A w2 p b mv row w.heap.size w2.heap.size kd tg ws N (.slice a N c) mvk wr → Calls Try.prog 31 #[.agg #[.int .i64 kd, .int .i64 tg, .string ⟨#[]⟩, .slice a N c]] wr fun e w' => e = .returned (.bool mb) ∧ Rt bv A w2 p b mv row w.heap.size w2.heap.size kd tg ws N (.slice a N c) mvk w') := hid (fun w2 a c mvk wr hr => (rmb_raw kd tg ⟨#[]⟩ a N c wr (by simp [ByteArray.size])).mono (fun e w' ⟨he, t'⟩ => by
    rw [← hkd, ← htg, hmb] at he
    exact ⟨he, hr.no t'⟩))
  have HA2 : Hid (∀ w2 k v mvk wr, Rt bv A w2 p b mv row w.heap.size w2.heap.size kd tg ws k v mvk wr → Tn No w w2 → ∀ hk : k < ws.length, Calls Try.prog 67 #[.pointer (some ⟨p, 0, none⟩), .int .u64 ((x : Int) + 8 + 8 * (k : Int))] wr fun e w' => e = .returned (.tuple #[.int .u64 (ws[k] : Int), .bool true]) ∧ Tn No wr w') := hid (fun w2 k v mvk wr hr t hk => by
    have u1 := (Up.no (F := RO p b mv) t).trans hr.rv.up
    have hl2 : LD 1 eB wr bv l := hl.kept (fun g hg hlt => u1.tn.block g hlt (hbo g hg)) u1.tn.size
    have := rat_raw bv A p b mvk _ l (x + 8 + 8 * k) wr hr.rv.ra hl2 hn hA (by omega)
    have hB2 : atB l A (x + 8 + 8 * k) = true := by simp only [atB, decide_eq_true_eq]; omega
    rw [hB2, atW_at ho hBB.1 (n := N) (by omega) (by omega)] at this
    simp only [hws] at this
    rw [show (((x + 8 + 8 * k : Nat) : Int)) = (x : Int) + 8 + 8 * (k : Int) by omega] at this
    exact this)
  have HVV : Hid (∀ w2 k v mvk wr, Rt bv A w2 p b mv row w.heap.size w2.heap.size kd tg ws k v mvk wr → ∀ hk : k < ws.length, ∀ u, Tn No wr u → _) := hid (fun w2 k v mvk wr hr hk u t => hr.step hk (hwlt _ (List.getElem_mem hk)) (by
    obtain ⟨m, em, hm⟩ := meetWs_more (ws.take k) row
    rw [em]; simp at hm ⊢; omega) (by omega) u t)
  obtain ⟨w2', w64, w256, hk, ht, hnn, kb, tb, nb⟩ := hd
  obtain ⟨ba, bc', hbv, hbc, hbcm, -⟩ := hl
  obtain ⟨L, hL⟩ : ∃ L, l.length = L := ⟨_, rfl⟩
  rw [hL] at hbv hbc hn hBB hfit hAL
  rw [hkd, htg] at HFIN
  rw [hkd] at hk hrow
  rw [htg] at ht
  have HRR := hid (fun u => rrows_at hrow u)
  have e8 : ((x : Int) % 8 != 0) = false := by simp; omega
  have e2 : ((H : Int) % 2 == 0) = false := by simp; omega
  have e64 : ((Q64 : Int) % 4 != 0) = false := by simp; omega
  have s1 : (x : Int) - (A : Int) = (o : Int) := by omega
  have s2 : IntKind.u64.wrap ((x : Int) - (A : Int)) = (o : Int) := by rw [s1]; simp [IntKind.wrap, IntKind.bits, IntKind.signed]; omega
  obtain ⟨M, hM⟩ : ∃ M, (L - o - 8) / 8 = M := ⟨_, rfl⟩
  have s3 : ((L : Int) - (o : Int) - 8) / 8 = (M : Int) := by omega
  have s4 : IntKind.u64.wrap ((L : Int) - (o : Int)) = (L : Int) - (o : Int) := by simp [IntKind.wrap, IntKind.bits, IntKind.signed]; omega
  have s5 : IntKind.u64.wrap ((L : Int) - (o : Int) - 8) = (L : Int) - (o : Int) - 8 := by simp [IntKind.wrap, IntKind.bits, IntKind.signed]; omega
  have b1 : (o : Int) + 8 ≤ (L : Int) := by omega
  have b2 : (L : Int) ≤ 1073741824 := by omega
  have nbi : (N : Int) < 134217728 := by omega
  have xb : (x : Int) ≤ 9223372036854775808 := by omega
  rw [hM] at hfit
  have g4 : decide (M < N) = false := by simp; omega
  have kb0 : 1 ≤ kd := by omega
  have kb1 : kd < 8 := by omega
  have kb2 : decide (kd < 1) = false := by simp; omega
  have kb3 : decide (8 < kd) = false := by simp; omega
  have kb4 : (kd == 8) = false := by simp; omega
  have tb0 : 0 ≤ tg := by omega
  have tb1 : tg < 65536 := by omega
  have HWL := hid hwl
  subst hbv
  clear h hA hx t1 hH hB h8 h2 h64 hHb hQ2 hQ64 hQ256 hK hT hN ho hM hBB hread hmb hkd htg kb tb hk8 hfit hrow hL hws hwlt hm hbo hro hAL hrl hwl
  go_enter Try.func50, Try.ntmps50
  go_wp2_with (first
    | (go_at_call 67; refine HAT.out.mono ?_; rintro e w2 ⟨rfl, hz, hq, t2⟩; have r0 := hq.c0; have r1 := hq.c1; have rl := hq.lt; have zl := hz.lt; have HT2 := hid t2; have HRS := hid (HST.out w2 hz hq); clear hz t2 hq)
    | (go_at_call 33; refine (HRR.out _).mono ?_; rintro e w3 ⟨rfl, rfl⟩))
  clear s1 s2 s3 s4 s5 e8 e2 e64 w2' w64 w256 hk ht hnn g4 kb2 kb3 kb4 r0 r1
  go_loopw [17, 18, 19] (fun i _ _ wr => ∃ (k : Nat) (v mvk : Value), k ≤ N ∧ i = .int .u64 (k : Int) ∧ Rt (.slice ba L bc') A w2 p b mv row w.heap.size w2.heap.size kd tg ws k v mvk wr) (fun i _ _ _ => N - (intOf i).toNat)
  case atStart => exact ⟨0, _, _, by omega, rfl, HRS.out⟩
  case round =>
    obtain ⟨k, v, mvk, hk, rfl, hrt⟩ := hrel
    clear HRS HAT HST
    have hform := hrt.rv.lr.rw.form
    have hlen : ((ws.take k).map (valW ((ws.take k).foldl meetW row))).length = k := by have := HWL.out; simp; omega
    rw [hlen] at hform
    obtain ⟨va, vc', rfl, -⟩ := hform
    clear hlen
    by_cases hlt : k < N
    · have hkl : k < ws.length := by have := HWL.out; omega
      have HA3 := hid (HA2.out w2 k _ mvk wr hrt HT2.out hkl)
      have HV3 : Hid (∀ w4, Tn No wr w4 → ∀ u, Tn No w4 u → _) := hid (fun w4 t4 => HVV.out w2 k _ mvk w4 (hrt.no t4) hkl)
      obtain ⟨y, hy⟩ : ∃ y, ws[k] = y := ⟨_, rfl⟩
      rw [hy] at HA3 HV3
      have y1 := hrt.tz.c3
      have y2 := hrt.tz.lt
      have HRT := hid hrt
      have hki : (k : Int) < (N : Int) := by omega
      clear hrt hy HA2 HVV HMY HFIN
      go_wp2_with (go_at_call 67; refine HA3.out.mono ?_; rintro e w4 ⟨rfl, t4⟩; have hr4 := HRT.out.no t4; have y1 := hr4.tz.c3; have y2 := hr4.tz.lt; have y3 := hr4.tz.fz 3; have HV4 := hid (HV3.out w4 t4); clear hr4 t4)
      go_region_law (first
        | (refine wp_app rfl _ _ _ _ rfl _ _ rfl rfl _ w6 HR6.out ?_)
        | (refine wp_fcall rfl 49 _ (by go_simp) (HV4.out _ (by repeat (first | exact Tn.refl _ _ | apply Tn.drew | apply Tn.drewN | apply Tn.alloc | (refine Tn.then ?_ (by assumption)) | (refine Tn.thenNo ?_ (by assumption))))) ?_; rintro e w5 ⟨mv5, q1, q2, rfl, ⟨x1, x2⟩, v', w6, hr6, ⟨a6, n6, c6, rfl⟩, x3, x4, x5, hrt6⟩; refine ⟨_, rfl, ?_⟩; have HR6 := hid hr6; have HRT6 := hid hrt6; clear hr6 hrt6))
      all_goals
        go_wp2
        go_roundw
        case rel => exact ⟨k + 1, _, _, by omega, by go_num, HRT6.out⟩
        case measure => simp [intOf]; omega
    · obtain rfl : k = N := by omega
      have HM := hid (HMY.out w2 va vc' mvk wr hrt)
      have y0 := hrt.tz.c0
      have y1 := hrt.tz.c1
      have y2 := hrt.tz.c2
      have y3 := hrt.tz.c3
      have yl := hrt.tz.lt
      clear hrt HA2 HVV HMY
      go_wp2_with (go_at_call 31; refine HM.out.mono ?_; rintro e w4 ⟨rfl, hr4⟩; have z0 := hr4.rz.c0; have z1 := hr4.rz.c1; have z2 := hr4.rz.c2; have z3 := hr4.rz.c3; have f0 := hr4.rz.fz 0; have f1 := hr4.rz.fz 1; have f2 := hr4.rz.fz 2; have f3 := hr4.rz.fz 3; have zl4 := hr4.rz.lt; have x0 := hr4.tz.c0; have x1 := hr4.tz.c1; have x2 := hr4.tz.c2; have x3 := hr4.tz.c3; have xl := hr4.tz.lt; have HR4 := hid hr4; clear hr4)
      have K4 := hid (set4 z0 z1 z2 z3)
      refine bodyPost_ret (v := .tuple #[.agg #[.int .i64 kd, .int .i64 tg, .string ⟨#[]⟩, .slice va k vc'], .bool mb]) (by simp [results, Try.results50, go_sem, (K4.out _ _ _ _).1, (K4.out _ _ _ _).2.1, (K4.out _ _ _ _).2.2.1, (K4.out _ _ _ _).2.2.2]) rfl ?_
      exact HFIN.out w2 _ _ _ _ w4 _ HR4.out HT2.out (((((Tn.refl (fun i => i = w.heap.size) w4).set _ _ (fun _ => rfl)).set _ _ (fun _ => rfl)).set _ _ (fun _ => rfl)).set _ _ (fun _ => rfl))
end Go.Proofs.Ytlkbnjdhokjfnaa
