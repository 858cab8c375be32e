/-
  heap's reference: a thing that is read: a closure.
-/
import Derived.Test.YtlkbnjdhokjfnaaRThB
namespace Go.Proofs.Ytlkbnjdhokjfnaa
set_option linter.unusedSimpArgs false
set_option linter.unusedVariables false
open Go.RowKit
attribute [local go_sem ↓] Go.wp_at_zero Go.wp_at_succ

theorem Rt.retag {bv : Value} {A : Nat} {wb : World} {p b : Nat} {mv : Value} {row : List Int} {r tb : Nat} {kd tg : Int} {ws : List Nat} {k : Nat} {v mvk : Value} {wr : World} (h : Rt bv A wb p b mv row r tb kd tg ws k v mvk wr) (tg' : Int) : Rt bv A wb p b mv row r tb kd tg' ws k v mvk (wr.setCell ⟨tb, 1, none⟩ (.int .i64 tg')) := by
  have tS : Tn (fun i => i = tb) wr (wr.setCell ⟨tb, 1, none⟩ (.int .i64 tg')) := (Tn.refl (fun i => i = tb) wr).set _ _ (fun _ => rfl)
  have hhi := h.hi
  exact {
    rv := ⟨h.rv.lr.tn tS (fun g hg e => (h.own g hg).1 e), h.rv.new, h.rv.ra.kept tS (fun g hg e => h.tbn (by rw [← e]; exact hg)), ⟨h.rv.up.tn.trans tS (fun _ _ e => e) (fun i hi e => by omega), h.rv.up.own⟩⟩
    rz := h.rz.tn tS h.rt
    tz := ⟨by rw [World.cell?_setCell_other _ _ _ _ (by simp)]; exact h.tz.c0, World.cell?_setCell_same _ _ _ h.tz.c1, by rw [World.cell?_setCell_other _ _ _ _ (by simp)]; exact h.tz.c2, by rw [World.cell?_setCell_other _ _ _ _ (by simp)]; exact h.tz.c3, fun j => by rw [World.frozen?_setCell]; exact h.tz.fz j, by simpa using h.tz.lt⟩
    own := h.own
    tbn := h.tbn
    rn := h.rn
    rt := h.rt
    hi := hhi }

set_option maxHeartbeats 8000000 in
set_option maxRecDepth 100000 in
theorem rthing_clno (bv : Value) (A : Nat) (p b : Nat) (mv : Value) (row : List Int) (l : List UInt8) (x : Nat) (w : World) (h : RQ bv A w p b mv row) (hl : LD 1 eB w bv l) (hn : l.length ≤ 1073741824) (hAL : A + l.length ≤ 9223372036854775808) (hx : x < 18446744073709551616) (hbo : ∀ g, bv.ownBlock = some g → ¬ RO p b mv g) (hrl : row.length ≤ 3221225000)
    (hB : atB l A x = true) (h8 : x % 8 = 0) (h2 : atW l A x % 2 = 1) (h64 : atW l A x / 64 % 4 = 0)
    (hk8 : atW l A x / 2 % 16 = 8) (hfit : atW l A x / 16777216 ≤ (l.length - (x - A) - 8) / 8) (hgood : ¬ (1 ≤ atW l A x / 16777216 ∧ atW l A x / 256 % 65536 = 0 ∧ 4194304 ≤ atW l A (x + 8) ∧ (atW l A (x + 8) - 4194304) % 16 = 0 ∧ (atW l A (x + 8) - 4194304) / 16 < 4194304)) :
    Calls Try.prog 50 #[.pointer (some ⟨p, 0, none⟩), .int .u64 (x : Int)] w (RThingPost bv A l w p b mv row x) := by
  have hread := read_at hB
  have hHb := atW_lt l A x
  have hCb := atW_lt l A (x + 8)
  have hd := hd_of _ hHb
  have hBB := hB
  simp only [atB, decide_eq_true_eq] at hBB
  have hA : A < 18446744073709551616 := by omega
  have t1 : Tn No w (w.alloc (.cells #[.int .i64 0, .int .i64 0, .string ⟨#[]⟩, .slice none 0 0] 24)) := (Tn.refl No w).alloc _
  have HAT : Hid (Calls Try.prog 67 #[.pointer (some ⟨p, 0, none⟩), .int .u64 (x : Int)] (w.alloc (.cells #[.int .i64 0, .int .i64 0, .string ⟨#[]⟩, .slice none 0 0] 24)) fun e w' => e = .returned (.tuple #[.int .u64 (atW l A x : Int), .bool true]) ∧ Rz w.heap.size w' ∧ RQ bv A w' p b mv row ∧ Tn No w w') := hid ((rat_raw bv A p b mv row l x _ (h.no t1) (hl.no t1) hn hA hx).mono (fun e w' ⟨he, t⟩ => ⟨by rw [he, hB], (rz_new w).tn t (fun e => e), h.no (t1.then t), t1.then t⟩))
  have HAC : Hid (∀ u, Tn No w u → Calls Try.prog 67 #[.pointer (some ⟨p, 0, none⟩), .int .u64 ((x : Int) + 8)] u fun e w' => e = .returned (.tuple #[.int .u64 (atW l A (x + 8) : Int), .bool (atB l A (x + 8))]) ∧ Tn No u w') := hid (fun u t => by
    have := rat_raw bv A p b mv row l (x + 8) u (h.no t) (hl.no t) hn hA (by omega)
    rw [show (((x + 8 : Nat) : Int)) = (x : Int) + 8 by omega] at this
    exact this)
  have hro : ¬ RO p b mv w.heap.size := fun e => by have := h.olt _ e; omega
  obtain ⟨o, ho⟩ : ∃ o, x - A = o := ⟨_, rfl⟩
  rw [ho] at hBB hfit hread
  obtain ⟨hB1, hB2⟩ := hBB
  have hBB := And.intro hB1 hB2
  have hwc : 1 ≤ atW l A x / 16777216 → atW l A (x + 8) = (Hp.wordsAt l (o + 8) (atW l A x / 16777216))[0]?.getD 0 := fun h1 => by
    have := atW_at (l := l) (A := A) (x := x) (o := o) (n := atW l A x / 16777216) (k := 0) ho hB1 (by omega) (by omega)
    rw [show x + 8 + 8 * 0 = x + 8 by omega] at this
    rw [this, List.getElem?_eq_getElem (by simp [Hp.wordsAt]; omega)]; rfl
  obtain ⟨H, hH⟩ : ∃ H, atW l A x = H := ⟨_, rfl⟩
  rw [hH] at hHb hd h2 h64 hfit HAT hread hk8 hgood hwc
  obtain ⟨C, hC⟩ : ∃ C, atW l A (x + 8) = C := ⟨_, rfl⟩
  rw [hC] at hgood hCb HAC hwc
  obtain ⟨ok, hok⟩ : ∃ ok, atB l A (x + 8) = ok := ⟨_, rfl⟩
  rw [hok] at HAC
  unfold readH at hread
  simp only at hread
  obtain ⟨Q2, hQ2⟩ : ∃ q, H / 2 = q := ⟨_, rfl⟩
  obtain ⟨Q64, hQ64⟩ : ∃ q, H / 64 = q := ⟨_, rfl⟩
  obtain ⟨Q256, hQ256⟩ : ∃ q, H / 256 = q := ⟨_, rfl⟩
  rw [hQ2, hQ64, hQ256] at hd hread
  rw [hQ2] at hk8
  rw [hQ64] at h64
  rw [hQ256] at hgood
  obtain ⟨T, hT⟩ : ∃ q, Q256 % 65536 = q := ⟨_, rfl⟩
  obtain ⟨N, hN⟩ : ∃ q, H / 16777216 = q := ⟨_, rfl⟩
  rw [hk8, hT, hN] at hd hread
  rw [hN] at hfit hgood hwc
  rw [hT] at hgood
  have hrow : Hp.isRow ((8 : Nat) : Int) = false := rfl
  simp only [hrow, Bool.false_eq_true, if_false] at hread
  rw [if_pos ⟨h8, h2, h64, by omega, by omega, hfit⟩, if_pos True.intro] at hread
  have hnone : Hp.read l A x = none := by
    rw [hread]
    cases hcs : Hp.wordsAt l (o + 8) N with
    | nil => rfl
    | cons c r =>
      simp only [hcs]
      have hN1 : 1 ≤ N := by
        have := congrArg List.length hcs
        simp [Hp.wordsAt] at this
        omega
      have hcC : C = c := by rw [hwc hN1, hcs]; rfl
      rw [if_neg]
      rintro ⟨a1, a2, a3, a4⟩
      simp only [Hp.codeBase] at a2 a3 a4
      exact hgood ⟨hN1, a1, by omega, by rw [hcC]; exact a3, by rw [hcC]; exact a4⟩
  have HFIN : Hid (∀ u' (tg : Int), Tn No w u' → RThingPost bv A l w p b mv row x (.returned (.tuple #[.agg #[.int .i64 8, .int .i64 tg, .string ⟨#[]⟩, .slice none 0 0], .bool false])) u') := hid (fun u' tg t => ⟨_, _, _, _, _, _, _, mv, rfl, Up.no t, .inl ⟨rfl, hnone⟩⟩)
  obtain ⟨tg, htg⟩ : ∃ tg : Int, (T : Int) = tg := ⟨_, rfl⟩
  obtain ⟨Ci, hCi⟩ : ∃ Ci : Int, (C : Int) = Ci := ⟨_, rfl⟩
  rw [hCi] at HAC
  obtain ⟨w2', w64, w256, hk, ht, hnn, kb, tb, nb⟩ := hd
  obtain ⟨ba, bc', hbv, hbc, hbcm, -⟩ := hl
  obtain ⟨L, hL⟩ : ∃ L, l.length = L := ⟨_, rfl⟩
  rw [hL] at hbv hbc hn hBB hfit hAL
  rw [htg] at ht
  have HRR := hid (fun u => rrows_at (k := 8) (b := false) rfl u)
  have e8 : ((x : Int) % 8 != 0) = false := by simp; omega
  have e2 : ((H : Int) % 2 == 0) = false := by simp; omega
  have e64 : ((Q64 : Int) % 4 != 0) = false := by simp; omega
  have s1 : (x : Int) - (A : Int) = (o : Int) := by omega
  have s2 : IntKind.u64.wrap ((x : Int) - (A : Int)) = (o : Int) := by rw [s1]; simp [IntKind.wrap, IntKind.bits, IntKind.signed]; omega
  obtain ⟨M, hM⟩ : ∃ M : Int, (((L - o - 8) / 8 : Nat) : Int) = M := ⟨_, rfl⟩
  have s3 : ((L : Int) - (o : Int) - 8) / 8 = M := by omega
  have s4 : IntKind.u64.wrap ((L : Int) - (o : Int)) = (L : Int) - (o : Int) := by simp [IntKind.wrap, IntKind.bits, IntKind.signed]; omega
  have s5 : IntKind.u64.wrap ((L : Int) - (o : Int) - 8) = (L : Int) - (o : Int) - 8 := by simp [IntKind.wrap, IntKind.bits, IntKind.signed]; omega
  have b1 : (o : Int) + 8 ≤ (L : Int) := by omega
  have b2 : (L : Int) ≤ 1073741824 := by omega
  have xb : (x : Int) ≤ 9223372036854775808 := by omega
  obtain ⟨Ni, hNi⟩ : ∃ Ni : Int, (N : Int) = Ni := ⟨_, rfl⟩
  rw [hNi] at hnn
  have nb0 : 0 ≤ Ni := by omega
  have nbi : Ni < 134217728 := by omega
  have g4 : decide (M < Ni) = false := by simp; omega
  have tb0 : 0 ≤ tg := by omega
  have tb1 : tg < 65536 := by omega
  have k8 : (Q2 : Int) % 16 = 8 := by omega
  obtain ⟨D, hD⟩ : ∃ D : Int, Ci - 4194304 = D := ⟨_, rfl⟩
  obtain ⟨Q, hQ⟩ : ∃ Q : Int, D / 16 = Q := ⟨_, rfl⟩
  have five : Ni = 0 ∨ ((Ni == 0) = false ∧ (tg != 0) = true) ∨ ((Ni == 0) = false ∧ (tg != 0) = false ∧ decide (Ci < 4194304) = true) ∨ ((Ni == 0) = false ∧ (tg != 0) = false ∧ decide (Ci < 4194304) = false ∧ (D % 16 != 0) = true ∧ IntKind.u64.wrap D = D ∧ Ci - 4194304 = D ∧ 0 ≤ D ∧ D < 18446744073709551616) ∨
      ((Ni == 0) = false ∧ (tg != 0) = false ∧ decide (Ci < 4194304) = false ∧ (D % 16 != 0) = false ∧ decide (4194304 ≤ Q) = true ∧ IntKind.u64.wrap D = D ∧ Ci - 4194304 = D ∧ 0 ≤ D ∧ D < 18446744073709551616 ∧ IntKind.u64.wrap (D / 16) = Q ∧ D / 16 = Q) := by
    by_cases c1 : N = 0
    · exact .inl (by omega)
    · have n1 : (Ni == 0) = false := by simp; omega
      by_cases c2 : T = 0
      · have n2 : (tg != 0) = false := by simp; omega
        by_cases c3 : C < 4194304
        · exact .inr (.inr (.inl ⟨n1, n2, by simp; omega⟩))
        · have n3 : decide (Ci < 4194304) = false := by simp; omega
          have n5 : IntKind.u64.wrap D = D := by simp [IntKind.wrap, IntKind.bits, IntKind.signed]; omega
          by_cases c4 : (C - 4194304) % 16 = 0
          · refine .inr (.inr (.inr (.inr ⟨n1, n2, n3, by simp; omega, ?_, n5, hD, by omega, by omega, by simp [IntKind.wrap, IntKind.bits, IntKind.signed]; omega, hQ⟩)))
            simp
            have : ¬ (C - 4194304) / 16 < 4194304 := fun e => hgood ⟨by omega, c2, by omega, c4, e⟩
            omega
          · exact .inr (.inr (.inr (.inl ⟨n1, n2, n3, by simp; omega, n5, hD, by omega, by omega⟩)))
      · exact .inr (.inl ⟨n1, by simp; omega⟩)
  have cb0 : 0 ≤ Ci := by omega
  have cb1 : Ci < 18446744073709551616 := by omega
  have HSZ : Hid (∀ w2, Rz w.heap.size w2 → Tn No w w2 → Calls Try.prog 67 #[.pointer (some ⟨p, 0, none⟩), .int .u64 ((x : Int) + 8)] (w2.alloc (.cells #[.int .i64 8, .int .i64 tg, .string ⟨#[]⟩, .slice none 0 0] 24)) fun e w' => e = .returned (.tuple #[.int .u64 Ci, .bool ok]) ∧ Rz w.heap.size w' ∧ Tz w2.heap.size 8 tg ⟨#[]⟩ (.slice none 0 0) w' ∧ Tn No w w') := hid (fun w2 hz t => (HAC.out _ (t.alloc _)).mono (fun e w' ⟨he, t'⟩ => ⟨he, (hz.tn ((Tn.refl No w2).alloc _) (fun e => e)).tn t' (fun e => e), (tz_new w2 _ _ _ _).tn t' (fun e => e), (t.alloc _).then t'⟩))
  subst hbv
  clear h hA hx t1 hH hB h8 h2 h64 hHb hQ2 hQ64 hQ256 hT hN ho hM hBB hread htg kb tb hk8 hfit hrow hL hbo hro hAL hrl hwc hgood hok hC hCi hCb HAC hnone hNi hD hQ
  rcases five with rfl | ⟨n1, n2⟩ | ⟨n1, n2, n3⟩ | ⟨n1, n2, n3, n4, n5, n6, m1, m2⟩ | ⟨n1, n2, n3, n4, n5, n6, n7, m1, m2, n9, n10⟩
  all_goals
    go_enter Try.func50, Try.ntmps50
    go_wp2_with (first
      | (go_at_call 67; refine HS2.out.mono ?_; rintro e w4 ⟨rfl, hz, hy, t4⟩; have z0 := hz.c0; have z1 := hz.c1; have z2 := hz.c2; have z3 := hz.c3; have f0 := hz.fz 0; have f1 := hz.fz 1; have f2 := hz.fz 2; have f3 := hz.fz 3; have zl4 := hz.lt; have x0 := hy.c0; have x1 := hy.c1; have x2 := hy.c2; have x3 := hy.c3; have xl := hy.lt; have HT4 := hid t4; clear hz hy t4)
      | (go_at_call 67; refine HAT.out.mono ?_; rintro e w2 ⟨rfl, hz, hq, t2⟩; have r0 := hq.c0; have r1 := hq.c1; have rl := hq.lt; have zl := hz.lt; have HS2 := hid (HSZ.out w2 hz t2); clear hz t2 hq)
      | (go_at_call 33; refine (HRR.out _).mono ?_; rintro e w3 ⟨rfl, rfl⟩))
    have K4 := hid (set4 z0 z1 z2 z3)
    refine bodyPost_ret (v := .tuple #[.agg #[.int .i64 8, .int .i64 tg, .string ⟨#[]⟩, .slice none 0 0], .bool false]) (by simp [results, Try.results50, go_sem, (K4.out _ _ _ _).1, (K4.out _ _ _ _).2.1, (K4.out _ _ _ _).2.2.1, (K4.out _ _ _ _).2.2.2]) rfl ?_
    exact HFIN.out _ _ (tnr HT4.out (((((Tn.refl (fun k => k = w.heap.size) w4).set _ _ (fun _ => rfl)).set _ _ (fun _ => rfl)).set _ _ (fun _ => rfl)).set _ _ (fun _ => rfl)))
end Go.Proofs.Ytlkbnjdhokjfnaa
namespace Go.Proofs.Ytlkbnjdhokjfnaa
set_option linter.unusedSimpArgs false
set_option linter.unusedVariables false
open Go.RowKit
attribute [local go_sem ↓] Go.wp_at_zero Go.wp_at_succ

set_option maxHeartbeats 8000000 in
set_option maxRecDepth 100000 in
theorem rthing_cl (bv : Value) (A : Nat) (p b : Nat) (mv : Value) (row : List Int) (l : List UInt8) (x : Nat) (w : World) (h : RQ bv A w p b mv row) (hl : LD 1 eB w bv l) (hn : l.length ≤ 1073741824) (hAL : A + l.length ≤ 9223372036854775808) (hx : x < 18446744073709551616) (hbo : ∀ g, bv.ownBlock = some g → ¬ RO p b mv g) (hrl : row.length ≤ 3221225000)
    (hB : atB l A x = true) (h8 : x % 8 = 0) (h2 : atW l A x % 2 = 1) (h64 : atW l A x / 64 % 4 = 0)
    (hk8 : atW l A x / 2 % 16 = 8) (hfit : atW l A x / 16777216 ≤ (l.length - (x - A) - 8) / 8) (hgood : 1 ≤ atW l A x / 16777216 ∧ atW l A x / 256 % 65536 = 0 ∧ 4194304 ≤ atW l A (x + 8) ∧ (atW l A (x + 8) - 4194304) % 16 = 0 ∧ (atW l A (x + 8) - 4194304) / 16 < 4194304) :
    Calls Try.prog 50 #[.pointer (some ⟨p, 0, none⟩), .int .u64 (x : Int)] w (RThingPost bv A l w p b mv row x) := by
  have hread := read_at hB
  have hHb := atW_lt l A x
  have hd := hd_of _ hHb
  have hBB := hB
  simp only [atB, decide_eq_true_eq] at hBB
  have hA : A < 18446744073709551616 := by omega
  have t1 : Tn No w (w.alloc (.cells #[.int .i64 0, .int .i64 0, .string ⟨#[]⟩, .slice none 0 0] 24)) := (Tn.refl No w).alloc _
  have HAT : Hid (Calls Try.prog 67 #[.pointer (some ⟨p, 0, none⟩), .int .u64 (x : Int)] (w.alloc (.cells #[.int .i64 0, .int .i64 0, .string ⟨#[]⟩, .slice none 0 0] 24)) fun e w' => e = .returned (.tuple #[.int .u64 (atW l A x : Int), .bool true]) ∧ Rz w.heap.size w' ∧ RQ bv A w' p b mv row ∧ Tn No w w') := hid ((rat_raw bv A p b mv row l x _ (h.no t1) (hl.no t1) hn hA hx).mono (fun e w' ⟨he, t⟩ => ⟨by rw [he, hB], (rz_new w).tn t (fun e => e), h.no (t1.then t), t1.then t⟩))
  have HAC : Hid (∀ u, Tn No w u → Calls Try.prog 67 #[.pointer (some ⟨p, 0, none⟩), .int .u64 ((x : Int) + 8)] u fun e w' => e = .returned (.tuple #[.int .u64 (atW l A (x + 8) : Int), .bool (atB l A (x + 8))]) ∧ Tn No u w') := hid (fun u t => by
    have := rat_raw bv A p b mv row l (x + 8) u (h.no t) (hl.no t) hn hA (by omega)
    rw [show (((x + 8 : Nat) : Int)) = (x : Int) + 8 by omega] at this
    exact this)
  have hro : ¬ RO p b mv w.heap.size := fun e => by have := h.olt _ e; omega
  obtain ⟨o, ho⟩ : ∃ o, x - A = o := ⟨_, rfl⟩
  rw [ho] at hBB hfit hread
  obtain ⟨hB1, hB2⟩ := hBB
  have hBB := And.intro hB1 hB2
  have hwc : atW l A (x + 8) = (Hp.wordsAt l (o + 8) (atW l A x / 16777216))[0]?.getD 0 := by
    have := atW_at (l := l) (A := A) (x := x) (o := o) (n := atW l A x / 16777216) (k := 0) ho hB1 (by omega) (by omega)
    rw [show x + 8 + 8 * 0 = x + 8 by omega] at this
    rw [this, List.getElem?_eq_getElem (by simp [Hp.wordsAt]; omega)]; rfl
  obtain ⟨H, hH⟩ : ∃ H, atW l A x = H := ⟨_, rfl⟩
  rw [hH] at hHb hd h2 h64 hfit HAT hread hk8 hgood hwc
  have hCb := atW_lt l A (x + 8)
  obtain ⟨C, hC⟩ : ∃ C, atW l A (x + 8) = C := ⟨_, rfl⟩
  rw [hC] at hgood hCb HAC hwc
  obtain ⟨ok, hok⟩ : ∃ ok, atB l A (x + 8) = ok := ⟨_, rfl⟩
  rw [hok] at HAC
  unfold readH at hread
  simp only at hread
  obtain ⟨Q2, hQ2⟩ : ∃ q, H / 2 = q := ⟨_, rfl⟩
  obtain ⟨Q64, hQ64⟩ : ∃ q, H / 64 = q := ⟨_, rfl⟩
  obtain ⟨Q256, hQ256⟩ : ∃ q, H / 256 = q := ⟨_, rfl⟩
  rw [hQ2, hQ64, hQ256] at hd hread
  rw [hQ2] at hk8
  rw [hQ64] at h64
  rw [hQ256] at hgood
  obtain ⟨T, hT⟩ : ∃ q, Q256 % 65536 = q := ⟨_, rfl⟩
  obtain ⟨N, hN⟩ : ∃ q, H / 16777216 = q := ⟨_, rfl⟩
  rw [hk8, hT, hN] at hd hread
  rw [hN] at hfit hgood hwc
  rw [hT] at hgood
  have hrow : Hp.isRow ((8 : Nat) : Int) = false := rfl
  simp only [hrow, Bool.false_eq_true, if_false] at hread
  rw [if_pos ⟨h8, h2, h64, by omega, by omega, hfit⟩, if_pos True.intro] at hread
  obtain ⟨g1, g2, g3, g5, g6⟩ := hgood
  obtain ⟨ws, hws⟩ : ∃ ws, Hp.wordsAt l (o + 8) N = C :: ws := by
    cases hcs : Hp.wordsAt l (o + 8) N with
    | nil =>
      have := congrArg List.length hcs
      simp [Hp.wordsAt] at this
      omega
    | cons c r =>
      rw [hcs] at hwc
      exact ⟨r, by rw [hwc]; rfl⟩
  have hwl : ws.length + 1 = N := by have := congrArg List.length hws; simp [Hp.wordsAt] at this; omega
  have hwlt : ∀ y ∈ ws, y < 18446744073709551616 := fun y hy => wordsAt_lt l (o + 8) N y (by rw [hws]; exact List.mem_cons_of_mem _ hy)
  obtain ⟨F, hF⟩ : ∃ F, (C - 4194304) / 16 = F := ⟨_, rfl⟩
  rw [hws] at hread
  simp only [Hp.codeBase] at hread
  simp only [g2, g3, g5, g6, true_and, and_self, if_true] at hread
  simp only [hF] at hread
  obtain ⟨mb, hmb⟩ : ∃ mb, mayR 8 (F : Int) ⟨#[]⟩ ws.length = mb := ⟨_, rfl⟩
  have hm : Hp.May (⟨((8 : Nat) : Int), (F : Int), [], ws.map Hp.value⟩ : Hp.Nd Nat) = mb := by rw [← hmb]; simp [Hp.May, mayR]
  simp only [hm] at hread
  have HFIN : Hid (∀ w2 a n c mvk wr u', Rt bv A w2 p b mv row w.heap.size w2.heap.size 8 (F : Int) ws ws.length (.slice a n c) mvk wr → Tn No w w2 → Tn (fun i => i = w.heap.size) wr u' → RThingPost bv A l w p b mv row x (.returned (.tuple #[.agg #[.int .i64 8, .int .i64 (F : Int), .string ⟨#[]⟩, .slice a n c], .bool mb])) u') := hid (fun w2 a n c mvk wr u' hr t ts => by
    obtain ⟨f1, f2⟩ := hr.fin (by omega) t (Nat.le_refl _) ts
    refine ⟨_, _, _, _, _, _, _, mvk, rfl, f2, ?_⟩
    cases mb with
    | false => exact .inl ⟨rfl, by simpa using hread⟩
    | true => exact .inr ⟨rfl, ws, by simpa using hread, f1, hwlt⟩)
  obtain ⟨tg, htg⟩ : ∃ tg : Int, (T : Int) = tg := ⟨_, rfl⟩
  obtain ⟨Ci, hCi⟩ : ∃ Ci : Int, (C : Int) = Ci := ⟨_, rfl⟩
  obtain ⟨Fi, hFi⟩ : ∃ Fi : Int, (F : Int) = Fi := ⟨_, rfl⟩
  obtain ⟨N1, hN1⟩ : ∃ q, ws.length = q := ⟨_, rfl⟩
  rw [hN1] at hmb hwl HFIN
  rw [hFi] at hmb HFIN
  rw [hCi] at HAC
  have HSZ : Hid (∀ w2, Rz w.heap.size w2 → RQ bv A w2 p b mv row → Tn No w w2 → Calls Try.prog 67 #[.pointer (some ⟨p, 0, none⟩), .int .u64 ((x : Int) + 8)] (w2.alloc (.cells #[.int .i64 8, .int .i64 tg, .string ⟨#[]⟩, .slice none 0 0] 24)) fun e w' => e = .returned (.tuple #[.int .u64 Ci, .bool ok]) ∧ Rt bv A w2 p b mv row w.heap.size w2.heap.size 8 tg ws 0 (.slice none 0 0) mv w') := hid (fun w2 hz hq t => (HAC.out _ (t.alloc _)).mono (fun e w' ⟨he, t'⟩ => ⟨he, (Rt.start hq hz hro).no t'⟩))
  have HMY : Hid (∀ w2 a c mvk wr, Rt bv A w2 p b mv row w.heap.size w2.heap.size 8 Fi ws N1 (.slice a N1 c) mvk wr → Calls Try.prog 31 #[.agg #[.int .i64 8, .int .i64 Fi, .string ⟨#[]⟩, .slice a N1 c]] wr fun e w' => e = .returned (.bool mb) ∧ Rt bv A w2 p b mv row w.heap.size w2.heap.size 8 Fi ws N1 (.slice a N1 c) mvk w') := hid (fun w2 a c mvk wr hr => (rmb_raw 8 Fi ⟨#[]⟩ a N1 c wr (by simp [ByteArray.size])).mono (fun e w' ⟨he, t'⟩ => by
    rw [hmb] at he
    exact ⟨he, hr.no t'⟩))
  have HA2 : Hid (∀ w2 (k j : Nat) v mvk wr, j = k + 1 → Rt bv A w2 p b mv row w.heap.size w2.heap.size 8 Fi ws k v mvk wr → Tn No w w2 → ∀ hk : k < ws.length, Calls Try.prog 67 #[.pointer (some ⟨p, 0, none⟩), .int .u64 ((x : Int) + 8 + 8 * (j : Int))] wr fun e w' => e = .returned (.tuple #[.int .u64 (ws[k] : Int), .bool true]) ∧ Tn No wr w') := hid (fun w2 k j v mvk wr hj hr t hk => by
    subst hj
    have u1 := (Up.no (F := RO p b mv) t).trans hr.rv.up
    have hl2 : LD 1 eB wr bv l := hl.kept (fun g hg hlt => u1.tn.block g hlt (hbo g hg)) u1.tn.size
    have := rat_raw bv A p b mvk _ l (x + 8 + 8 * (k + 1)) wr hr.rv.ra hl2 hn hA (by omega)
    have hB2 : atB l A (x + 8 + 8 * (k + 1)) = true := by simp only [atB, decide_eq_true_eq]; omega
    rw [hB2, atW_at ho hBB.1 (n := N) (by omega) (by omega)] at this
    simp only [hws, List.getElem_cons_succ] at this
    rw [show (((x + 8 + 8 * (k + 1) : Nat) : Int)) = (x : Int) + 8 + 8 * ((k + 1 : Nat) : Int) by omega] at this
    exact this)
  have HVV : Hid (∀ w2 k v mvk wr, Rt bv A w2 p b mv row w.heap.size w2.heap.size 8 Fi ws k v mvk wr → ∀ hk : k < ws.length, ∀ u, Tn No wr u → _) := hid (fun w2 k v mvk wr hr hk u t => hr.step hk (hwlt _ (List.getElem_mem hk)) (by
    obtain ⟨m, em, hm⟩ := meetWs_more (ws.take k) row
    rw [em]; simp at hm ⊢; omega) (by omega) u t)
  obtain ⟨w2', w64, w256, hk, ht, hnn, kb, tb, nb⟩ := hd
  obtain ⟨ba, bc', hbv, hbc, hbcm, -⟩ := hl
  obtain ⟨L, hL⟩ : ∃ L, l.length = L := ⟨_, rfl⟩
  rw [hL] at hbv hbc hn hBB hfit hAL
  rw [htg] at ht
  have HRR := hid (fun u => rrows_at (k := 8) (b := false) rfl u)
  have e8 : ((x : Int) % 8 != 0) = false := by simp; omega
  have e2 : ((H : Int) % 2 == 0) = false := by simp; omega
  have e64 : ((Q64 : Int) % 4 != 0) = false := by simp; omega
  have s1 : (x : Int) - (A : Int) = (o : Int) := by omega
  have s2 : IntKind.u64.wrap ((x : Int) - (A : Int)) = (o : Int) := by rw [s1]; simp [IntKind.wrap, IntKind.bits, IntKind.signed]; omega
  obtain ⟨M, hM⟩ : ∃ M : Int, (((L - o - 8) / 8 : Nat) : Int) = M := ⟨_, rfl⟩
  have s3 : ((L : Int) - (o : Int) - 8) / 8 = M := by omega
  have s4 : IntKind.u64.wrap ((L : Int) - (o : Int)) = (L : Int) - (o : Int) := by simp [IntKind.wrap, IntKind.bits, IntKind.signed]; omega
  have s5 : IntKind.u64.wrap ((L : Int) - (o : Int) - 8) = (L : Int) - (o : Int) - 8 := by simp [IntKind.wrap, IntKind.bits, IntKind.signed]; omega
  have b1 : (o : Int) + 8 ≤ (L : Int) := by omega
  have b2 : (L : Int) ≤ 1073741824 := by omega
  have xb : (x : Int) ≤ 9223372036854775808 := by omega
  have nbn : N < 134217728 := by omega
  have nbi : (N : Int) < 134217728 := by omega
  have gM : M < (N : Int) → False := fun e => by omega
  have g4 : decide (M < (N : Int)) = false := by simp; omega
  have tb0 : tg = 0 := by omega
  have k8 : (Q2 : Int) % 16 = 8 := by omega
  obtain ⟨D, hD⟩ : ∃ D : Int, Ci - 4194304 = D := ⟨_, rfl⟩
  have n1 : ((N : Int) == 0) = false := by simp; omega
  have n3 : decide (Ci < 4194304) = false := by simp; omega
  have n4 : (D % 16 != 0) = false := by simp; omega
  have n5 : IntKind.u64.wrap D = D := by simp [IntKind.wrap, IntKind.bits, IntKind.signed]; omega
  have m1 : 0 ≤ D := by omega
  have m2 : D < 18446744073709551616 := by omega
  have n9 : IntKind.u64.wrap (D / 16) = Fi := by simp [IntKind.wrap, IntKind.bits, IntKind.signed]; omega
  have n10 : D / 16 = Fi := by omega
  have f0 : 0 ≤ Fi := by omega
  have f1 : Fi < 4194304 := by omega
  have f2 : decide (4194304 ≤ Fi) = false := by simp; omega
  have cb0 : 0 ≤ Ci := by omega
  have cb1 : Ci < 18446744073709551616 := by omega
  have HWL := hid hN1
  have HN1 := hid hwl
  subst hbv
  subst tb0
  clear h hA hx t1 hH hB h8 h2 h64 hHb hQ2 hQ64 hQ256 hT hN ho hM hBB hread htg kb tb hk8 hfit hrow hL hbo hro hAL hrl hwc hok hC hCi hCb HAC hmb hFi hF hws hwlt hm hN1 hwl gM g1 g2 g3 g5 g6
  go_enter Try.func50, Try.ntmps50
  go_wp2_with (first
    | (go_at_call 67; refine HS2.out.mono ?_; rintro e w4 ⟨rfl, hr4⟩; have x0 := hr4.tz.c0; have x1 := hr4.tz.c1; have xf := hr4.tz.fz 1; have xl := hr4.tz.lt; have HR4 := hid (hr4.retag Fi); clear hr4)
    | (go_at_call 67; refine HAT.out.mono ?_; rintro e w2 ⟨rfl, hz, hq, t2⟩; have r0 := hq.c0; have r1 := hq.c1; have rl := hq.lt; have zl := hz.lt; have HT2 := hid t2; have HS2 := hid (HSZ.out w2 hz hq t2); clear hz t2 hq)
    | (go_at_call 33; refine (HRR.out _).mono ?_; rintro e w3 ⟨rfl, rfl⟩))
  clear s1 s2 s3 s4 s5 e8 e2 e64 w2' w64 w256 hk ht hnn g4 r0 r1 n1 n3 n4 n5 n9 n10 m1 m2 hD f2
  go_loopw [17, 18, 19] (fun i _ _ wr => ∃ (k j : Nat) (v mvk : Value), j ≤ N ∧ j = k + 1 ∧ i = .int .u64 (j : Int) ∧ Rt (.slice ba L bc') A w2 p b mv row w.heap.size w2.heap.size 8 Fi ws k v mvk wr) (fun i _ _ _ => N - (intOf i).toNat)
  case atStart => exact ⟨0, 1, _, _, by have := HN1.out; omega, rfl, rfl, HR4.out⟩
  case round =>
    obtain ⟨k, j, v, mvk, hk, hjk, rfl, hrt⟩ := hrel
    clear HR4 HAT HSZ HS2
    have HJ := hid hjk
    clear hjk
    have hform := hrt.rv.lr.rw.form
    have hlen : ((ws.take k).map (valW ((ws.take k).foldl meetW row))).length = k := by have := HWL.out; have := HJ.out; have := HN1.out; simp; omega
    rw [hlen] at hform
    obtain ⟨va, vc', rfl, -⟩ := hform
    clear hlen
    by_cases hlt : j < N
    · have hkl : k < ws.length := by have := HWL.out; have := HJ.out; have := HN1.out; omega
      have HA3 := hid (HA2.out w2 k j _ mvk wr HJ.out hrt HT2.out hkl)
      have HV3 : Hid (∀ w4, Tn No wr w4 → ∀ u, Tn No w4 u → _) := hid (fun w4 t4 => HVV.out w2 k _ mvk w4 (hrt.no t4) hkl)
      obtain ⟨y, hy⟩ : ∃ y, ws[k] = y := ⟨_, rfl⟩
      rw [hy] at HA3 HV3
      have y1 := hrt.tz.c3
      have y2 := hrt.tz.lt
      have HRT := hid hrt
      have hki : (j : Int) < (N : Int) := by omega
      clear hrt hy HA2 HVV HMY HFIN
      go_wp2_with (go_at_call 67; refine HA3.out.mono ?_; rintro e w5 ⟨rfl, t4⟩; have hr4 := HRT.out.no t4; have y1 := hr4.tz.c3; have y2 := hr4.tz.lt; have y3 := hr4.tz.fz 3; have HV4 := hid (HV3.out w5 t4); clear hr4 t4)
      go_region_law (first
        | (refine wp_app rfl _ _ _ _ rfl _ _ rfl rfl _ w7 HR6.out ?_)
        | (refine wp_fcall rfl 49 _ (by go_simp) (HV4.out _ (by repeat (first | exact Tn.refl _ _ | apply Tn.drew | apply Tn.drewN | apply Tn.alloc | (refine Tn.then ?_ (by assumption)) | (refine Tn.thenNo ?_ (by assumption))))) ?_; rintro e w6 ⟨mv5, q1, q2, rfl, ⟨x1, x2⟩, v', w7, hr6, ⟨a6, n6, c6, rfl⟩, x3, x4, x5, hrt6⟩; refine ⟨_, rfl, ?_⟩; have HR6 := hid hr6; have HRT6 := hid hrt6; clear hr6 hrt6))
      all_goals
        go_wp2
        go_roundw
        case rel => exact ⟨k + 1, j + 1, _, _, by omega, by have := HJ.out; omega, by go_num, HRT6.out⟩
        case measure => simp [intOf]; omega
    · obtain rfl : j = N := by omega
      have hkN : k = N1 := by have := HJ.out; have := HN1.out; omega
      subst hkN
      have HM := hid (HMY.out w2 va vc' mvk wr hrt)
      have y0 := hrt.tz.c0
      have y1 := hrt.tz.c1
      have y2 := hrt.tz.c2
      have y3 := hrt.tz.c3
      have yl := hrt.tz.lt
      clear hrt HA2 HVV HMY
      go_wp2_with (go_at_call 31; refine HM.out.mono ?_; rintro e w5 ⟨rfl, hr4⟩; have z0 := hr4.rz.c0; have z1 := hr4.rz.c1; have z2 := hr4.rz.c2; have z3 := hr4.rz.c3; have f0 := hr4.rz.fz 0; have f1 := hr4.rz.fz 1; have f2 := hr4.rz.fz 2; have f3 := hr4.rz.fz 3; have zl4 := hr4.rz.lt; have x0 := hr4.tz.c0; have x1 := hr4.tz.c1; have x2 := hr4.tz.c2; have x3 := hr4.tz.c3; have xl := hr4.tz.lt; have HR4 := hid hr4; clear hr4)
      have K4 := hid (set4 z0 z1 z2 z3)
      refine bodyPost_ret (v := .tuple #[.agg #[.int .i64 8, .int .i64 Fi, .string ⟨#[]⟩, .slice va k vc'], .bool mb]) (by simp [results, Try.results50, go_sem, (K4.out _ _ _ _).1, (K4.out _ _ _ _).2.1, (K4.out _ _ _ _).2.2.1, (K4.out _ _ _ _).2.2.2]) rfl ?_
      exact HFIN.out w2 _ _ _ _ w5 _ HR4.out HT2.out (((((Tn.refl (fun i => i = w.heap.size) w5).set _ _ (fun _ => rfl)).set _ _ (fun _ => rfl)).set _ _ (fun _ => rfl)).set _ _ (fun _ => rfl))
end Go.Proofs.Ytlkbnjdhokjfnaa
