/-
  word: WordSplits, its walk (what 'known' says is a premise).
-/
import Derived.Test.YtoidddfpekbliaaGreatWJ34
import Derived.Test.YtoidddfpekbliaaGreatWJ07
import Derived.WideBlind
import Derived.Test.YtoidddfpekbliaaGreatWJ30
import Derived.BigRegion
namespace Go.Proofs.YtoidddfpekbliaaGreat
set_option linter.unusedSimpArgs false
set_option linter.unusedVariables false
open Go.RowKit
attribute [local go_sem ↓] Go.wp_at_zero Go.wp_at_succ

theorem FilesAt.tn {w w' : World} {a : Option Addr} {n M : Nat} {fl : List (ByteArray × ByteArray)} (h : FilesAt w a n M fl) (t : Tn No w w') : FilesAt w' a n M fl := by
  refine ⟨h.len, fun h0 => ?_, h.big⟩
  obtain ⟨g, off, e, hg, hc⟩ := h.at' h0
  exact ⟨g, off, e, Nat.lt_of_lt_of_le hg t.size, fun j hj => by rw [t.cell hg (fun e => e), t.cell hg (fun e => e)]; exact hc j hj⟩

/-- both processes have just been made -/
theorem tp_start {w4 w5 w6 w7 w8 : World} {pw1 pw2 N pb1 pb2 fb1 fb2 : Nat} {s1 s2 : Bool} {S : St} {Lw1 Lw2 : Nat → Option Lab} {L1 L2 : Nat → Option Lb} {X Y : PSt} {K : Nat} {R : List RFun}
    (hpw1 : PW w5 pw1 Lw1 N S) (t5 : Tn No w4 w5) (hl1 : ∀ k, Lw1 k ≠ none → w4.heap.size ≤ k) (hpw2 : PW w6 pw2 Lw2 N S) (t6 : Tn No w5 w6) (hl2 : ∀ k, Lw2 k ≠ none → w5.heap.size ≤ k)
    (g1 : PA pb1 K fb1 pw1 R s1 X w7 L1 Lw1) (t7 : Tn No w6 w7) (hn1 : ∀ k, k < w6.heap.size → L1 k = none) (g2 : PA pb2 K fb2 pw2 R s2 Y w8 L2 Lw2) (t8 : Tn No w7 w8) (hn2 : ∀ k, k < w7.heap.size → L2 k = none) :
    TP w4 R R s1 s2 pb1 fb1 pw1 pb2 fb2 pw2 K K X Y w8 := by
  have z5 := t5.size
  have z6 := t6.size
  have z7 := t7.size
  have e1 : ∀ k, L1 k ≠ none → w6.heap.size ≤ k ∧ k < w7.heap.size := fun k hk => ⟨by apply Classical.byContradiction; intro hc; exact hk (hn1 k (by omega)), g1.lt.1 k hk⟩
  have e2 : ∀ k, Lw1 k ≠ none → w4.heap.size ≤ k ∧ k < w5.heap.size := fun k hk => ⟨hl1 k hk, hpw1.lt k hk⟩
  have e3 : ∀ k, k < w5.heap.size ∨ w6.heap.size ≤ k → Lw2 k = none := fun k hk => by
    apply Classical.byContradiction
    intro hc
    have h1 := hl2 k hc
    have h2 := hpw2.lt k hc
    omega
  refine ⟨L1, Lw1, L2, Lw2, g1.tn t8 (fun _ e => e.elim), g2, fun k hk => ?_, fun k hk => ?_, ((t5.then t6).then t7).then t8⟩
  · rcases hk with hk | hk
    · have := e1 k hk
      exact ⟨by omega, hn2 k (by omega), e3 k (.inr (by omega))⟩
    · have := e2 k hk
      exact ⟨by omega, hn2 k (by omega), e3 k (.inl (by omega))⟩
  · rcases hk with hk | hk
    · apply Classical.byContradiction
      intro hc; exact hk (hn2 k (by omega))
    · have := hl2 k hk; omega

set_option maxHeartbeats 8000000 in
set_option maxRecDepth 100000 in
theorem splits_walk (HKN : Hid (∀ u, Calls Tryz.prog 13 #[] u fun e w' => e = .returned (.bool true) ∧ Tn No u w')) (p : Wp) (w : World) (hp : PgA w p) (s : ByteArray) (a : Option Addr) (n cn M : Nat) (fl : List (ByteArray × ByteArray)) (hs : s.size ≤ maxLen) (hf : FilesAt w a n M fl) (hM : M ≤ 1048576) (hn : n ≤ 1048576) (mv : Value) (ml : List Int) (hml : LD 1 eI w mv ml) (hmk : ∀ y ∈ ml, i64ok y) :
    Calls Tryz.prog 7 #[p.val, .agg #[.string s, .slice a n cn], mv] w fun e w' => e = .returned (.bool true) ∧ Tn No w w' := by
  have HCK : Hid (∀ u, Tn No w u → Calls Tryz.prog 8 #[p.val] u fun e w' => e = .returned (.int .i64 (if mayP p then 0 else 130)) ∧ Tn No u w') := hid (fun u t => check_raw p u (hp.no t))
  have HSZ : Hid (∀ u, Tn No w u → Calls Tryz.prog 10 #[p.val] u fun e w' => (∃ v, e = .returned (.int .i64 v)) ∧ Tn No u w') := hid (fun u t => lsize_raw p u (hp.no t))
  have HNW : Hid (∀ u, Tn No w u → Calls Tryz.prog 14 #[.agg #[.string s, .slice a n cn]] u fun e u' => ∃ q, e = .returned (.pointer (some ⟨q, 0, none⟩)) ∧ Own u u' q (M + n) (initSt (filesOf fl) s)) := hid (fun u t => new_raw s a n cn M fl u hs (hf.tn t) (by omega) (by omega))
  have hdl := hp.dlen
  have hfu := hp.funs.form
  have hda := hp.data.form
  obtain ⟨ma, mc, rfl, hmc, hmm, hmat⟩ := hml
  have HMA := hid hmat
  have HMK := hid hmk
  by_cases hmay : mayP p = true
  · have hk := pok_of hmay
    have hz := hk.zero
    have hdn : p.data.length ≤ 268435456 := by omega
    have HPN : Hid (∀ u pw Lw, Tn No w u → PW u pw Lw (M + n) (initSt (filesOf fl) s) → Calls Tryz.prog 15 #[p.val, .int .u64 65536, .bool false, .pointer (some ⟨pw, 0, none⟩)] u (NwPost p 65536 false pw (M + n) (initSt (filesOf fl) s) u Lw)) := hid (fun u pw Lw t h => pnew_raw p u (hp.no t) hmay 65536 (by omega) (by omega) false pw (M + n) Lw _ h (by omega))
    have HRW := hid (ready_wf hk)
    have HRK := hid (ready_kd hk)
    have HOK : Hid (POk (readyP p) 268435456 (PSt.first (p.mem 65536) (initSt (filesOf fl) s))) := hid (first_ok hk 65536 (by omega) _ (wf_init _ _))
    obtain ⟨X0, hX0⟩ : ∃ X0, PSt.first (p.mem 65536) (initSt (filesOf fl) s) = X0 := ⟨_, rfl⟩
    have hst0 : X0.status = 0 := by rw [← hX0]; rfl
    have hsp0 : X0.steps = 0 := by rw [← hX0]; rfl
    obtain ⟨K, hK⟩ : ∃ K, M + n + (p.data.length + 7) / 8 = K := ⟨_, rfl⟩
    have hKb : K ≤ 40000000 := by omega
    unfold NwPost at HPN
    rw [hX0] at HPN HOK
    rw [hK] at HPN
    rw [hmay] at HCK
    simp only [if_true] at HCK
    obtain ⟨R, hR⟩ : ∃ R, readyP p = R := ⟨_, rfl⟩
    rw [hR] at HPN HOK HRW HRK
    obtain ⟨N0, hN0⟩ : ∃ N0, M + n = N0 := ⟨_, rfl⟩
    obtain ⟨S0, hS0⟩ : ∃ S0, initSt (filesOf fl) s = S0 := ⟨_, rfl⟩
    rw [hN0, hS0] at HNW HPN
    obtain ⟨fd, fc, hfu⟩ := hfu
    obtain ⟨da, dc, hda⟩ := hda
    obtain ⟨dn, hdn'⟩ : ∃ dn, p.data.length = dn := ⟨_, rfl⟩
    obtain ⟨fn, hfn⟩ : ∃ fn, p.funs.length = fn := ⟨_, rfl⟩
    obtain ⟨z, hzz⟩ : ∃ z, p.zero = z := ⟨_, rfl⟩
    rw [hdn'] at hda
    rw [hfn] at hfu
    have hval : p.val = .agg #[.slice fd fn fc, .slice da dn dc, .int .i64 z] := by unfold Wp.val; rw [hfu, hda, hzz]
    rw [hval] at HCK HSZ HPN ⊢
    have HBX : Hid (∀ u, Tn No ((w.alloc (.cells #[.slice fd fn fc, .slice da dn dc, .int .i64 z] 25)).alloc (.cells #[.string s, .slice a n cn] 33)) u → (u.cell? ⟨w.heap.size, 0, none⟩ = some (.slice fd fn fc) ∧ u.cell? ⟨w.heap.size, 1, none⟩ = some (.slice da dn dc) ∧ u.cell? ⟨w.heap.size, 2, none⟩ = some (.int .i64 z)) ∧ (u.cell? ⟨w.heap.size + 1, 0, none⟩ = some (.string s) ∧ u.cell? ⟨w.heap.size + 1, 1, none⟩ = some (.slice a n cn)) ∧ w.heap.size + 1 < u.heap.size ∧ Tn No w u) := hid (fun u t => by
      have ex : ∀ i, u.cell? ⟨w.heap.size, i, none⟩ = #[.slice fd fn fc, .slice da dn dc, .int .i64 z][i]? := fun i => by
        rw [Tn.cell (F := No) (a := w.alloc (.cells #[.slice fd fn fc, .slice da dn dc, .int .i64 z] 25)) (((Tn.refl No _).alloc _).then t) (by simp) (fun e => e)]
        exact World.cell?_alloc_mark _ _ _ _ i
      have ey : ∀ i, u.cell? ⟨w.heap.size + 1, i, none⟩ = #[.string s, .slice a n cn][i]? := fun i => by
        rw [t.cell (by simp) (fun e => e)]
        have e : w.heap.size + 1 = (w.alloc (.cells #[.slice fd fn fc, .slice da dn dc, .int .i64 z] 25)).heap.size := by simp
        rw [e]
        exact World.cell?_alloc_mark _ _ _ _ i
      exact ⟨⟨ex 0, ex 1, ex 2⟩, ⟨ey 0, ey 1⟩, by have := t.size; simp at this; omega, (((Tn.refl No w).alloc _).alloc _).then t⟩)
    obtain ⟨mn, hmn⟩ : ∃ mn, ml.length = mn := ⟨_, rfl⟩
    have HMN := hid hmn
    rw [hmn] at hmc
    rw [hmn]
    clear hp hf hs hmat hmk hk hz hX0 hK hR hN0 hS0 hval hfu hda hzz hdn' hfn hmn hmay hdl hdn
    go_enter Tryz.func7, Tryz.ntmps7
    go_wp2_with (first
      | (go_at_call 13; refine (HKN.out _).mono ?_; rintro e w2 ⟨rfl, t2⟩; obtain ⟨⟨p0, p1, p2⟩, ⟨x0, x1⟩, zx, tw2⟩ := HBX.out w2 t2)
      | (go_at_call 8; refine (HCK.out w2 tw2).mono ?_; rintro e w3 ⟨rfl, t3'⟩; have t3 := t2.then t3'; obtain ⟨⟨p0, p1, p2⟩, ⟨x0, x1⟩, zx, tw3⟩ := HBX.out w3 t3)
      | (go_at_call 10; refine (HSZ.out w3 tw3).mono ?_; rintro e w4 ⟨⟨v, rfl⟩, t4'⟩; have t4 := t3.then t4'; obtain ⟨⟨p0, p1, p2⟩, ⟨x0, x1⟩, zx, tw4⟩ := HBX.out w4 t4)
      | (go_at_call 14; have hz1 := HO1.out; refine (HNW.out w5 tw5).mono ?_; rintro e w6 ⟨u2, rfl, ho2⟩; have HO2 := hid ho2; have t6 := t5.then ho2.tn; obtain ⟨⟨p0, p1, p2⟩, ⟨x0, x1⟩, zx, tw6⟩ := HBX.out w6 t6; clear ho2 hz1)
      | (go_at_call 14; refine (HNW.out w4 tw4).mono ?_; rintro e w5 ⟨u1, rfl, ho1⟩; have HO1 := hid ho1; have t5 := t4.then ho1.tn; obtain ⟨⟨p0, p1, p2⟩, ⟨x0, x1⟩, zx, tw5⟩ := HBX.out w5 t5; clear ho1)
      | (go_at_call 15; have hz2 := HA1.out; refine (HPN.out w7 u2 Lw2 tw7 HPW2.out).mono ?_; rintro e w8 ⟨pb2, fb2, L2, rfl, ga2, gt2, gn2⟩; have HA2 := hid ga2; have HT8 := hid gt2; have HN2 := hid gn2; clear ga2 hz2)
      | (go_at_call 15; obtain ⟨Lw1, hpw1, tt1, hl1⟩ := HO1.out; obtain ⟨Lw2, hpw2, tt2, hl2⟩ := HO2.out; refine (HPN.out w6 u1 Lw1 tw6 (hpw1.no tt2)).mono ?_; rintro e w7 ⟨pb1, fb1, L1, rfl, ga1, gt1, gn1⟩; have HA1 := hid ga1; have HT7 := hid gt1; have HN1 := hid gn1; have HPW1 := hid hpw1; have HPW2 := hid (hpw2.no gt1); have HPW2' := hid hpw2; have HL1 := hid hl1; have HL2 := hid hl2; have HTT1 := hid tt1; have HTT2 := hid tt2; have t7 := t6.then gt1; obtain ⟨⟨p0, p1, p2⟩, ⟨x0, x1⟩, zx, tw7⟩ := HBX.out w7 t7; clear ga1 hpw1 hpw2 hl1 hl2 tt1 tt2))
    · go_ret
      exact ⟨rfl, tw4⟩
    have htp := tp_start (X := X0) (Y := X0) (K := K) (R := R) HPW1.out HTT1.out HL1.out HPW2'.out HTT2.out HL2.out HA1.out HT7.out HN1.out HA2.out HT8.out HN2.out
    have HTP0 := hid htp
    have HW4 := hid tw4
    clear htp HPW1 HTT1 HL1 HPW2' HTT2 HL2 HA1 HT7 HN1 HA2 HT8 HN2 HPW2 HO1 HO2 HKN HCK HSZ HNW HPN HBX t2 t3 t3' t4 t4' t5 t6 t7 tw2 tw3 tw4 tw5 tw6 tw7 p0 p1 p2 x0 x1 gt1 gt2 gn1 gn2
    have hs0 : Value.int .i64 0 = Value.int .i64 X0.status := by rw [hst0]
    have HS0 := hid hs0
    have HX00 : Hid (X0.steps ≤ 0) := hid (by omega)
    have HK := hid hKb
    clear hs0 hst0 hsp0 hKb
    go_loopw [13, 14, 15] (fun av sv iv wr => ∃ i : Nat, i ≤ mn ∧ i ≤ 20 ∧ iv = .int .i64 (i : Int) ∧ ∃ al : Nat, av = .int .i64 (al : Int) ∧ al ≤ 40 * i ∧ ∃ X, Hid (X = PSt.run R false al X0) ∧ sv = .int .i64 X.status ∧ Hid (TP w4 R R false false pb1 fb1 u1 pb2 fb2 u2 (K + al * 536870920) K X X0 wr) ∧ Hid (POk R 268435456 X) ∧ Hid (X.steps ≤ al)) (fun _ _ iv _ => mn - (intOf iv).toNat)
    case atStart => exact ⟨0, by omega, by omega, rfl, 0, rfl, by omega, X0, hid rfl, HS0.out, by rw [Nat.zero_mul, Nat.add_zero]; exact HTP0, HOK, HX00⟩
    case round =>
      obtain ⟨i, hi, hi20, rfl, al, rfl, hal, X, HX, rfl, HTP, HPX, HSX⟩ := hrel
      clear HTP0 HS0
      have hKb := HK.out
      by_cases hgo : i < mn ∧ i < 20
      · obtain ⟨hlt, hlt2⟩ := hgo
        have hil : i < ml.length := by have := HMN.out; omega
        obtain ⟨g, o, rfl, hg, hcell⟩ := HMA.out (by omega)
        have hcw : wr.cell? ⟨g, o + i, none⟩ = some (.int .i64 ml[i]) := by
          rw [(HW4.out.then HTP.out.old).cell hg (fun e => e)]
          have := hcell i hil 0 (by omega)
          simpa [eI] using this
        obtain ⟨k, hk40, hpk⟩ := pick_ex ml[i] 40 (HMK.out _ (List.getElem_mem hil)) (by omega) (by omega)
        obtain ⟨y, hy⟩ : ∃ y, ml[i] = y := ⟨_, rfl⟩
        rw [hy] at hcw hpk
        have hpk' : ∀ u, Calls Tryz.prog 17 #[.int .i64 y, .int .i64 40] u fun e w' => e = .returned (.int .i64 (k : Int)) ∧ w' = u := hpk
        have HPK := hid hpk'
        have hrun := HTP.out.run HRW.out HRK.out HPX.out (by omega) k (by omega) (by omega) (by have := HSX.out; omega)
        have HRUN := hid hrun
        have HE1 : Hid (PSt.run R false k X = PSt.run R false (al + k) X0) := hid (by rw [HX.out, PSt.run_add])
        have HE2 : Hid (K + al * 536870920 + k * (2 * 268435456 + 8) = K + (al + k) * 536870920) := hid (by omega)
        have hii : (i : Int) < (mn : Int) := by omega
        have hi2 : (i : Int) < 20 := by omega
        have hal2 : (al : Int) ≤ 800 := by omega
        have hk2 : (k : Int) < 40 := by omega
        have hsx := HSX.out
        clear hcell hg hy hpk hpk' hrun HMA HX HTP HPX HSX HOK
        go_wp2_with (first
          | (go_at_call 17; refine (HPK.out _).mono ?_; rintro e w9 ⟨rfl, rfl⟩)
          | (go_at_call 18; refine HRUN.out.mono ?_; rintro e w10 ⟨rfl, htp, hpok, hst⟩; have HTQ := hid htp; have HPQ := hid hpok; have HSQ := hid hst; clear htp hpok hst))
        rw [HE2.out] at HTQ
        go_roundw
        case rel => exact ⟨i + 1, by omega, by omega, by go_num, al + k, by go_num, by omega, PSt.run R false k X, HE1, rfl, HTQ, HPQ, hid (by have := HSQ.out; omega)⟩
        case measure => simp [intOf]; omega
      · have hrun := HTP.out.swap.run HRW.out HRK.out HOK.out (by omega) al (by omega) (by omega) (by have := HX00.out; omega)
        rw [← HX.out] at hrun
        have HRUN := hid hrun
        have hal2 : (al : Int) ≤ 800 := by omega
        have hsl : (X.steps : Int) ≤ (al : Int) := by have := HSX.out; omega
        have HKB : Hid (K + al * 536870920 ≤ 1099511627776 ∧ K + al * (2 * 268435456 + 8) ≤ 1099511627776) := hid (by omega)
        have HFIN : Hid (∀ u, Hid (TP w4 R R false false pb1 fb1 u1 pb2 fb2 u2 (K + al * 536870920) (K + al * (2 * 268435456 + 8)) X X u) → (∀ u', Tn No u u' → Calls Tryz.prog 28 #[.pointer (some ⟨pb1, 0, none⟩)] u' fun e w' => e = .returned (.int .i64 X.code) ∧ w' = u') ∧ (∀ u', Tn No u u' → Calls Tryz.prog 28 #[.pointer (some ⟨pb2, 0, none⟩)] u' fun e w' => e = .returned (.int .i64 X.code) ∧ w' = u') ∧
            (∀ u', Tn No u u' → Calls Tryz.prog 29 #[.pointer (some ⟨pb1, 0, none⟩)] u' fun e w' => e = .returned (.int .i64 (X.steps : Int)) ∧ w' = u') ∧ (∀ u', Tn No u u' → Calls Tryz.prog 29 #[.pointer (some ⟨pb2, 0, none⟩)] u' fun e w' => e = .returned (.int .i64 (X.steps : Int)) ∧ w' = u') ∧
            (∀ u', Tn No u u' → Calls Tryz.prog 31 #[.pointer (some ⟨u1, 0, none⟩)] u' (TracePost u' X.S.tr)) ∧ (∀ u', Tn No u u' → Calls Tryz.prog 31 #[.pointer (some ⟨u2, 0, none⟩)] u' (TracePost u' X.S.tr)) ∧ Tn No w4 u ∧ X.S.tr.length ≤ 1099511627776) := hid (fun u h => by
          have h' := h.out
          refine ⟨fun u' t => (h'.no t).code, fun u' t => (h'.no t).swap.code, fun u' t => (h'.no t).steps, fun u' t => (h'.no t).swap.steps, fun u' t => (h'.no t).trace HKB.out.1, fun u' t => (h'.no t).swap.trace HKB.out.2, h'.old, ?_⟩
          obtain ⟨L1, M1, _, _, g1, _⟩ := h'
          obtain ⟨c, mo, iv, tv, vs, hx⟩ := g1.world
          have := hx.ew.len
          have := HKB.out.1
          omega)
        obtain ⟨sp, hsp⟩ : ∃ sp : Int, (X.steps : Int) = sp := ⟨_, rfl⟩
        obtain ⟨cd, hcd⟩ : ∃ cd, X.code = cd := ⟨_, rfl⟩
        obtain ⟨st, hst⟩ : ∃ st, X.status = st := ⟨_, rfl⟩
        obtain ⟨tr, htr⟩ : ∃ tr, X.S.tr = tr := ⟨_, rfl⟩
        rw [hsp] at hsl HFIN
        rw [hcd, htr] at HFIN
        rw [hst] at HRUN
        try rw [hst]
        have HSAME : Hid (∀ u va vb, TV u va tr → TV u vb tr → tr.length ≤ 1099511627776 → Calls Tryz.prog 30 #[va, vb] u fun e w' => e = .returned (.bool true) ∧ Tn No u w') := hid (fun u va vb h1 h2 h3 => same_raw u va vb tr h1 h2 h3)
        have hcond : (mn : Int) ≤ (i : Int) ∨ ((i : Int) < (mn : Int) ∧ (20 : Int) ≤ (i : Int)) := by omega
        clear HX HTP HPX HSX hrun HMA HMK HRW HRK HOK HX00 hgo hsp hcd hst htr
        rcases hcond with hc1 | ⟨hc1, hc2⟩
        all_goals
          go_wp2_with (first
            | (go_at_call 18; refine HRUN.out.mono ?_; rintro e w10 ⟨rfl, htp, hpok, hsq⟩; have HTQ := hid htp.swap; obtain ⟨fc1, fc2, fs1, fs2, ft1, ft2, fo, flen⟩ := HFIN.out w10 HTQ; have HC1 := hid fc1; have HC2 := hid fc2; have HS1 := hid fs1; have HS2 := hid fs2; have HTR1 := hid ft1; have HTR2 := hid ft2; have HFO := hid fo; have HFL := hid flen; clear htp hpok hsq fc1 fc2 fs1 fs2 ft1 ft2 fo flen)
            | (go_at_call_of 28 (Value.pointer (some ⟨pb1, 0, none⟩)); refine (HC1.out w10 (Tn.refl _ _)).mono ?_; rintro e w11 ⟨rfl, hw⟩; have hw2 := hw.symm; clear hw; subst hw2)
            | (go_at_call_of 28 (Value.pointer (some ⟨pb2, 0, none⟩)); refine (HC2.out w10 (Tn.refl _ _)).mono ?_; rintro e w11 ⟨rfl, hw⟩; have hw2 := hw.symm; clear hw; subst hw2)
            | (go_at_call_of 29 (Value.pointer (some ⟨pb1, 0, none⟩)); refine (HS1.out w10 (Tn.refl _ _)).mono ?_; rintro e w11 ⟨rfl, hw⟩; have hw2 := hw.symm; clear hw; subst hw2)
            | (go_at_call_of 29 (Value.pointer (some ⟨pb2, 0, none⟩)); refine (HS2.out w10 (Tn.refl _ _)).mono ?_; rintro e w11 ⟨rfl, hw⟩; have hw2 := hw.symm; clear hw; subst hw2)
            | (go_at_call_of 31 (Value.pointer (some ⟨u1, 0, none⟩)); refine (HTR1.out w10 (Tn.refl _ _)).mono ?_; rintro e w12 ⟨va, rfl, hva, hfa, ta⟩; have HVA := hid hva; have HTA := hid ta; clear hva hfa ta)
            | (go_at_call_of 31 (Value.pointer (some ⟨u2, 0, none⟩)); refine (HTR2.out w12 HTA.out).mono ?_; rintro e w13 ⟨vb, rfl, hvb, hfb, tb⟩; have HVB := hid hvb; have HTB := hid tb; clear hvb hfb tb)
            | (go_at_call 30; refine (HSAME.out w13 va vb (HVA.out.no HTB.out) HVB.out HFL.out).mono ?_; rintro e w14 ⟨rfl, tc⟩; have HTC := hid tc; clear tc))
          go_ret
          exact ⟨rfl, HW4.out.then (HFO.out.then (HTA.out.then (HTB.out.then HTC.out)))⟩
  · have hmay : mayP p = false := by simpa using hmay
    rw [hmay] at HCK
    simp only [Bool.false_eq_true, if_false] at HCK
    obtain ⟨fd, fc, hfu⟩ := hfu
    obtain ⟨da, dc, hda⟩ := hda
    have hval : p.val = .agg #[.slice fd p.funs.length fc, .slice da p.data.length dc, .int .i64 p.zero] := by unfold Wp.val; rw [hfu, hda]
    rw [hval] at HCK ⊢
    clear hp hf hs hmat hmk HMA HMK hval hfu hda hmay HSZ HNW hdl hmc
    generalize p.funs.length = fn at *
    generalize p.data.length = dn at *
    generalize p.zero = z at *
    generalize ml.length = mn at *
    have HBX : Hid (∀ u, Tn No ((w.alloc (.cells #[.slice fd fn fc, .slice da dn dc, .int .i64 z] 25)).alloc (.cells #[.string s, .slice a n cn] 33)) u → (u.cell? ⟨w.heap.size, 0, none⟩ = some (.slice fd fn fc) ∧ u.cell? ⟨w.heap.size, 1, none⟩ = some (.slice da dn dc) ∧ u.cell? ⟨w.heap.size, 2, none⟩ = some (.int .i64 z)) ∧ w.heap.size < u.heap.size ∧ Tn No w u) := hid (fun u t => by
      have ex : ∀ i, u.cell? ⟨w.heap.size, i, none⟩ = #[.slice fd fn fc, .slice da dn dc, .int .i64 z][i]? := fun i => by
        rw [Tn.cell (F := No) (a := w.alloc (.cells #[.slice fd fn fc, .slice da dn dc, .int .i64 z] 25)) (((Tn.refl No _).alloc _).then t) (by simp) (fun e => e)]
        exact World.cell?_alloc_mark _ _ _ _ i
      exact ⟨⟨ex 0, ex 1, ex 2⟩, by have := t.size; simp at this; omega, (((Tn.refl No w).alloc _).alloc _).then t⟩)
    go_enter Tryz.func7, Tryz.ntmps7
    go_wp2_with (first
      | (go_at_call 13; refine (HKN.out _).mono ?_; rintro e w2 ⟨rfl, t2⟩; obtain ⟨⟨p0, p1, p2⟩, zx, tw2⟩ := HBX.out w2 t2)
      | (go_at_call 8; refine (HCK.out w2 tw2).mono ?_; rintro e w3 ⟨rfl, t3⟩))
    go_ret
    exact ⟨rfl, tw2.then t3⟩
end Go.Proofs.YtoidddfpekbliaaGreat
namespace Go.Proofs.YtoidddfpekbliaaGreat
set_option linter.unusedSimpArgs false
set_option linter.unusedVariables false
open Go.RowKit
attribute [local go_sem ↓] Go.wp_at_zero Go.wp_at_succ

theorem runs_end {f : FuncId} {args : Array Value} {w : World} {v : Value} (hi : Tryz.prog.inits.idxOf? f = none) (h : Calls Tryz.prog f args w fun e _ => e = .returned v) : ∃ n u, runN Tryz.prog n (lone (Frame.enter Tryz.prog f args .normal) [] w) = .ended (.done v) u := by
  obtain ⟨e, w', fr, rfl, hs, hf, hl⟩ := h []
  obtain ⟨n, hn⟩ := hs
  have hd := step_leave_done hl (by rw [hf]; exact hi)
  refine ⟨n + 1, w', ?_⟩
  rw [runN_add, hn]
  simp [runN, hd]
/-- two contracts of one call, that answers, name one answer -/
theorem calls_unique {f : FuncId} {args : Array Value} {w : World} {v v' : Value} (hi : Tryz.prog.inits.idxOf? f = none) (h : Calls Tryz.prog f args w fun e _ => e = .returned v) (h' : Calls Tryz.prog f args w fun e _ => e = .returned v') : v = v' := by
  obtain ⟨n, u, hn⟩ := runs_end hi h
  obtain ⟨n', u', hn'⟩ := runs_end hi h'
  have := (WideBlind.runN_same' hn hn').1
  cases this
  rfl

theorem sub57 (w : World) : Calls Tryz.prog 129 #[.int .i64 4, .int .u64 5, .int .u64 7] w fun e w' => e = .returned (.tuple #[.int .u64 18446744073709551614, .bool true]) ∧ w' = w := by
  have hw : IntKind.u64.wrap (5 - 7) = 18446744073709551614 := by decide
  go_enter Tryz.func129, Tryz.ntmps129
  go_wp2
  go_ret2
  exact ⟨rfl, rfl⟩
theorem word57 (h : (0 : Int) ≤ 7) (w : World) : wordF 4 5 7 h = 18446744073709551614 ∧ wordG 4 5 7 h = true := by
  have h1 := (wordF_raw 4 5 7 h w).mono (fun e w' z => z.1)
  have h2 := (sub57 w).mono (fun e w' z => z.1)
  have := calls_unique (by kernel_rfl) h1 h2
  simp at this
  exact this
end Go.Proofs.YtoidddfpekbliaaGreat
namespace Go.Proofs.YtoidddfpekbliaaGreat
set_option linter.unusedSimpArgs false
set_option linter.unusedVariables false
open Go.RowKit
attribute [local go_sem ↓] Go.wp_at_zero Go.wp_at_succ

def ltw (k d a b imm : Int) : Wd := ⟨k, d, a, b, 0, 0, 0, 0, 0, imm, .slice none 0 0, []⟩
def lcode : List Wd := [ltw 1 0 0 0 5, ltw 1 1 0 0 7, ltw 4 2 0 1 0, ltw 26 0 2 0 0]
def littleP (fv cv : Value) : Wp := ⟨fv, [⟨⟨#[109, 97, 105, 110]⟩, 0, 3, 0, cv, lcode⟩], .slice none 0 0, [], 0⟩

theorem little_may (fv cv : Value) : mayP (littleP fv cv) = true := by rfl

/-- the little program made ready -/
theorem little_ready (fv cv : Value) : readyP (littleP fv cv) = [⟨⟨#[109, 97, 105, 110]⟩, 0, readyC lcode⟩] := rfl
def lq (i : Nat) : RCode := readyW (labM lcode) (placesL lcode) (lcode.getD i (ltw 0 0 0 0 0))
theorem lq_at : readyC lcode = [lq 0, lq 1, lq 2, lq 3] := rfl
theorem lq0 : (lq 0).kind = 1 ∧ (lq 0).count = 0 ∧ (lq 0).d = 0 ∧ (lq 0).imm = 5 := by refine ⟨rfl, rfl, rfl, ?_⟩; decide
theorem lq1 : (lq 1).kind = 1 ∧ (lq 1).count = 0 ∧ (lq 1).d = 1 ∧ (lq 1).imm = 7 := by refine ⟨rfl, rfl, rfl, ?_⟩; decide
theorem lq2 : (lq 2).kind = 4 ∧ (lq 2).count = 2 ∧ (lq 2).d = 2 ∧ (lq 2).frm 0 = 0 ∧ (lq 2).frm 1 = 1 := ⟨rfl, rfl, rfl, rfl, rfl⟩
theorem lq3 : (lq 3).kind = 26 ∧ (lq 3).count = 1 ∧ (lq 3).frm 0 = 2 := ⟨rfl, rfl, rfl⟩
def LR4 : List RFun := [⟨⟨#[109, 97, 105, 110]⟩, 0, [lq 0, lq 1, lq 2, lq 3]⟩]

/-- the state with one call -/
def st1c (M : Mem) (S : St) (at_ : Nat) (regs : Nat → Option Int) (n : Nat) : PSt := ⟨[⟨0, at_, regs, fun _ => none⟩], M, S, false, 0, 0, 0, n⟩
section
variable (M : Mem) (S : St) (n : Nat)
theorem next_const (i : Nat) (regs : Nat → Option Int) (hi : i = 0 ∨ i = 1) : (st1c M S i regs n).next LR4 true = st1c M S (i + 1) (upd regs i (some (if i = 0 then 5 else 7))) (n + 1) := by
  have hs : (st1c M S i regs n).step LR4 true = some (st1c M S (i + 1) (upd regs i (some (if i = 0 then 5 else 7))) n) := by
    rcases hi with rfl | rfl
    · obtain ⟨h1, h2, h3, h4⟩ := lq0
      simp [PSt.step, st1c, LR4, stepF, stepQ, allSet, PSt.val, Fr.setBank, h1, h2, h3, h4]
    · obtain ⟨h1, h2, h3, h4⟩ := lq1
      simp [PSt.step, st1c, LR4, stepF, stepQ, allSet, PSt.val, Fr.setBank, h1, h2, h3, h4]
  unfold PSt.next
  rw [hs]
  rfl
theorem next_sub (w : World) (regs : Nat → Option Int) (h0 : regs 0 = some 5) (h1 : regs 1 = some 7) : (st1c M S 2 regs n).next LR4 true = st1c M S 3 (upd regs 2 (some 18446744073709551614)) (n + 1) := by
  have hs : (st1c M S 2 regs n).step LR4 true = some (st1c M S 3 (upd regs 2 (some 18446744073709551614)) n) := by
    obtain ⟨k1, k2, k3, k4, k5⟩ := lq2
    have hw := word57 (by omega) w
    simp [PSt.step, st1c, LR4, stepF, stepQ, allSet, PSt.val, Fr.setBank, xsOf, k1, k2, k3, k4, k5, h0, h1, List.range_succ, hw]
    intro x hx
    have : x = 0 ∨ x = 1 := by omega
    rcases this with rfl | rfl
    · rw [k4, h0]; simp
    · rw [k5, h1]; simp
  unfold PSt.next
  rw [hs]
  rfl
theorem next_ret (regs : Nat → Option Int) (h2 : regs 2 = some 18446744073709551614) : (st1c M S 3 regs n).next LR4 true = ⟨[], M, S, false, 1, 254, 0, n + 1⟩ := by
  have hs : (st1c M S 3 regs n).step LR4 true = some ⟨[], M, S, false, 1, 254, 0, n⟩ := by
    obtain ⟨k1, k2, k3⟩ := lq3
    simp [PSt.step, st1c, LR4, stepF, stepQ, allSet, PSt.back, PSt.exit, xsOf, k1, k2, k3, h2, List.range_succ]
  unfold PSt.next
  rw [hs]
theorem run_go {R : List RFun} {s : Bool} {k : Nat} {X : PSt} (h : X.status = 0) : PSt.run R s (k + 1) X = PSt.run R s k (X.next R s) := by rw [PSt.run, if_pos h]
theorem run_stay {R : List RFun} {s : Bool} {k : Nat} {X : PSt} (h : ¬ X.status = 0) : PSt.run R s (k + 1) X = X := by rw [PSt.run, if_neg h]
theorem run_little (w : World) : PSt.run LR4 true 3 (st1c M S 0 (fun _ => none) 0) = st1c M S 3 (upd (upd (upd (fun _ => none) 0 (some 5)) 1 (some 7)) 2 (some 18446744073709551614)) 3 ∧
    PSt.run LR4 true 9 (st1c M S 3 (upd (upd (upd (fun _ => none) 0 (some 5)) 1 (some 7)) 2 (some 18446744073709551614)) 3) = ⟨[], M, S, false, 1, 254, 0, 4⟩ := by
  refine ⟨?_, ?_⟩
  · rw [run_go (by rfl), next_const M S 0 0 _ (.inl rfl), run_go (by rfl), next_const M S 1 1 _ (.inr rfl), run_go (by rfl), next_sub M S 2 w _ (by simp [upd]) (by simp [upd])]
    rfl
  · rw [run_go (by rfl), next_ret M S 3 _ (by simp [upd]), run_stay (by show ¬ (1 : Int) = 0; decide)]
end
end Go.Proofs.YtoidddfpekbliaaGreat
namespace Go.Proofs.YtoidddfpekbliaaGreat
set_option linter.unusedSimpArgs false
set_option linter.unusedVariables false
open Go.RowKit
attribute [local go_sem ↓] Go.wp_at_zero Go.wp_at_succ

theorem alloc3_mid (w : World) (A : Obj) (B : Array Value) (t : TypeId) (C : Obj) (i : Nat) : (((w.alloc A).alloc (.cells B t)).alloc C).cell? ⟨w.heap.size + 1, i, none⟩ = B[i]? := by
  have e : w.heap.size + 1 = (w.alloc A).heap.size := by simp
  rw [Tn.cell (F := No) (a := (w.alloc A).alloc (.cells B t)) ((Tn.refl No _).alloc _) (by simp) (fun e => e), e]
  exact World.cell?_alloc_mark _ _ _ _ i

def lcells : Array Value := #[.int .i64 1, .int .i64 0, .int .i64 0, .int .i64 0, .int .i64 0, .int .i64 0, .int .i64 0, .int .i64 0, .int .i64 0, .int .i64 5, .slice none 0 0, .int .i64 1, .int .i64 1, .int .i64 0, .int .i64 0, .int .i64 0, .int .i64 0, .int .i64 0, .int .i64 0, .int .i64 0, .int .i64 7, .slice none 0 0, .int .i64 4, .int .i64 2, .int .i64 0, .int .i64 1, .int .i64 0, .int .i64 0, .int .i64 0, .int .i64 0, .int .i64 0, .int .i64 0, .slice none 0 0, .int .i64 26, .int .i64 0, .int .i64 2, .int .i64 0, .int .i64 0, .int .i64 0, .int .i64 0, .int .i64 0, .int .i64 0, .int .i64 0, .slice none 0 0]
theorem lcells_at (i : Nat) (hi : i < lcode.length) (j : Nat) (hj : j < 11) : lcells[i * 11 + j]? = (eW lcode[i])[j]? := by
  have h1 : i = 0 ∨ i = 1 ∨ i = 2 ∨ i = 3 := by have : lcode.length = 4 := rfl; omega
  have h2 : j = 0 ∨ j = 1 ∨ j = 2 ∨ j = 3 ∨ j = 4 ∨ j = 5 ∨ j = 6 ∨ j = 7 ∨ j = 8 ∨ j = 9 ∨ j = 10 := by omega
  rcases h1 with rfl | rfl | rfl | rfl <;> rcases h2 with rfl | rfl | rfl | rfl | rfl | rfl | rfl | rfl | rfl | rfl | rfl <;> rfl
theorem lword_ok (w : World) (x : Wd) (hx : x ∈ lcode) : WA w x := by
  simp only [lcode, List.mem_cons, List.not_mem_nil, or_false] at hx
  rcases hx with rfl | rfl | rfl | rfl
  all_goals
    refine ⟨LD.nil _ _ _, ?_, (fun y hy => by cases hy), by simp [ltw]⟩
    simp [ltw, i64ok]

set_option maxHeartbeats 1000000 in
set_option maxRecDepth 100000 in
theorem little_raw (w : World) : Calls Tryz.prog 38 #[] w fun e w' => ∃ fv cv, e = .returned (littleP fv cv).val ∧ PgA w' (littleP fv cv) ∧ Tn No w w' := by
  have HF : Hid (∀ A : Array Value, Hid (PgA (((w.alloc (.cells A 25)).alloc (.cells #[.int .i64 1, .int .i64 0, .int .i64 0, .int .i64 0, .int .i64 0, .int .i64 0, .int .i64 0, .int .i64 0, .int .i64 0, .int .i64 5, .slice none 0 0, .int .i64 1, .int .i64 1, .int .i64 0, .int .i64 0, .int .i64 0, .int .i64 0, .int .i64 0, .int .i64 0, .int .i64 0, .int .i64 7, .slice none 0 0, .int .i64 4, .int .i64 2, .int .i64 0, .int .i64 1, .int .i64 0, .int .i64 0, .int .i64 0, .int .i64 0, .int .i64 0, .int .i64 0, .slice none 0 0, .int .i64 26, .int .i64 0, .int .i64 2, .int .i64 0, .int .i64 0, .int .i64 0, .int .i64 0, .int .i64 0, .int .i64 0, .int .i64 0, .slice none 0 0] 79)).alloc (.cells #[.string ⟨#[109, 97, 105, 110]⟩, .int .i64 0, .int .i64 3, .int .i64 0, .slice (some ⟨w.heap.size + 1, 0, none⟩) 4 4] 76)) (littleP (.slice (some ⟨w.heap.size + 1 + 1, 0, none⟩) 1 1) (.slice (some ⟨w.heap.size + 1, 0, none⟩) 4 4)))) := hid (fun A => hid (by
    obtain ⟨U, hU⟩ : ∃ U, ((w.alloc (.cells A 25)).alloc (.cells #[.int .i64 1, .int .i64 0, .int .i64 0, .int .i64 0, .int .i64 0, .int .i64 0, .int .i64 0, .int .i64 0, .int .i64 0, .int .i64 5, .slice none 0 0, .int .i64 1, .int .i64 1, .int .i64 0, .int .i64 0, .int .i64 0, .int .i64 0, .int .i64 0, .int .i64 0, .int .i64 0, .int .i64 7, .slice none 0 0, .int .i64 4, .int .i64 2, .int .i64 0, .int .i64 1, .int .i64 0, .int .i64 0, .int .i64 0, .int .i64 0, .int .i64 0, .int .i64 0, .slice none 0 0, .int .i64 26, .int .i64 0, .int .i64 2, .int .i64 0, .int .i64 0, .int .i64 0, .int .i64 0, .int .i64 0, .int .i64 0, .int .i64 0, .slice none 0 0] 79)).alloc (.cells #[.string ⟨#[109, 97, 105, 110]⟩, .int .i64 0, .int .i64 3, .int .i64 0, .slice (some ⟨w.heap.size + 1, 0, none⟩) 4 4] 76) = U := ⟨_, rfl⟩
    have hsz : U.heap.size = w.heap.size + 3 := by rw [← hU]; simp
    have hC : ∀ i, U.cell? ⟨w.heap.size + 2, i, none⟩ = #[.string ⟨#[109, 97, 105, 110]⟩, .int .i64 0, .int .i64 3, .int .i64 0, .slice (some ⟨w.heap.size + 1, 0, none⟩) 4 4][i]? := fun i => by rw [← hU]; exact alloc3_last w _ _ _ _ i
    have hB : ∀ i, U.cell? ⟨w.heap.size + 1, i, none⟩ = lcells[i]? := fun i => by rw [← hU]; exact alloc3_mid w _ _ _ _ i
    rw [hU]
    refine ⟨⟨_, 1, rfl, by simp [littleP], by omega, fun _ => ⟨w.heap.size + 2, 0, rfl, by omega, fun i hi j hj => ?_⟩⟩, fun f hf => ?_, LD.nil _ _ _, (fun b hb => by cases hb), by simp [littleP, i64ok], by simp [littleP], by simp [littleP]⟩
    · have h1 : i = 0 := by simp [littleP] at hi; omega
      subst h1
      have h2 : j = 0 ∨ j = 1 ∨ j = 2 ∨ j = 3 ∨ j = 4 := by omega
      rw [hC]
      rcases h2 with rfl | rfl | rfl | rfl | rfl <;> rfl
    · have hf' : f = ⟨⟨#[109, 97, 105, 110]⟩, 0, 3, 0, .slice (some ⟨w.heap.size + 1, 0, none⟩) 4 4, lcode⟩ := by simpa [littleP] using hf
      subst hf'
      refine ⟨⟨_, 4, rfl, by simp [lcode], by omega, fun _ => ⟨w.heap.size + 1, 0, rfl, by omega, fun i hi j hj => ?_⟩⟩, fun x hx => lword_ok _ x hx, by simp [i64ok], by simp [lcode]⟩
      rw [hB, Nat.zero_add]
      exact lcells_at i hi j hj))
  have HT : Hid (∀ A B C, Tn No w (((w.alloc A).alloc B).alloc C)) := hid (fun A B C => (((Tn.refl No w).alloc A).alloc B).alloc C)
  have HE : Hid (∀ (A : Array Value) B C i, (((w.alloc (.cells A 25)).alloc B).alloc C).cell? ⟨w.heap.size, i, none⟩ = A[i]?) := hid (fun A B C i => alloc3_first w A _ B C i)
  go_enter Tryz.func38, Tryz.ntmps38
  go_wp2
  have e0 := HE.out #[.slice (some ⟨w.heap.size + 1 + 1, 0, none⟩) 1 1, .slice none 0 0, .int .i64 0] (.cells #[.int .i64 1, .int .i64 0, .int .i64 0, .int .i64 0, .int .i64 0, .int .i64 0, .int .i64 0, .int .i64 0, .int .i64 0, .int .i64 5, .slice none 0 0, .int .i64 1, .int .i64 1, .int .i64 0, .int .i64 0, .int .i64 0, .int .i64 0, .int .i64 0, .int .i64 0, .int .i64 0, .int .i64 7, .slice none 0 0, .int .i64 4, .int .i64 2, .int .i64 0, .int .i64 1, .int .i64 0, .int .i64 0, .int .i64 0, .int .i64 0, .int .i64 0, .int .i64 0, .slice none 0 0, .int .i64 26, .int .i64 0, .int .i64 2, .int .i64 0, .int .i64 0, .int .i64 0, .int .i64 0, .int .i64 0, .int .i64 0, .int .i64 0, .slice none 0 0] 79) (.cells #[.string ⟨#[109, 97, 105, 110]⟩, .int .i64 0, .int .i64 3, .int .i64 0, .slice (some ⟨w.heap.size + 1, 0, none⟩) 4 4] 76)
  have e00 := e0 0
  have e01 := e0 1
  have e02 := e0 2
  clear e0
  refine bodyPost_ret (v := .agg #[.slice (some ⟨w.heap.size + 1 + 1, 0, none⟩) 1 1, .slice none 0 0, .int .i64 0]) (by simp [results, Tryz.results38, go_sem, e00, e01, e02]) rfl ?_
  exact ⟨.slice (some ⟨w.heap.size + 1 + 1, 0, none⟩) 1 1, .slice (some ⟨w.heap.size + 1, 0, none⟩) 4 4, rfl, (HF.out _).out, HT.out _ _ _⟩
end Go.Proofs.YtoidddfpekbliaaGreat
namespace Go.Proofs.YtoidddfpekbliaaGreat
set_option linter.unusedSimpArgs false
set_option linter.unusedVariables false
open Go.RowKit
attribute [local go_sem ↓] Go.wp_at_zero Go.wp_at_succ

/-- the first n cells of a block, which may be written -/
structure CN (w : World) (g n : Nat) (c : Nat → Value) : Prop where
  lt : g < w.heap.size
  cell : ∀ i, i < n → w.cell? ⟨g, i, none⟩ = some (c i)
  froz : ∀ i, i < n → w.frozen? ⟨g, i, none⟩ = false
theorem CN.set {w : World} {g n : Nat} {c : Nat → Value} (h : CN w g n c) (j : Nat) (hj : j < n) (v : Value) : CN (w.setCell ⟨g, j, none⟩ v) g n (upd c j v) := by
  refine ⟨by simpa using h.lt, fun i hi => ?_, fun i hi => by rw [World.frozen?_setCell]; exact h.froz i hi⟩
  by_cases e : i = j
  · subst e
    rw [World.cell?_setCell_same w _ _ (h.cell i hi), upd_same]
  · rw [World.cell?_setCell_other w _ _ _ (by intro h; cases h; exact e rfl), upd_other _ _ e]
    exact h.cell i hi
theorem CN.kept {w w' : World} {g n : Nat} {c : Nat → Value} (h : CN w g n c) (hk : w'.heap[g]? = w.heap[g]?) : CN w' g n c := by
  refine ⟨?_, fun i hi => ?_, fun i hi => ?_⟩
  · have : w.heap[g]? = some (w.heap[g]'h.lt) := Array.getElem?_eq_getElem h.lt
    rw [this] at hk
    exact (Array.getElem?_eq_some_iff.1 hk).1
  · rw [World.cell?_of_block (w := w) (a := ⟨g, i, none⟩) hk]; exact h.cell i hi
  · rw [World.frozen?_of_block (w := w) (a := ⟨g, i, none⟩) hk]; exact h.froz i hi
theorem CN.no {w w' : World} {g n : Nat} {c : Nat → Value} (h : CN w g n c) (t : Tn No w w') : CN w' g n c := h.kept (t.block _ h.lt (fun e => e))
theorem CN.congr {w : World} {g n : Nat} {c d : Nat → Value} (h : CN w g n c) (e : ∀ i, i < n → c i = d i) : CN w g n d :=
  ⟨h.lt, fun i hi => by rw [← e i hi]; exact h.cell i hi, h.froz⟩

def endsF (k : Int) : Bool := leavesF k || callsF k || k == 21
theorem ends_raw (k : Int) (w : World) : Calls Tryz.prog 102 #[.int .i64 k] w fun e w' => e = .returned (.bool (endsF k)) ∧ w' = w := by
  have HL := hid (fun u => leaves_raw k u)
  have HC := hid (fun u => calls_raw k u)
  unfold endsF
  obtain ⟨a, ha⟩ : ∃ a, leavesF k = a := ⟨_, rfl⟩
  obtain ⟨b, hb⟩ : ∃ b, callsF k = b := ⟨_, rfl⟩
  obtain ⟨c, hc⟩ : ∃ c, (k == 21) = c := ⟨_, rfl⟩
  rw [ha] at HL ⊢
  rw [hb] at HC ⊢
  rw [hc]
  clear ha hb
  cases a <;> cases b <;> cases c
  all_goals
    go_enter Tryz.func102, Tryz.ntmps102
    go_wp2_with (first
      | (go_at_call 94; refine (HL.out _).mono ?_; rintro e w2 ⟨rfl, rfl⟩)
      | (go_at_call 101; refine (HC.out _).mono ?_; rintro e w2 ⟨rfl, rfl⟩))
    go_ret
    exact ⟨rfl, rfl⟩

/-- a block's cells -/
def bk (from_ to_ : Int) (falls reached : Bool) (i : Nat) : Value :=
  if i = 0 then .int .i32 from_ else if i = 1 then .int .i32 to_ else if i = 2 then .int .i32 (-1) else if i = 3 then .int .i32 (-1) else if i = 4 then .int .i32 (-1) else if i = 5 then .bool falls else if i = 6 then .bool false else if i = 7 then .bool reached else if i = 8 then .bool false else if i = 9 then .int .u64 0 else .int .u64 0
def gc (cv : Value) (bb cap : Nat) (i : Nat) : Value := if i = 0 then cv else .slice (some ⟨bb, 0, none⟩) 1 cap
theorem bk_info : (Tryz.prog.info? 214).map (fun i => (i.zero, i.size, i.bytes)) = some (some (.agg #[.int .i32 0, .int .i32 0, .int .i32 0, .int .i32 0, .int .i32 0, .bool false, .bool false, .bool false, .bool false, .int .u64 0, .int .u64 0]), 11, 40) := by kernel_rfl
def eBk (f : Int) : List Value := [.int .i32 f, .int .i32 0, .int .i32 (-1), .int .i32 (-1), .int .i32 (-1), .bool false, .bool false, .bool false, .bool false, .int .u64 0, .int .u64 0]

/-- the first block is laid -/
theorem push_bk (w : World) (f : Int) (b : Nat) (hb : ∀ j u, (eBk f)[j]? = some u → w.cell? ⟨b, j, none⟩ = some u) : ∃ bb cap w', (Builtin.append_ #[209, 209] 209 #[.slice none 0 0, .slice (some ⟨b, 0, none⟩) 1 1]).run Tryz.prog w = .ok (.slice (some ⟨bb, 0, none⟩) 1 cap) w' ∧ CN w' bb 11 (bk f 0 false false) ∧ w.heap.size ≤ bb ∧ Tn No w w' := by
  obtain ⟨v', w', h1, h2, h3, h4⟩ := lr_push (size := 11) (en := eBk) Tryz.underlying209 bk_info rfl (by omega) (LR.nil 11 eBk w) f rfl (by intro u hu; simp only [eBk, List.mem_cons, List.not_mem_nil, or_false] at hu; rcases hu with rfl | rfl | rfl | rfl | rfl | rfl | rfl | rfl | rfl | rfl | rfl <;> rfl) b hb (by unfold maxLen; simp) (by simp) 209
  obtain ⟨bb, cap, rfl, hlt, hle, hcm, hfz⟩ := h2.rw.pos (by simp)
  refine ⟨bb, cap, w', h1, ⟨hlt, fun i hi => ?_, fun i hi => hfz i (by simpa using hi)⟩, ?_, ?_⟩
  · have := h2.at' 0 (by simp) i hi
    rw [Nat.zero_mul, Nat.zero_add] at this
    have e : vc w' (.slice (some ⟨bb, 0, none⟩) (([] : List Int) ++ [f]).length cap) i = w'.cell? ⟨bb, i, none⟩ := rfl
    rw [e] at this
    rw [this]
    have : i = 0 ∨ i = 1 ∨ i = 2 ∨ i = 3 ∨ i = 4 ∨ i = 5 ∨ i = 6 ∨ i = 7 ∨ i = 8 ∨ i = 9 ∨ i = 10 := by omega
    rcases this with rfl | rfl | rfl | rfl | rfl | rfl | rfl | rfl | rfl | rfl | rfl <;> rfl
  · rcases h4 with e | e
    · cases e
    · have : bb = w.heap.size := by simpa [Value.ownBlock] using e
      omega
  · exact (Tn.refl No w).grown h3 (fun i e hi => by cases e)
end Go.Proofs.YtoidddfpekbliaaGreat
