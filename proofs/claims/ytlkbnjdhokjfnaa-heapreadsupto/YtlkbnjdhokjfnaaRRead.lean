/-
  heap's reference: Read.
-/
import Derived.Test.YtlkbnjdhokjfnaaRRead0
namespace Go.Proofs.Ytlkbnjdhokjfnaa
set_option linter.unusedSimpArgs false
set_option linter.unusedVariables false
open Go.RowKit
attribute [local go_sem ↓] Go.wp_at_zero Go.wp_at_succ

set_option maxHeartbeats 8000000 in
set_option maxRecDepth 100000 in
theorem rRead_no (v rvv : Value) (b : List UInt8) (at_ : Nat) (roots : List Nat) (w : World) (h : LD 1 eB w v b) (hb : b.length ≤ 1073741824) (hat : at_ < 18446744073709551616) (hq : placeB (at_ : Int) (b.length : Int) = false) :
    Calls Try.prog 26 #[v, .int .u64 (at_ : Int), rvv] w (ReadPost b at_ roots w) := by
  have HFIN : Hid (∀ o, ReadPost b at_ roots w (.returned (.tuple #[.agg #[.slice none 0 0, .slice none 0 0], .int .i64 1])) (w.alloc o)) := hid (fun o => .inl ⟨hq, rfl, (Tn.refl No w).alloc o⟩)
  obtain ⟨va, vk, hvf, _⟩ := h.form
  simp only [placeB, decide_eq_false_iff_not] at hq
  obtain ⟨n, hn⟩ : ∃ n, b.length = n := ⟨_, rfl⟩
  rw [hn] at hvf hb hq
  have three : (((at_ : Int) % 8 != 0) = true) ∨ ((((at_ : Int) % 8 != 0) = false) ∧ decide (9223372036854775808 < (at_ : Int)) = true) ∨ ((((at_ : Int) % 8 != 0) = false) ∧ decide (9223372036854775808 < (at_ : Int)) = false ∧ IntKind.u64.wrap (9223372036854775808 - (at_ : Int)) = 9223372036854775808 - (at_ : Int) ∧ decide (9223372036854775808 - (at_ : Int) < (n : Int)) = true) := by
    by_cases c1 : at_ % 8 = 0
    · have e1 : ((at_ : Int) % 8 != 0) = false := by simp; omega
      by_cases c2 : 9223372036854775808 < at_
      · exact .inr (.inl ⟨e1, by simp; omega⟩)
      · refine .inr (.inr ⟨e1, by simp; omega, by simp [IntKind.wrap, IntKind.bits, IntKind.signed]; omega, by simp; omega⟩)
    · exact .inl (by simp; omega)
  have a0 : (0 : Int) ≤ (at_ : Int) := by omega
  have a1 : (at_ : Int) < 18446744073709551616 := by omega
  have n1 : (n : Int) ≤ 1073741824 := by omega
  subst hvf
  clear h hq hn hat hb
  rcases three with e1 | ⟨e1, e2⟩ | ⟨e1, e2, e3, e4⟩
  all_goals
    go_enter Try.func26, Try.ntmps26
    go_wp2
    refine bodyPost_ret (v := .tuple #[.agg #[.slice none 0 0, .slice none 0 0], .int .i64 1]) (by simp [results, Try.results26, go_sem]) rfl ?_
    exact HFIN.out _

theorem set2a {u : World} {g : Nat} {x0 x1 : Value} (h0 : u.cell? ⟨g, 0, none⟩ = some x0) (h1 : u.cell? ⟨g, 1, none⟩ = some x1) (hg : g < u.heap.size) (o : Obj) (a a' : Value) : ((((u.setCell ⟨g, 0, none⟩ a).setCell ⟨g, 1, none⟩ a').alloc o).cell? ⟨g, 1, none⟩ = some a') ∧ (((u.setCell ⟨g, 0, none⟩ a).setCell ⟨g, 1, none⟩ a').alloc o).cell? ⟨g, 0, none⟩ = some a := by
  obtain ⟨e1, e0⟩ := set2_cells h0 h1 a a'
  have t := (Tn.refl No ((u.setCell ⟨g, 0, none⟩ a).setCell ⟨g, 1, none⟩ a')).alloc o
  have hlt : g < ((u.setCell ⟨g, 0, none⟩ a).setCell ⟨g, 1, none⟩ a').heap.size := by simpa using hg
  exact ⟨by rw [t.cell hlt (fun e => e)]; exact e1, by rw [t.cell hlt (fun e => e), World.cell?_setCell_other _ _ _ _ (by simp)]; exact e0⟩
theorem cs_length (l : List Nat) : (Hp.cs l).length = l.length := by simp [Hp.cs]

set_option maxHeartbeats 16000000 in
set_option maxRecDepth 100000 in
theorem rRead_yes (v rvv : Value) (b : List UInt8) (at_ : Nat) (roots : List Nat) (w : World) (h : LD 1 eB w v b) (hb : b.length ≤ 1073741824) (hat : at_ < 18446744073709551616) (hr : LD 1 eU w rvv (Hp.cs roots)) (hrl : roots.length ≤ 1073741824) (hrw : ∀ x ∈ roots, x < 18446744073709551616) (hq : placeB (at_ : Int) (b.length : Int) = true) :
    Calls Try.prog 26 #[v, .int .u64 (at_ : Int), rvv] w (ReadPost b at_ roots w) := by
  obtain ⟨va, vk, hvf, hvk1, hvk2⟩ := h.form
  obtain ⟨ra, rc, hrf, hrc1, hrc2, hrat⟩ := hr
  obtain ⟨n, hn⟩ : ∃ n, b.length = n := ⟨_, rfl⟩
  have HQ := hid hq
  simp only [placeB, decide_eq_true_eq] at hq
  rw [hn] at hvf hvk1 hq
  obtain ⟨wD, hwD⟩ : ∃ wD, (((w.alloc (.cells #[.slice none 0 0, .slice none 0 0] 27)).alloc (.map #[] 0)).alloc (.cells #[v, .int .u64 (at_ : Int), .map (some (w.heap.size + 1)), .slice none 0 0] 72)).alloc (.cells #[.slice none 0 0, .slice none 0 0] 27) = wD := ⟨_, rfl⟩
  have tD : Tn No w wD := by rw [← hwD]; exact ((((Tn.refl No w).alloc _).alloc _).alloc _).alloc _
  have sD : wD.heap.size = w.heap.size + 4 := by rw [← hwD]; simp
  have bR : wD.heap[w.heap.size]? = some (.cells #[.slice none 0 0, .slice none 0 0] 27 (0, 0)) := by
    rw [← hwD, Below.heap_alloc _ _ _ (by simp; omega), Below.heap_alloc _ _ _ (by simp; omega), Below.heap_alloc _ _ _ (by simp)]; exact heap_alloc_new w _
  have bP : wD.heap[w.heap.size + 2]? = some (.cells #[v, .int .u64 (at_ : Int), .map (some (w.heap.size + 1)), .slice none 0 0] 72 (0, 0)) := by
    have := heap_alloc_new ((w.alloc (.cells #[.slice none 0 0, .slice none 0 0] 27)).alloc (.map #[] 0)) (.cells #[v, .int .u64 (at_ : Int), .map (some (w.heap.size + 1)), .slice none 0 0] 72)
    rw [← hwD, Below.heap_alloc _ _ _ (by simp)]
    simpa using this
  have bC : wD.heap[w.heap.size + 3]? = some (.cells #[.slice none 0 0, .slice none 0 0] 27 (0, 0)) := by
    have := heap_alloc_new (((w.alloc (.cells #[.slice none 0 0, .slice none 0 0] 27)).alloc (.map #[] 0)).alloc (.cells #[v, .int .u64 (at_ : Int), .map (some (w.heap.size + 1)), .slice none 0 0] 72)) (.cells #[.slice none 0 0, .slice none 0 0] 27)
    rw [← hwD]
    simpa using this
  have im : IM .u64 29 wD (w.heap.size + 1) 0 (num []) := by
    have h1 := (IM.made .u64 29 (w.alloc (.cells #[.slice none 0 0, .slice none 0 0] 27))).congr (g := num []) (fun k => by simp [num])
    simp only [World.size_alloc] at h1
    refine h1.kept ?_
    rw [← hwD, Below.heap_alloc _ _ _ (by simp), Below.heap_alloc _ _ _ (by simp)]
  have rq : RQ v at_ wD (w.heap.size + 2) (w.heap.size + 1) (.slice none 0 0) [] :=
    ⟨by simp only [World.cell?, bP]; rfl, by simp only [World.cell?, bP]; rfl, by simp only [World.cell?, bP]; rfl, by simp only [World.cell?, bP]; rfl, by omega, fun i => by simp only [World.frozen?, bP]; simp, LR.nil _ _ _, im, by simp, fun x hx => (by cases hx), by omega, fun e => (by cases e), fun e => (by cases e)⟩
  obtain ⟨A0, hA0⟩ : ∃ A0, actr (w.heap.size + 2) (w.heap.size + 1) (.slice none 0 0) (.slice none 0 0) (.slice none 0 0) (w.heap.size + 3) = A0 := ⟨_, rfl⟩
  have hAlo : ∀ k, A0 k → w.heap.size + 1 ≤ k := fun k e => by
    rw [← hA0] at e
    rcases e with (e | e | e) | e | e | e
    · omega
    · omega
    · cases e
    · cases e
    · cases e
    · omega
  have HRD : Hid (Rq v at_ (w.heap.size + 1) wD A0 (w.heap.size + 2) (w.heap.size + 1) (w.heap.size + 3) (.slice none 0 0) (.slice none 0 0) (.slice none 0 0) [] [] [] wD) := hid {
      up := by rw [hA0]; exact Up.refl _ _
      ra := rq
      c0 := by simp only [World.cell?, bC]; rfl
      c1 := by simp only [World.cell?, bC]; rfl
      cf := fun j => by simp only [World.frozen?, bC]; simp
      cl := by omega
      cn := fun e => by
        rcases e with e | e | e
        · omega
        · omega
        · cases e
      tl := LR.nil _ _ _
      tn := fun g hg => by cases hg
      rl := LR.nil _ _ _
      rn := fun g hg => by cases hg
      each := fun t ht => by cases ht }
  have HTW : Hid (∀ wr G, Up A0 wD G wr → Tn No w wr) := hid (fun wr G u => (Up.fresh tD (fun k e => by have := hAlo k e; omega) u).1)
  have HRR : Hid (∀ wr G, Up A0 wD G wr → wr.heap[w.heap.size]? = some (.cells #[.slice none 0 0, .slice none 0 0] 27 (0, 0)) ∧ w.heap.size + 4 ≤ wr.heap.size) := hid (fun wr G u => ⟨by rw [u.tn.block _ (by omega) (fun e => by have := hAlo _ e; omega)]; exact bR, by have := u.tn.size; omega⟩)
  have hcs : (Hp.cs roots).length = roots.length := cs_length roots
  rw [hcs] at hrf hrc1
  have HRAT : Hid (0 < roots.length → ∃ g o, ra = some ⟨g, o, none⟩ ∧ g < w.heap.size ∧ ∀ k (hk : k < roots.length), w.cell? ⟨g, o + k, none⟩ = some (.int .u64 (roots[k] : Int))) := hid (fun h0 => by
    obtain ⟨g, o, e, hg, hc⟩ := hrat (by rw [hcs]; exact h0)
    refine ⟨g, o, e, hg, fun k hk => ?_⟩
    have := hc k (by rw [hcs]; exact hk) 0 (by omega)
    simp only [Nat.mul_one, Nat.add_zero, eU, List.getElem?_cons_zero] at this
    rw [this]
    simp [Hp.cs])
  have HLD := hid h
  have HBO : Hid (0 < b.length → ∀ g, v.ownBlock = some g → g < w.heap.size) := hid (fun h0 g hg => by
    obtain ⟨a', c', he, _, _, hx⟩ := h
    obtain ⟨g', o', e', hg', _⟩ := hx h0
    rw [he, e'] at hg
    simp [Value.ownBlock] at hg
    omega)
  have HRW := hid hrw
  have HBL := hid hn
  have e1 : ((at_ : Int) % 8 != 0) = false := by simp; omega
  have e2 : decide (9223372036854775808 < (at_ : Int)) = false := by simp; omega
  have e3 : IntKind.u64.wrap (9223372036854775808 - (at_ : Int)) = 9223372036854775808 - (at_ : Int) := by simp [IntKind.wrap, IntKind.bits, IntKind.signed]; omega
  have e4 : decide (9223372036854775808 - (at_ : Int) < (n : Int)) = false := by simp; omega
  have HAL := hid (show at_ + b.length ≤ 9223372036854775808 by omega)
  have HB := hid hb
  have a0 : (0 : Int) ≤ (at_ : Int) := by omega
  have a1 : (at_ : Int) < 18446744073709551616 := by omega
  have n1 : (n : Int) ≤ 1073741824 := by omega
  have HALO := hid hAlo
  have HSD := hid sD
  obtain ⟨rn, hrn⟩ : ∃ rn, roots.length = rn := ⟨_, rfl⟩
  have HRN := hid hrn
  rw [hrn] at hrl hrc1
  rw [hrn] at hrf
  subst hvf hrf
  clear h hrat hcs bR bP bC im rq tD hrw hrn hq hn hAlo hA0 sD hat hb
  have hmm := @run_makeMap Try.prog
  subst hwD
  go_enter Try.func26, Try.ntmps26
  go_wp2_with fail
  clear e1 e2 e3 e4 hmm
  obtain ⟨wD, hwD⟩ : ∃ wD, (((w.alloc (.cells #[.slice none 0 0, .slice none 0 0] 27)).alloc (.map #[] 0)).alloc (.cells #[.slice va n vk, .int .u64 (at_ : Int), .map (some (w.heap.size + 1)), .slice none 0 0] 72)).alloc (.cells #[.slice none 0 0, .slice none 0 0] 27) = wD := ⟨_, rfl⟩
  rw [hwD] at HRD HTW HRR HSD ⊢
  clear hwD
  go_loopw [10] (fun i wr => ∃ (k : Nat) (mv rvo : Value), k ≤ rn ∧ i = .int .i64 (k : Int) ∧ Rq (.slice va n vk) at_ (w.heap.size + 1) wD A0 (w.heap.size + 2) (w.heap.size + 1) (w.heap.size + 3) mv (.slice none 0 0) rvo ((roots.take k).foldl meetW []) [] ((roots.take k).map (valW ((roots.take k).foldl meetW []))) wr) (fun i _ => rn - (intOf i).toNat)
  case atStart => exact ⟨0, _, _, by omega, rfl, HRD.out⟩
  case round =>
    obtain ⟨k, mv, rvo, hk, rfl, hrd⟩ := hrel
    clear HRD
    by_cases hlt : k < rn
    · have hkl : k < roots.length := by have := HRN.out; omega
      obtain ⟨g, o, rfl, hg, hcell⟩ := HRAT.out (by omega)
      have twr := HTW.out _ _ hrd.up
      have hz4 := (HRR.out _ _ hrd.up).2
      have q1 : wr.cell? ⟨g, o + k, none⟩ = some (.int .u64 (roots[k] : Int)) := by rw [twr.cell hg (fun e => e)]; exact hcell k hkl
      have hgl : g < wr.heap.size := Nat.lt_of_lt_of_le hg twr.size
      obtain ⟨s1, s2⟩ := val_succ (row := []) hkl
      have hrl2 : ((roots.take k).foldl meetW []).length + 1 ≤ 4294967296 := by
        obtain ⟨m, em, hm⟩ := meetWs_more (roots.take k) []
        rw [em]; simp at hm ⊢; omega
      have HV : Hid (∀ u, Tn No wr u → _) := hid (fun u t => hrd.rootval (by omega) roots[k] (HRW.out _ (List.getElem_mem hkl)) hrl2 (by simp; omega) u t)
      rw [← s2, ← s1] at HV
      have y1 := hrd.c1
      have y2 := hrd.cl
      have y3 := hrd.cf 1
      have hki : (k : Int) < (rn : Int) := by omega
      obtain ⟨ba, bc, hrvf, _⟩ := hrd.rl.rw.form
      subst hrvf
      obtain ⟨x, hx⟩ : ∃ x, roots[k] = x := ⟨_, rfl⟩
      rw [hx] at q1 HV
      clear hrd hcell s1 s2 hx hkl HRAT HRW twr hg hz4 HRR HTW
      generalize ((roots.take k).map (valW ((roots.take k).foldl meetW []))).length = bn at *
      go_wp2_with fail
      go_region_law (first
        | (refine wp_app rfl _ _ _ _ rfl _ _ rfl rfl _ w5 HR5.out ?_)
        | (refine wp_fcall rfl 49 _ (by go_simp) (HV.out _ (by repeat (first | exact Tn.refl _ _ | apply Tn.drew | apply Tn.drewN | apply Tn.alloc | (refine Tn.then ?_ (by assumption)) | (refine Tn.thenNo ?_ (by assumption))))) ?_; rintro e w2 ⟨mv2, r1, r2, rfl, ⟨z1, z2⟩, rvo', w5, hr5, ⟨a5, n5, c5, rfl⟩, z3, z4, z5, hrd5⟩; refine ⟨_, rfl, ?_⟩; have HR5 := hid hr5; have HRD5 := hid hrd5; clear hr5 hrd5))
      all_goals
        go_wp2
        go_roundw
        case rel => exact ⟨k + 1, _, _, by omega, by go_num, HRD5.out⟩
        case measure => simp [intOf]; omega
    · obtain rfl : k = rn := by omega
      have e1 : roots.take k = roots := List.take_of_length_le (by have := HRN.out; omega)
      rw [e1] at hrd
      have hmw := meetWs_cast roots []
      have hcs0 : Hp.cs [] = [] := rfl
      rw [hcs0] at hmw
      rw [hmw] at hrd
      have HRD := hid hrd
      obtain ⟨ba, bc, hrvf, _⟩ := hrd.rl.rw.form
      subst hrvf
      clear hrd e1 hmw hcs0 HRAT
      generalize (roots.map (valW (Hp.cs (Hp.meet [] (roots.map Hp.value))))).length = bn at *
      go_wp2_with fail
      go_loopw [11, 12, 13] (fun i _ _ wr => ∃ (j : Nat) (mv tvo : Value) (row : List Nat) (out : List Th), i = .int .i64 (j : Int) ∧ Hp.Steps (getN b at_) (Hp.meet [] (roots.map Hp.value)) j row ∧ Rq (.slice va n vk) at_ (w.heap.size + 1) wD A0 (w.heap.size + 2) (w.heap.size + 1) (w.heap.size + 3) mv tvo (.slice ba bn bc) (Hp.cs row) out (roots.map (valW (Hp.cs (Hp.meet [] (roots.map Hp.value))))) wr ∧ out.map Th.nd = Hp.upto (getN b at_) row j ∧ ∀ t ∈ out, okT t.pl) (fun i _ _ _ => n - (intOf i).toNat)
      case atStart => exact ⟨0, _, _, _, _, rfl, .zero, HRD.out, by rw [Hp.upto_zero]; rfl, fun t ht => by cases ht⟩
      case round =>
        obtain ⟨j, mv2, tvo, row, out, rfl, hst, hrd, hnds, hoks⟩ := hrel
        clear HRD
        have twr := HTW.out _ _ hrd.up
        obtain ⟨hR0, hz4⟩ := HRR.out _ _ hrd.up
        have hin := steps_in hst
        have hrn := HRN.out
        have hbl := HBL.out
        have hbb := HB.out
        obtain ⟨ma, mc, hmv, hmc, hmc2, hmn, hms⟩ := hrd.ra.met.rw.form
        have hcs : (Hp.cs row).length = row.length := cs_length row
        rw [hcs] at hmv hmc
        have c00 := hrd.ra.c3
        have plt := hrd.ra.lt
        by_cases hlt : j < row.length
        · have hxk : row[j]? = some row[j] := List.getElem?_eq_getElem hlt
          have hkey := hrd.ra.met.at' j (by rw [hcs]; exact hlt) 0 (by omega)
          have hkey2 : (Hp.cs row)[j]'(by rw [hcs]; exact hlt) = (row[j] : Int) := by simp [Hp.cs]
          rw [hkey2] at hkey
          have hpos : 0 < (Hp.cs row).length := by rw [hcs]; omega
          obtain ⟨g, cap, emv, hg, hcap, hcap2, hfz⟩ := hrd.ra.met.rw.pos hpos
          rw [hcs] at emv hcap
          obtain ⟨x, hxx⟩ : ∃ x, row[j] = x := ⟨_, rfl⟩
          rw [hxx] at hxk hkey
          have hx64 : x < 18446744073709551616 := by
            rcases List.mem_append.1 (hin.1 x (List.mem_of_getElem? hxk)) with hm | hm
            · exact HRW.out x hm
            · exact anyW_lt b x hm
          have hol : out.length + 1 ≤ 4294967296 := by
            have h1 := congrArg List.length hnds
            rw [List.length_map] at h1
            have h2 := upto_len (getN b at_) row j
            omega
          have HTH : Hid (Calls Try.prog 50 #[.pointer (some ⟨w.heap.size + 2, 0, none⟩), .int .u64 (x : Int)] wr fun e w2 => ∃ kd tg s a m c ok, e = .returned (.tuple #[.agg #[.int .i64 kd, .int .i64 tg, .string s, .slice a m c], .bool ok]) ∧
              (w2.cell? ⟨w.heap.size, 0, none⟩ = some (.slice none 0 0) ∧ w2.cell? ⟨w.heap.size, 1, none⟩ = some (.slice none 0 0) ∧ w2.frozen? ⟨w.heap.size, 0, none⟩ = false ∧ w2.frozen? ⟨w.heap.size, 1, none⟩ = false ∧ w.heap.size < w2.heap.size) ∧ (w2.cell? ⟨w.heap.size + 3, 0, none⟩ = some tvo ∧ w.heap.size + 3 < w2.heap.size) ∧
              ((ok = false ∧ ∀ u, Tn (fun k => k = w.heap.size) w2 u → ReadPost b at_ roots w (.returned (.tuple #[.agg #[.slice none 0 0, .slice none 0 0], .int .i64 140])) u) ∨
               (ok = true ∧ j < n ∧ ∃ tvo' w5, (Builtin.append_ #[25, 25] 25 #[tvo, .slice (some ⟨w2.heap.size + 1, 0, none⟩) 1 1]).run Try.prog ((w2.alloc (.cells #[.int .i64 kd, .int .i64 tg, .string s, .slice a m c] 24)).alloc (.cells #[.int .i64 kd, .int .i64 tg, .string s, .slice a m c] 24)) = .ok tvo' w5 ∧ (∃ a n c, tvo' = .slice a n c) ∧ w5.cell? ⟨w.heap.size + 3, 0, none⟩ = some tvo ∧ w5.frozen? ⟨w.heap.size + 3, 0, none⟩ = false ∧ w.heap.size + 3 < w5.heap.size ∧
                  ∃ (mv : Value) (row' : List Nat) (out' : List Th), Hp.Steps (getN b at_) (Hp.meet [] (roots.map Hp.value)) (j + 1) row' ∧ Rq (.slice va n vk) at_ (w.heap.size + 1) wD A0 (w.heap.size + 2) (w.heap.size + 1) (w.heap.size + 3) mv tvo' (.slice ba bn bc) (Hp.cs row') out' (roots.map (valW (Hp.cs (Hp.meet [] (roots.map Hp.value))))) (w5.setCell ⟨w.heap.size + 3, 0, none⟩ tvo') ∧ out'.map Th.nd = Hp.upto (getN b at_) row' (j + 1) ∧ ∀ t ∈ out', okT t.pl))) := by
            apply hid
            refine (rthing_raw (.slice va n vk) at_ _ _ mv2 _ b x wr hrd.ra (HLD.out.no twr) (by omega) HAL.out hx64 (fun h0 g' hg' e => ?_) (by rw [hcs]; omega)).mono ?_
            · have h1 := HBO.out h0 g' hg'
              rcases hrd.up.own g' (.inl e) with e | e
              · have := HALO.out _ e; omega
              · have := hrd.up.tn.size; have := HSD.out; omega
            rintro e w2 ⟨kd, tg, s, a, m, c, ok, mv', rfl, hup2, hcase⟩
            have hnR : ¬ RO (w.heap.size + 2) (w.heap.size + 1) mv2 w.heap.size := fun e => by
              rcases hrd.up.own _ (.inl e) with e | e
              · have := HALO.out _ e; omega
              · have := HSD.out; omega
            have b2 : w2.heap[w.heap.size]? = some (.cells #[.slice none 0 0, .slice none 0 0] 27 (0, 0)) := by rw [hup2.tn.block _ (by omega) hnR]; exact hR0
            have z2 := hup2.tn.size
            refine ⟨kd, tg, s, a, m, c, ok, rfl, ⟨by simp only [World.cell?, b2]; rfl, by simp only [World.cell?, b2]; rfl, by simp only [World.frozen?, b2]; rfl, by simp only [World.frozen?, b2]; rfl, by omega⟩, ⟨by rw [hup2.tn.cell hrd.cl hrd.cn]; exact hrd.c0, by omega⟩, ?_⟩
            rcases hcase with ⟨hok, hno⟩ | ⟨hok, ws, hrd2, hrv, hwlt⟩
            · refine .inl ⟨hok, fun u tu => .inr (.inr ⟨HQ.out, rfl, ?_, _, _, _, hst, hxk, by rw [getN_read]; exact hno⟩)⟩
              have ua := hrd.up.trans (hup2.more (fun k => tvo.ownBlock = some k ∨ (Value.slice ba bn bc).ownBlock = some k ∨ k = w.heap.size + 3))
              exact (HTW.out _ _ ua).trans tu (fun _ _ e => e) (fun i hi e => by omega)
            · refine .inr ⟨hok, ?_⟩
              obtain ⟨row', tvo', w5, f1, f2, f3, f4, f5, f6, f7, out', hst', hrd', hnds', hoks'⟩ := hrd.next (by omega) hst hnds hoks (by omega) hxk hrd2 hwlt hrv (by omega) hol (w2.alloc (.cells #[.int .i64 kd, .int .i64 tg, .string s, .slice a m c] 24)) ((Tn.refl No w2).alloc _)
              simp only [World.size_alloc] at f3
              exact ⟨by have := steps_lt hst'; omega, tvo', w5, f3, f4, f5, f6, f7, mv', row', out', hst', hrd', hnds', hoks'⟩
          subst emv
          simp only [vc, eK, Nat.mul_one, Nat.add_zero, List.getElem?_cons_zero] at hkey
          have hki : (j : Int) < (row.length : Int) := by omega
          obtain ⟨ta, tc, htf, _⟩ := hrd.tl.rw.form
          subst htf
          have hrow31 : row.length ≤ 2147483648 := by omega
          have hgl := hg
          clear hst hrd hnds hoks twr hR0 hz4 hin hrn hbl hbb hmv hmc hmc2 hmn hms hcs hxk hkey2 hpos hcap2 hfz hxx hx64 hol HRW HLD HTW HRR HB HAL HRN HBL HBO HALO
          generalize row.length = rl at *
          generalize out.length = ol at *
          go_wp2_with (first
            | (at_builtin; refine wpList_app _ rfl _ _ _ _ rfl _ _ rfl rfl _ w5 HR5.out ?_)
            | (go_at_call 50; refine HTH.out.mono ?_; rintro e w2 ⟨kd, tg, s, a, m, c, ok, rfl, ⟨y0, y1, y2, y3, y4⟩, ⟨y5, y6⟩, hcase⟩; rcases hcase with ⟨rfl, hno⟩ | ⟨rfl, hjn, tvo', w5, hr5, ⟨a5, n5, c5, rfl⟩, x1, x2, x3, hrel5⟩ <;> (first | (have HNO := hid hno; clear hno) | (have HR5 := hid hr5; have HREL := hid hrel5; clear hr5 hrel5))))
          · have K2 := hid (fun o => set2a y0 y1 y4 o)
            refine bodyPost_ret (v := .tuple #[.agg #[.slice none 0 0, .slice none 0 0], .int .i64 140]) (by simp [results, Try.results26, go_sem, (K2.out _ _ _).1, (K2.out _ _ _).2]) rfl ?_
            exact HNO.out _ ((((Tn.refl (fun k => k = w.heap.size) w2).set _ _ (fun _ => rfl)).set _ _ (fun _ => rfl)).alloc _)
          · go_roundw
            case rel =>
              obtain ⟨mv', row', out', f1, f2, f3, f4⟩ := HREL.out
              exact ⟨j + 1, _, _, _, _, by go_num, f1, f2, f3, f4⟩
            case measure => simp [intOf]; omega
        · have hje : j = row.length := by have := hst.le; omega
          have r1 : wr.cell? ⟨w.heap.size, 0, none⟩ = some (.slice none 0 0) := by simp only [World.cell?, hR0]; rfl
          have r2 : wr.cell? ⟨w.heap.size, 1, none⟩ = some (.slice none 0 0) := by simp only [World.cell?, hR0]; rfl
          have r3 : wr.frozen? ⟨w.heap.size, 0, none⟩ = false := by simp only [World.frozen?, hR0]; rfl
          have r4 : wr.frozen? ⟨w.heap.size, 1, none⟩ = false := by simp only [World.frozen?, hR0]; rfl
          have s0 := hrd.c0
          have s1 := hrd.c1
          have hcl := hrd.cl
          obtain ⟨oa, oc, hof, _⟩ := hrd.tl.rw.form
          subst hof
          obtain ⟨hgo, ho2, hro⟩ := hrd.fin (roots := roots) hst hnds (by omega) (by omega) HRW.out
          have HFIN : Hid (∀ a a', ReadPost b at_ roots w (.returned (.tuple #[.agg #[.slice oa out.length oc, .slice ba bn bc], .int .i64 0])) ((wr.setCell ⟨w.heap.size, 0, none⟩ a).setCell ⟨w.heap.size, 1, none⟩ a')) := hid (fun a a' => by
            have t' : Tn (fun k => k = w.heap.size) wr ((wr.setCell ⟨w.heap.size, 0, none⟩ a).setCell ⟨w.heap.size, 1, none⟩ a') := ((Tn.refl (fun k => k = w.heap.size) wr).set _ _ (fun _ => rfl)).set _ _ (fun _ => rfl)
            exact .inr (.inl ⟨HQ.out, _, _, _, _, row, rfl, ⟨(hgo.kept t' (fun k e => by omega)).lower (by omega), twr.trans t' (fun _ _ e => e) (fun i hi e => by omega), hoks, ho2⟩, hst.done hje, by rw [hnds, hje, Hp.upto_all], hro⟩))
          have K2 := hid (set2_cells r1 r2)
          have hb4 : w.heap.size < wr.heap.size := by omega
          subst hmv
          subst hje
          have hcl2 := hcl
          have hrow31 : row.length ≤ 2147483648 := by omega
          clear twr hin hrn hcs hlt hrd hst hnds hoks hgo ho2 hro hR0 hz4 hbl hbb hmc hmc2 hmn hms HRW HLD HTW HRR HB HAL HRN HBL HBO HALO
          generalize row.length = rl at *
          generalize out.length = ol at *
          go_wp2
          refine bodyPost_ret (v := .tuple #[.agg #[.slice oa ol oc, .slice ba bn bc], .int .i64 0]) (by simp [results, Try.results26, go_sem, (K2.out _ _).1, (K2.out _ (.int .i64 0)).2]) rfl ?_
          exact HFIN.out _ _

theorem rRead_raw (v rvv : Value) (b : List UInt8) (at_ : Nat) (roots : List Nat) (w : World) (h : LD 1 eB w v b) (hb : b.length ≤ 1073741824) (hat : at_ < 18446744073709551616) (hr : LD 1 eU w rvv (Hp.cs roots)) (hrl : roots.length ≤ 1073741824) (hrw : ∀ x ∈ roots, x < 18446744073709551616) :
    Calls Try.prog 26 #[v, .int .u64 (at_ : Int), rvv] w (ReadPost b at_ roots w) := by
  cases hq : placeB (at_ : Int) (b.length : Int) with
  | false => exact rRead_no v rvv b at_ roots w h hb hat hq
  | true => exact rRead_yes v rvv b at_ roots w h hb hat hr hrl hrw hq
end Go.Proofs.Ytlkbnjdhokjfnaa
