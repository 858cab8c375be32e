/-
  heap's reference: are two graphs the same, field by field?
-/
import Derived.Test.YtlkbnjdhokjfnaaHCanon
namespace Go.Proofs.Ytlkbnjdhokjfnaa
set_option linter.unusedSimpArgs false
set_option linter.unusedVariables false
open Go.RowKit
attribute [local go_sem ↓] Go.wp_at_zero Go.wp_at_succ

set_option maxHeartbeats 4000000 in
set_option maxRecDepth 100000 in
theorem rrefs_raw (v v' : Value) (l l' : List Rf) (w : World) (h : LD 2 eR w v l) (h' : LD 2 eR w v' l') (hl : l.length ≤ 1073741824) (hl' : l'.length ≤ 1073741824) :
    Calls Try.prog 41 #[v, v'] w fun e w' => e = .returned (.bool (decide (l = l'))) ∧ Tn No w w' := by
  obtain ⟨a, c, rfl, hc, hcm, hat⟩ := h
  obtain ⟨a', c', rfl, hc', hcm', hat'⟩ := h'
  by_cases hlen : l.length = l'.length
  · have HAT := hid hat
    have HAT' := hid hat'
    obtain ⟨m, hm⟩ : ∃ m, l.length = m := ⟨_, rfl⟩
    have HM := hid hm
    have HM' := hid (hlen.symm.trans hm)
    rw [← hlen] at hc' hl' ⊢
    rw [hm] at hc hl hc' hl' ⊢
    clear hat hat' hm hlen
    go_enter Try.func41, Try.ntmps41
    go_wp2_with fail
    go_loopw [5] (fun i wr => ∃ k : Nat, k ≤ m ∧ i = .int .i64 (k : Int) ∧ l.take k = l'.take k ∧ Tn No w wr) (fun i _ => m - (intOf i).toNat)
    case atStart => exact ⟨0, by omega, rfl, by simp, Tn.refl _ _⟩
    case round =>
      obtain ⟨k, hk, rfl, htk, ht⟩ := hrel
      by_cases hlt : k < m
      · have hkl : k < l.length := by have := HM.out; omega
        have hkl' : k < l'.length := by have := HM'.out; omega
        obtain ⟨g, o, rfl, hg, hcell⟩ := HAT.out (by omega)
        obtain ⟨g', o', rfl, hg', hcell'⟩ := HAT'.out (by omega)
        obtain ⟨q0, q1⟩ := ref_cells hcell k hkl
        obtain ⟨p0, p1⟩ := ref_cells hcell' k hkl'
        rw [← ht.cell hg (fun e => e)] at q0 q1
        rw [← ht.cell hg' (fun e => e)] at p0 p1
        have HT : Hid (∀ q, Tn No w (wr.drewN q)) := hid (fun q => ht.drewN q)
        have HY : Hid (l[k] = l'[k] → l.take (k + 1) = l'.take (k + 1)) := hid (take_ext hkl hkl' htk)
        have HN : Hid (l[k] ≠ l'[k] → l ≠ l') := hid (ne_at hkl hkl')
        obtain ⟨r, hr⟩ : ∃ r, l[k] = r := ⟨_, rfl⟩
        obtain ⟨r', hr'⟩ : ∃ r, l'[k] = r := ⟨_, rfl⟩
        rw [hr] at q0 q1 HY HN
        rw [hr'] at p0 p1 HY HN
        obtain ⟨x, y⟩ := r
        obtain ⟨x', y'⟩ := r'
        simp only at q0 q1 p0 p1
        have hki : (k : Int) < (m : Int) := by omega
        clear hcell hcell' hr hr' htk HAT HAT' ht
        by_cases he : (x, y) = (x', y')
        · have HY2 := hid (HY.out he)
          obtain ⟨rfl, rfl⟩ : x = x' ∧ y = y' := by simpa using he
          clear HY HN he
          go_wp2_with fail
          go_quiet (fail)
          go_wp2_with fail
          go_roundw
          case rel => exact ⟨k + 1, by omega, by go_num, HY2.out, HT.out _⟩
          case measure => simp [intOf]; omega
        · have HN2 := hid (HN.out he)
          by_cases hx : x = x'
          · subst hx
            have d2 : (y == y') = false := by
              rw [Bool.eq_false_iff]; intro h; apply he; rw [eq_of_beq h]
            clear HY HN he
            go_wp2_with fail
            go_quiet (fail)
            go_wp2_with fail
            go_ret
            exact ⟨ret_bool (by simp [HN2.out]), HT.out _⟩
          · have d1 : (x == x') = false := by simpa using hx
            clear HY HN he hx
            go_wp2_with fail
            go_quiet (fail)
            go_wp2_with fail
            go_ret
            exact ⟨ret_bool (by simp [HN2.out]), HT.out _⟩
      · obtain rfl : k = m := by omega
        have HT := hid htk
        have HTW := hid ht
        clear htk ht
        go_wp2
        go_ret
        have := HT.out
        rw [List.take_of_length_le (by have := HM.out; omega), List.take_of_length_le (by have := HM'.out; omega)] at this
        exact ⟨ret_bool (by simp [this]), HTW.out⟩
  · have hd : ((l.length : Int) != (l'.length : Int)) = true := by simp; omega
    have HN : Hid (l ≠ l') := hid (fun e => hlen (by rw [e]))
    clear hat hat' hlen
    go_enter Try.func41, Try.ntmps41
    go_wp2
    go_ret
    exact ⟨ret_bool (by simp [HN.out]), Tn.refl _ _⟩

set_option maxHeartbeats 8000000 in
set_option maxRecDepth 100000 in
theorem rEqual_raw (tv rv tv' rv' : Value) (ts ts' : List Th) (rs rs' : List Rf) (w : World) (h : GA w tv rv ts rs) (h' : GA w tv' rv' ts' rs') :
    Calls Try.prog 19 #[.agg #[tv, rv], .agg #[tv', rv']] w fun e w' => e = .returned (.bool (eqG ts ts' rs rs')) ∧ Tn No w w' := by
  obtain ⟨wB, hwB⟩ : ∃ wB, (w.alloc (.cells #[tv, rv] 27)).alloc (.cells #[tv', rv'] 27) = wB := ⟨_, rfl⟩
  have tB : Tn No w wB := by rw [← hwB]; exact ((Tn.refl No w).alloc _).alloc _
  have sB : wB.heap.size = w.heap.size + 2 := by rw [← hwB]; simp
  have b1 : wB.heap[w.heap.size]? = some (.cells #[tv, rv] 27 (0, 0)) := by
    rw [← hwB, Below.heap_alloc _ _ _ (by simp)]; exact heap_alloc_new w _
  have b2 : wB.heap[w.heap.size + 1]? = some (.cells #[tv', rv'] 27 (0, 0)) := by
    have := heap_alloc_new (w.alloc (.cells #[tv, rv] 27)) (.cells #[tv', rv'] 27)
    rw [hwB] at this
    simpa using this
  have HS : Hid (∀ u, Tn No wB u → u.cell? ⟨w.heap.size, 0, none⟩ = some tv ∧ u.cell? ⟨w.heap.size + 1, 0, none⟩ = some tv' ∧ w.heap.size + 1 < u.heap.size ∧ w.heap.size < u.heap.size) := hid (fun u t => by
    have z := t.size
    exact ⟨by rw [t.cell (by omega) (fun e => e)]; simp only [World.cell?, b1]; rfl, by rw [t.cell (by omega) (fun e => e)]; simp only [World.cell?, b2]; rfl, by omega, by omega⟩)
  have HE : Hid (Calls Try.prog 41 #[rv, rv'] wB fun e w' => e = .returned (.bool (decide (rs = rs'))) ∧ (w'.cell? ⟨w.heap.size, 0, none⟩ = some tv ∧ w'.cell? ⟨w.heap.size + 1, 0, none⟩ = some tv' ∧ w.heap.size + 1 < w'.heap.size ∧ w.heap.size < w'.heap.size) ∧ Tn No wB w') := hid ((rrefs_raw rv rv' rs rs' wB (h.roots.no tB) (h'.roots.no tB) h.rlen h'.rlen).mono (fun e w' ⟨he, t⟩ => ⟨he, HS.out _ t, t⟩))
  have HF : Hid (∀ t ∈ ts, ∀ t' ∈ ts', ∀ u, Tn No wB u → Calls Try.prog 41 #[t.rv, t'.rv] u fun e w' => e = .returned (.bool (decide (t.refs = t'.refs))) ∧ Tn No u w') :=
    hid (fun t ht t' ht' u tn => rrefs_raw _ _ _ _ u (((h.each t ht).no (tB.then tn)).refs) (((h'.each t' ht').no (tB.then tn)).refs) (h.each t ht).len (h'.each t' ht').len)
  have HFm : Hid (∀ t ∈ ts, ∃ a c, t.rv = .slice a t.refs.length c) := hid (fun t ht => (h.each t ht).form)
  have HFm' : Hid (∀ t ∈ ts', ∃ a c, t.rv = .slice a t.refs.length c) := hid (fun t ht => (h'.each t ht).form)
  have HTB := hid tB
  have htl := h.tlen
  have htl' := h'.tlen
  obtain ⟨ra, rc, hrv, _⟩ := h.roots
  obtain ⟨ta, tc, htv, hc, hcm, hat⟩ := h.things
  obtain ⟨ra', rc', hrv', _⟩ := h'.roots
  obtain ⟨ta', tc', htv', hc', hcm', hat'⟩ := h'.things
  subst hrv htv hrv' htv'
  obtain ⟨rn, hrn⟩ : ∃ n, rs.length = n := ⟨_, rfl⟩
  obtain ⟨rn', hrn'⟩ : ∃ n, rs'.length = n := ⟨_, rfl⟩
  rw [hrn] at HE ⊢ hwB b1
  rw [hrn'] at HE ⊢ hwB b2
  obtain ⟨q1, hq1⟩ : ∃ q, decide (rs = rs') = q := ⟨_, rfl⟩
  have HQ : Hid (eqG ts ts' rs rs' = (q1 && decide (ts.map Th.pl = ts'.map Th.pl))) := hid (by unfold eqG; rw [hq1])
  rw [hq1] at HE
  rw [HQ.out]
  have HAT := hid hat
  have HAT' := hid hat'
  clear h h' tB hq1 b1 b2 HQ hat hat' hrn hrn'
  subst hwB
  clear sB
  cases q1
  · rw [Bool.false_and]
    go_enter Try.func19, Try.ntmps19
    go_wp2_with (go_at_call 41; refine HE.out.mono ?_; rintro e w2 ⟨rfl, ⟨y0, y1, y2, y3⟩, t2⟩; have HT2 := hid t2; clear t2)
    go_ret
    exact ⟨rfl, HTB.out.then HT2.out⟩
  · rw [Bool.true_and]
    by_cases hlen : ts.length = ts'.length
    · obtain ⟨m, hm⟩ : ∃ m, ts.length = m := ⟨_, rfl⟩
      have HM := hid hm
      have HM' := hid (hlen.symm.trans hm)
      rw [← hlen] at hc' htl' HE HS HTB ⊢
      rw [hm] at hc htl hc' htl' HE HS HTB ⊢
      rw [← hlen, hm] at HF
      clear hm hlen
      go_enter Try.func19, Try.ntmps19
      go_wp2_with (go_at_call 41; refine HE.out.mono ?_; rintro e w2 ⟨rfl, ⟨y0, y1, y2, y3⟩, t2⟩; have HT2 := hid t2; clear t2)
      go_loopw [6] (fun i wr => ∃ k : Nat, k ≤ m ∧ i = .int .i64 (k : Int) ∧ (ts.take k).map Th.pl = (ts'.take k).map Th.pl ∧ Tn No ((w.alloc (.cells #[.slice ta m tc, .slice ra rn rc] 27)).alloc (.cells #[.slice ta' m tc', .slice ra' rn' rc'] 27)) wr) (fun i _ => m - (intOf i).toNat)
      case atStart => exact ⟨0, by omega, rfl, by simp, HT2.out⟩
      case round =>
        obtain ⟨k, hk, rfl, htk, ht⟩ := hrel
        clear HE HT2 y0 y1 y2 y3
        obtain ⟨p0, p1, p2, p3⟩ := HS.out wr ht
        by_cases hlt : k < m
        · have hkl : k < ts.length := by have := HM.out; omega
          have hkl' : k < ts'.length := by have := HM'.out; omega
          obtain ⟨g, o, rfl, hg, hcell⟩ := HAT.out (by omega)
          obtain ⟨g', o', rfl, hg', hcell'⟩ := HAT'.out (by omega)
          obtain ⟨q0, q1, q2, q3⟩ := thing_cells hcell k hkl
          obtain ⟨r0, r1, r2, r3⟩ := thing_cells hcell' k hkl'
          have htw := HTB.out.then ht
          rw [← htw.cell hg (fun e => e)] at q0 q1 q2 q3
          rw [← htw.cell hg' (fun e => e)] at r0 r1 r2 r3
          have HY : Hid (ts[k].pl = ts'[k].pl → (ts.take (k + 1)).map Th.pl = (ts'.take (k + 1)).map Th.pl) := hid (map_take_ext Th.pl hkl hkl' htk)
          have HN : Hid (ts[k].pl ≠ ts'[k].pl → ts.map Th.pl ≠ ts'.map Th.pl) := hid (map_ne_at Th.pl hkl hkl')
          have hce := HF.out _ (List.getElem_mem hkl) _ (List.getElem_mem hkl')
          obtain ⟨xa, xc, hx⟩ := HFm.out _ (List.getElem_mem hkl)
          obtain ⟨xa', xc', hx'⟩ := HFm'.out _ (List.getElem_mem hkl')
          rw [hx] at q3 hce
          rw [hx'] at r3 hce
          have hgl : g < wr.heap.size := Nat.lt_of_lt_of_le hg htw.size
          have hgl' : g' < wr.heap.size := Nat.lt_of_lt_of_le hg' htw.size
          have hki : (k : Int) < (m : Int) := by omega
          obtain ⟨t, htt⟩ : ∃ t, ts[k] = t := ⟨_, rfl⟩
          obtain ⟨t', htt'⟩ : ∃ t, ts'[k] = t := ⟨_, rfl⟩
          rw [htt] at q0 q1 q2 q3 hce HY HN
          rw [htt'] at r0 r1 r2 r3 hce HY HN
          obtain ⟨kind, tag, bytes, rv, refs⟩ := t
          obtain ⟨kind', tag', bytes', rv', refs'⟩ := t'
          dsimp only at q0 q1 q2 q3 r0 r1 r2 r3 hce
          simp only [Th.pl, Pt.mk.injEq, ne_eq] at HY HN
          obtain ⟨b, hb⟩ : ∃ b, decide (refs = refs') = b := ⟨_, rfl⟩
          rw [hb] at hce
          obtain ⟨n1, hn1⟩ : ∃ n, refs.length = n := ⟨_, rfl⟩
          obtain ⟨n2, hn2⟩ : ∃ n, refs'.length = n := ⟨_, rfl⟩
          rw [hn1] at q3 hce
          rw [hn2] at r3 hce
          have HCE : Hid (Calls Try.prog 41 #[.slice xa n1 xc, .slice xa' n2 xc'] ((wr.alloc (.cells #[.int .i64 kind, .int .i64 tag, .string bytes, .slice xa n1 xc] 24)).alloc (.cells #[.int .i64 kind', .int .i64 tag', .string bytes', .slice xa' n2 xc'] 24)) fun e w' => e = .returned (.bool b) ∧ (w'.cell? ⟨wr.heap.size, 0, none⟩ = some (.int .i64 kind) ∧ w'.cell? ⟨wr.heap.size, 1, none⟩ = some (.int .i64 tag) ∧ w'.cell? ⟨wr.heap.size, 2, none⟩ = some (.string bytes) ∧ w'.cell? ⟨wr.heap.size + 1, 0, none⟩ = some (.int .i64 kind') ∧ w'.cell? ⟨wr.heap.size + 1, 1, none⟩ = some (.int .i64 tag') ∧ w'.cell? ⟨wr.heap.size + 1, 2, none⟩ = some (.string bytes') ∧ wr.heap.size < w'.heap.size ∧ wr.heap.size + 1 < w'.heap.size) ∧ Tn No ((w.alloc (.cells #[.slice (some ⟨g, o, none⟩) m tc, .slice ra rn rc] 27)).alloc (.cells #[.slice (some ⟨g', o', none⟩) m tc', .slice ra' rn' rc'] 27)) w') := hid (by
            refine (hce _ ((ht.alloc _).alloc _)).mono ?_
            rintro e w' ⟨he, t9⟩
            have z := t9.size
            simp at z
            have c1 : ((wr.alloc (.cells #[.int .i64 kind, .int .i64 tag, .string bytes, .slice xa n1 xc] 24)).alloc (.cells #[.int .i64 kind', .int .i64 tag', .string bytes', .slice xa' n2 xc'] 24)).heap[wr.heap.size]? = some (.cells #[.int .i64 kind, .int .i64 tag, .string bytes, .slice xa n1 xc] 24 (0, 0)) := by
              rw [Below.heap_alloc _ _ _ (by simp)]; exact heap_alloc_new wr _
            have c2 : ((wr.alloc (.cells #[.int .i64 kind, .int .i64 tag, .string bytes, .slice xa n1 xc] 24)).alloc (.cells #[.int .i64 kind', .int .i64 tag', .string bytes', .slice xa' n2 xc'] 24)).heap[wr.heap.size + 1]? = some (.cells #[.int .i64 kind', .int .i64 tag', .string bytes', .slice xa' n2 xc'] 24 (0, 0)) := by
              have := heap_alloc_new (wr.alloc (.cells #[.int .i64 kind, .int .i64 tag, .string bytes, .slice xa n1 xc] 24)) (.cells #[.int .i64 kind', .int .i64 tag', .string bytes', .slice xa' n2 xc'] 24)
              simpa using this
            refine ⟨he, ⟨?_, ?_, ?_, ?_, ?_, ?_, by omega, by omega⟩, ((ht.alloc _).alloc _).then t9⟩
            all_goals
              rw [t9.cell (by simp <;> omega) (fun e => e)]
              first
                | (simp only [World.cell?, c1]; rfl)
                | (simp only [World.cell?, c2]; rfl))
          have HB := hid hb
          clear hcell hcell' htt htt' hx hx' HAT HAT' HF HFm HFm' HS htk ht hkl hkl' hce htw hn1 hn2 hb
          cases b
          · have HN2 := hid (HN.out (fun e => by have := of_decide_eq_false HB.out; exact this e.2.2.2))
            clear HY HN HB
            go_wp2_with (go_at_call 41; refine HCE.out.mono ?_; rintro e w5 ⟨rfl, ⟨z0, z1, z2, z3, z4, z5, z6, z7⟩, t5⟩; have HT5 := hid t5; clear t5)
            go_ret
            exact ⟨ret_bool (by simp [HN2.out]), HTB.out.then HT5.out⟩
          · by_cases h1 : kind = kind'
            · subst h1
              by_cases h2 : tag = tag'
              · subst h2
                by_cases h3 : bytes = bytes'
                · subst h3
                  have HY2 := hid (HY.out ⟨rfl, rfl, rfl, of_decide_eq_true HB.out⟩)
                  clear HY HN HB
                  go_wp2_with (go_at_call 41; refine HCE.out.mono ?_; rintro e w5 ⟨rfl, ⟨z0, z1, z2, z3, z4, z5, z6, z7⟩, t5⟩; have HT5 := hid t5; clear t5)
                  go_roundw
                  case rel => exact ⟨k + 1, by omega, by go_num, HY2.out, HT5.out⟩
                  case measure => simp [intOf]; omega
                · have HN2 := hid (HN.out (fun e => h3 e.2.2.1))
                  have d3 : (bytes.toList == bytes'.toList) = false := by
                    rw [Bool.eq_false_iff]; intro h; apply h3
                    have := eq_of_beq h
                    rw [bl, bl] at this
                    exact WideShapes.bytes_inj this
                  have d4 : (bytes.toList != bytes'.toList) = true := by simp [bne, d3]
                  clear HY HN HB h3
                  go_wp2_with (go_at_call 41; refine HCE.out.mono ?_; rintro e w5 ⟨rfl, ⟨z0, z1, z2, z3, z4, z5, z6, z7⟩, t5⟩; have HT5 := hid t5; clear t5)
                  go_ret
                  exact ⟨ret_bool (by simp [HN2.out]), HTB.out.then HT5.out⟩
              · have HN2 := hid (HN.out (fun e => h2 e.2.1))
                have d2 : (tag != tag') = true := by simpa using h2
                clear HY HN HB h2
                go_wp2_with (go_at_call 41; refine HCE.out.mono ?_; rintro e w5 ⟨rfl, ⟨z0, z1, z2, z3, z4, z5, z6, z7⟩, t5⟩; have HT5 := hid t5; clear t5)
                go_ret
                exact ⟨ret_bool (by simp [HN2.out]), HTB.out.then HT5.out⟩
            · have HN2 := hid (HN.out (fun e => h1 e.1))
              have d1 : (kind != kind') = true := by simpa using h1
              clear HY HN HB h1
              go_wp2_with (go_at_call 41; refine HCE.out.mono ?_; rintro e w5 ⟨rfl, ⟨z0, z1, z2, z3, z4, z5, z6, z7⟩, t5⟩; have HT5 := hid t5; clear t5)
              go_ret
              exact ⟨ret_bool (by simp [HN2.out]), HTB.out.then HT5.out⟩
        · obtain rfl : k = m := by omega
          have HT := hid htk
          have HTW := hid (HTB.out.then ht)
          clear htk ht
          go_wp2
          go_ret
          have := HT.out
          rw [List.take_of_length_le (by have := HM.out; omega), List.take_of_length_le (by have := HM'.out; omega)] at this
          exact ⟨ret_bool (by simp [this]), HTW.out⟩
    · have hd : ((ts.length : Int) != (ts'.length : Int)) = true := by simp; omega
      have HN : Hid (ts.map Th.pl ≠ ts'.map Th.pl) := hid (fun e => hlen (by have := congrArg List.length e; simpa using this))
      clear hlen
      go_enter Try.func19, Try.ntmps19
      go_wp2_with (go_at_call 41; refine HE.out.mono ?_; rintro e w2 ⟨rfl, ⟨y0, y1, y2, y3⟩, t2⟩; have HT2 := hid t2; clear t2)
      go_ret
      exact ⟨ret_bool (by simp [HN.out]), HTB.out.then HT2.out⟩
end Go.Proofs.Ytlkbnjdhokjfnaa
