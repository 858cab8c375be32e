/-
  The walk of the law WorldKeeps: it answers true.
-/
import Derived.Test.YtkbdgdcicflocaaKept
import Derived.Test.YtkbdgdcicflocaaTells
namespace Go.Proofs.Ytkbdgdcicflocaa
set_option linter.unusedSimpArgs false
set_option linter.unusedVariables false
open Go.RowKit
attribute [local go_sem ↓] Go.wp_at_zero Go.wp_at_succ

/-- the bytes of the first texts, one after another -/
def cat (ts : List ByteArray) (k : Nat) : List UInt8 := (ts.take k).flatMap (fun s => s.data.toList)
theorem cat_succ (ts : List ByteArray) (k : Nat) (h : k < ts.length) : cat ts (k + 1) = cat ts k ++ (ts[k]'h).data.toList := by
  unfold cat
  rw [List.take_succ_eq_append_getElem h, List.flatMap_append]
  simp
theorem cat_le (ts : List ByteArray) (k : Nat) : (cat ts k).length ≤ tot ts k := by
  unfold cat tot
  induction ts.take k with
  | nil => simp
  | cons s r ih => simp only [List.flatMap_cons, List.length_append, List.map_cons, List.sum_cons]; have : s.data.toList.length = s.size := by simp
                   omega
def elseB : ByteArray := ⟨#[101, 108, 115, 101]⟩
theorem Own.base {w u u' : World} {p N : Nat} {S : St} (h : Own u u' p N S) (t : Tn No w u) : Own w u' p N S := by
  obtain ⟨L, hp, t', hl⟩ := h
  exact ⟨L, hp, t.then t', fun k hk => Nat.le_trans t.size (hl k hk)⟩
theorem keeps_new (ot : ByteArray) (hot : ot.size ≤ 1048576) (w u : World) (g cn : Nat) (t : Tn No w u) (hg : g < u.heap.size) (c0 : u.cell? ⟨g, 0, none⟩ = some (.string ot)) (c1 : u.cell? ⟨g, 1, none⟩ = some (.string elseB)) : Calls Try.prog 9 #[.agg #[.string ⟨#[]⟩, .slice (some ⟨g, 0, none⟩) 1 cn]] u fun e u' => ∃ p, e = .returned (.pointer (some ⟨p, 0, none⟩)) ∧ Own w u' p 5 (initSt (filesOf [(ot, elseB)]) ⟨#[]⟩) :=
  (new_raw ⟨#[]⟩ _ 1 cn 4 [(ot, elseB)] u (by unfold maxLen; decide) ⟨rfl, fun _ => ⟨g, 0, rfl, hg, fun j hj => by
      simp at hj
      subst hj
      exact ⟨c0, c1⟩⟩, fun j hj => by
      simp at hj
      subst hj
      exact ⟨by unfold maxLen; simp; omega, by show elseB.size ≤ 4; decide⟩⟩ (by omega) (by omega)).mono (fun e u' ⟨p, h1, h2⟩ => ⟨p, h1, h2.base t⟩)

set_option maxHeartbeats 8000000 in
set_option maxRecDepth 100000 in
theorem keeps_not (nm ot : ByteArray) (a b : Option Addr) (n cn m cm : Nat) (w : World) (hnm : nm.size ≤ 1048576) (hot : ot.size ≤ 1048576) (hok : okName nm = false) :
    Calls Try.prog 6 #[.string nm, .string ot, .slice a n cn, .slice b m cm] w fun e w' => e = .returned (.bool true) ∧ Tn No w w' := by
  have HN := hid (keeps_new ot hot w)
  have HK := hid known_raw
  obtain ⟨q1, q2, q3⟩ := k_not (filesOf [(ot, elseB)]) nm hok
  have hop : ∀ u' p, Own w u' p 5 (initSt (filesOf [(ot, elseB)]) ⟨#[]⟩) → ∀ u'', Tn No u' u'' → Calls Try.prog 21 #[.pointer (some ⟨p, 0, none⟩), .string nm, .int .i64 577] u'' fun e u3 => ∃ r, e = .returned (.int .i64 r) ∧ r < 0 ∧ Own w u3 p 7 (initSt (filesOf [(ot, elseB)]) ⟨#[]⟩) := fun u' p h u'' t =>
    (own_open (h.no t) nm 577 (by unfold maxLen; omega) (by omega)).mono (fun e u3 ⟨h1, h2⟩ => ⟨_, h1, q1, by rw [q2] at h2; exact h2⟩)
  have HOP := hid hop
  have hrf : ∀ u' p, Own w u' p 7 (initSt (filesOf [(ot, elseB)]) ⟨#[]⟩) → Calls Try.prog 22 #[.pointer (some ⟨p, 0, none⟩), .string nm] u' fun e u3 => ∃ x, e = .returned (.tuple #[.string x, .bool false]) ∧ Tn No w u3 := fun u' p h =>
    (own_rfile h nm (by unfold maxLen; omega) (by omega)).mono (fun e u3 ⟨h1, h2⟩ => ⟨str (rfTx (initSt (filesOf [(ot, elseB)]) ⟨#[]⟩) nm), by rw [h1, q3], h2.tn⟩)
  have HRF := hid hrf
  clear hop hrf q1 q2 q3 hok
  go_enter Try.func6, Try.ntmps6
  go_wp2_with (first
    | (go_at_call 9; refine (HN.out _ _ _ (by repeat (first | exact Tn.refl _ _ | apply Tn.drew | apply Tn.drewN | apply Tn.alloc | (refine Tn.then ?_ (by assumption)) | (refine Tn.thenNo ?_ (by assumption)))) (by simp) (by simp [World.cell?_alloc_new]) (by simp [World.cell?_alloc_new]; rfl)).mono ?_; rintro e w1 ⟨p, rfl, h1⟩)
    | (go_at_call 11; refine (HK.out _).mono ?_; rintro e w2 ⟨rfl, t2⟩)
    | (go_at_call 21; refine (HOP.out _ _ h1 _ (by repeat (first | exact Tn.refl _ _ | apply Tn.drew | apply Tn.drewN | apply Tn.alloc | (refine Tn.then ?_ (by assumption)) | (refine Tn.thenNo ?_ (by assumption))))).mono ?_; rintro e w3 ⟨r, rfl, hr, h3⟩)
    | (go_at_call 22; refine (HRF.out _ _ h3).mono ?_; rintro e w4 ⟨x, rfl, t4⟩))
  go_ret
  exact ⟨rfl, t4⟩

/-- the calls of the law, one after another, on a name that may be -/
structure KeepsCalls (w : World) (nm ot : ByteArray) (F : List UInt8 → Option (List UInt8)) (B : Nat) : Prop where
  opW : ∀ u' p, Own w u' p 5 (initSt F ⟨#[]⟩) → ∀ u'', Tn No u' u'' → Calls Try.prog 21 #[.pointer (some ⟨p, 0, none⟩), .string nm, .int .i64 577] u'' fun e u3 => e = .returned (.int .i64 3) ∧ Own w u3 p 7 (kst F nm [] ⟨5, nm, 0⟩)
  wr : ∀ u p N l (s : ByteArray), Own w u p N (kst F nm l ⟨5, nm, l.length⟩) → N + N + 2 * s.size + 2 ≤ 1099511627776 → Calls Try.prog 18 #[.pointer (some ⟨p, 0, none⟩), .int .i64 3, .string s] u fun e u' => e = .returned (.int .i64 (s.size : Int)) ∧ Own w u' p (N + 2 * s.size + 2) (kst F nm (l ++ s.data.toList) ⟨5, nm, (l ++ s.data.toList).length⟩)
  cl : ∀ u p N l pl, Own w u p N (kst F nm l ⟨5, nm, pl⟩) → Calls Try.prog 23 #[.pointer (some ⟨p, 0, none⟩), .int .i64 3] u fun e u' => e = .returned (.int .i64 0) ∧ Own w u' p N (kst F nm l noDe)
  rf : ∀ u p N l, Own w u p N (kst F nm l noDe) → N ≤ B → Calls Try.prog 22 #[.pointer (some ⟨p, 0, none⟩), .string nm] u fun e u' => e = .returned (.tuple #[.string (str l), .bool true]) ∧ Own w u' p (N + 2) (kst F nm l noDe)
  opR : ∀ u p N l, Own w u p N (kst F nm l noDe) → N ≤ B → Calls Try.prog 21 #[.pointer (some ⟨p, 0, none⟩), .string nm, .int .i64 0] u fun e u' => e = .returned (.int .i64 3) ∧ Own w u' p (N + 2) (kst F nm l ⟨4, nm, 0⟩)
  rd : ∀ u p N l pl (n : Nat), Own w u p N (kst F nm l ⟨4, nm, pl⟩) → N ≤ B → n ≤ 18446744073709551615 → Calls Try.prog 24 #[.pointer (some ⟨p, 0, none⟩), .int .i64 3, .int .u64 (n : Int)] u fun e u' => e = .returned (.tuple #[.string (str (nx l pl n)), .int .i64 ((nx l pl n).length : Int)]) ∧ Own w u' p N (kst F nm l ⟨4, nm, pl + (nx l pl n).length⟩)
  tr : ∀ u p N l d, Own w u p N (kst F nm l d) → N ≤ B → Calls Try.prog 19 #[.pointer (some ⟨p, 0, none⟩)] u fun e u' => ∃ v, e = .returned v ∧ TV u' v [⟨3, nm, l⟩] ∧ Tn No u u'

theorem keeps_calls (w : World) (nm ot : ByteArray) (F : List UInt8 → Option (List UInt8)) (hok : okName nm = true) (hnm : nm.size ≤ 1048576) : KeepsCalls w nm ot F 500000000000 where
  opW := fun u' p h u'' t => by
    obtain ⟨h1, h2⟩ := k_open F nm hok
    have := own_open (h.no t) nm 577 (by unfold maxLen; omega) (by omega)
    rw [h1, h2] at this
    exact this
  wr := fun u p N l s h hN => by
    obtain ⟨h1, h2⟩ := k_write F nm l s
    have := own_write h (wf_kst _ _ _ _) 3 s (by omega) (by omega) hN
    rw [h1, h2] at this
    exact this
  cl := fun u p N l pl h => by
    obtain ⟨h1, h2⟩ := k_close F nm l ⟨5, nm, pl⟩ (by simp)
    have := own_close h 3 (by omega) (by omega)
    rw [h1, h2] at this
    exact this
  rf := fun u p N l h hN => by
    obtain ⟨h1, h2, h3⟩ := k_rfile F nm l hok
    have := own_rfile h nm (by unfold maxLen; omega) (by omega)
    rw [h1, h2, h3] at this
    exact this
  opR := fun u p N l h hN => by
    obtain ⟨h1, h2⟩ := k_openR F nm l hok
    have := own_open h nm 0 (by unfold maxLen; omega) (by omega)
    rw [h1, h2] at this
    exact this
  rd := fun u p N l pl n h hN hn => by
    obtain ⟨h1, h2, h3⟩ := k_read F nm l pl n
    have := own_read h 3 n (by omega) (by omega) (by omega) hn
    rw [h1, h2, h3] at this
    exact this
  tr := fun u p N l d h hN => own_trace h (by omega)

set_option maxHeartbeats 8000000 in
set_option maxRecDepth 100000 in
theorem keeps_ok (nm ot : ByteArray) (a b : Option Addr) (n cn m cm : Nat) (ts : List ByteArray) (zs : List Nat) (w : World) (hnm : nm.size ≤ 1048576) (hot : ot.size ≤ 1048576) (hok : okName nm = true) (hn : ts.length = n) (hm : zs.length = m) (hb : tot ts n ≤ 8388608) (hn2 : n ≤ 1048576) (hm2 : m ≤ 1048576)
    (ha : 0 < n → ∃ g off, a = some ⟨g, off, none⟩ ∧ g < w.heap.size ∧ ∀ j (hj : j < ts.length), w.cell? ⟨g, off + j, none⟩ = some (.string ts[j])) (hbb : 0 < m → ∃ g off, b = some ⟨g, off, none⟩ ∧ g < w.heap.size ∧ ∀ j (hj : j < zs.length), w.cell? ⟨g, off + j, none⟩ = some (.int .u64 (zs[j] : Int)) ∧ zs[j] ≤ 18446744073709551615) :
    Calls Try.prog 6 #[.string nm, .string ot, .slice a n cn, .slice b m cm] w fun e w' => e = .returned (.bool true) ∧ Tn No w w' := by
  have HN := hid (keeps_new ot hot w)
  have HK := hid known_raw
  have HC := hid (keeps_calls w nm ot (filesOf [(ot, elseB)]) hok hnm)
  generalize filesOf [(ot, elseB)] = F at *
  have HA := hid ha
  have HB := hid hbb
  have HTN := hid hn
  have HTM := hid hm
  have HBD := hid hb
  clear ha hbb hn hm hb hok hnm hot
  go_enter Try.func6, Try.ntmps6
  go_wp2_with (first
    | (go_at_call 9; refine (HN.out _ _ _ (by repeat (first | exact Tn.refl _ _ | apply Tn.drew | apply Tn.drewN | apply Tn.alloc | (refine Tn.then ?_ (by assumption)) | (refine Tn.thenNo ?_ (by assumption)))) (by simp) (by simp [World.cell?_alloc_new]) (by simp [World.cell?_alloc_new]; rfl)).mono ?_; rintro e w1 ⟨p, rfl, h1⟩)
    | (go_at_call 11; refine (HK.out _).mono ?_; rintro e w2 ⟨rfl, t2⟩)
    | (go_at_call 21; refine (HC.out.opW _ _ h1 _ (by repeat (first | exact Tn.refl _ _ | apply Tn.drew | apply Tn.drewN | apply Tn.alloc | (refine Tn.then ?_ (by assumption)) | (refine Tn.thenNo ?_ (by assumption))))).mono ?_; rintro e w3 ⟨rfl, h3⟩))
  have H3 := hid h3
  clear h1 t2 h3
  go_loopw [13, 14] (fun o i u => ∃ k : Nat, k ≤ n ∧ i = .int .i64 (k : Int) ∧ o = .string (str (cat ts k)) ∧ Hid (Own w u p (7 + tot ts k) (kst F nm (cat ts k) ⟨5, nm, (cat ts k).length⟩))) (fun _ i _ => n - (intOf i).toNat)
  case atStart => exact ⟨0, by omega, rfl, by simp [cat, str], H3.out⟩
  case round =>
    obtain ⟨k, hk, rfl, rfl, HO⟩ := hrel
    clear H3
    by_cases hlt : k < n
    · have hkt : k < ts.length := by rw [HTN.out]; exact hlt
      obtain ⟨g, off, hga, hgl, hgc⟩ := HA.out (by omega)
      have t0 := HO.out.tn
      have qk : wr.cell? ⟨g, off + k, none⟩ = some (.string (ts[k]'hkt)) := (t0.cell hgl (fun e => e)).trans (hgc k hkt)
      obtain ⟨s, hs⟩ : ∃ s, ts[k]'hkt = s := ⟨_, rfl⟩
      have htot := tot_succ ts k hkt
      have hcat := cat_succ ts k hkt
      have htl := tot_le ts (k + 1)
      rw [HTN.out] at htl
      have hbd := HBD.out
      rw [hs] at qk htot hcat
      have hs63 : s.size ≤ 8388608 := by omega
      have hwr := HC.out.wr _ _ _ _ s HO.out (by omega)
      have e1 : 7 + tot ts k + 2 * s.size + 2 = 7 + tot ts (k + 1) := by omega
      rw [← hcat, e1] at hwr
      have d1 : (str (cat ts k)).size ≤ 8388608 := by rw [str_size]; have := cat_le ts k; omega
      have c1 : str (cat ts k) ++ s = str (cat ts (k + 1)) := by rw [hcat, ← str_append]; rfl
      have HW := hid hwr
      have HC1 := hid c1
      have hgw : g < wr.heap.size := Nat.lt_of_lt_of_le hgl t0.size
      have hki : (k : Int) < (n : Int) := by omega
      have HGC : Hid (w.cell? ⟨g, off + k, none⟩ = some (.string s)) := by rw [← hs]; exact hgc k hkt
      obtain ⟨x0, hx0⟩ : ∃ x, str (cat ts k) = x := ⟨_, rfl⟩
      rw [hx0] at d1 HC1 ⊢
      subst hga
      clear hwr c1 hcat htot htl hbd hs t0 hgc hx0 e1
      go_wp2_with (first
        | (go_at_call 18; refine HW.out.mono ?_; rintro e w3 ⟨rfl, h3⟩; have q3 := (Tn.cell (o := off + k) (h3.tn) hgl (fun e => e)).trans (HGC.out)))
      go_roundw
      case rel => exact ⟨k + 1, by omega, by go_num, by rw [HC1.out], h3⟩
      case measure => simp [intOf]; omega
    · obtain rfl : k = n := by omega
      have hbd := HBD.out
      have hcl := cat_le ts k
      obtain ⟨l, hl⟩ : ∃ l, cat ts k = l := ⟨_, rfl⟩
      rw [hl] at HO hcl ⊢
      obtain ⟨T, hT⟩ : ∃ T, tot ts k = T := ⟨_, rfl⟩
      rw [hT] at HO hcl hbd
      have hll : l.length ≤ 8388608 := by omega
      have HTT := hid hbd
      have HLL := hid hll
      have d0 : (str l).size ≤ 8388608 := by rw [str_size]; exact hll
      clear hl hT hcl hll hbd HA HTN HBD
      have hclo := HC.out.cl _ _ _ _ _ HO.out
      have HCL := hid hclo
      have hrf : ∀ u, Own w u p (7 + T) (kst F nm l noDe) → _ := fun u h => HC.out.rf u p _ l h (by have := HTT.out; omega)
      have HRF := hid hrf
      have hopr : ∀ u, Own w u p (7 + T + 2) (kst F nm l noDe) → _ := fun u h => HC.out.opR u p _ l h (by have := HTT.out; omega)
      have HOPR := hid hopr
      have htr : ∀ u d, Own w u p (7 + T + 2 + 2) (kst F nm l d) → _ := fun u d h => HC.out.tr u p _ l d h (by have := HTT.out; omega)
      have HTR := hid htr
      clear hclo hrf hopr htr
      go_wp2_with (first
        | (go_at_call 23; refine HCL.out.mono ?_; rintro e w3 ⟨rfl, h3⟩)
        | (go_at_call 22; refine (HRF.out _ h3).mono ?_; rintro e w4 ⟨rfl, h4⟩)
        | (go_at_call 21; refine (HOPR.out _ h4).mono ?_; rintro e w5 ⟨rfl, h5⟩)
        | (go_at_call 19; refine (HTR.out _ _ h5).mono ?_; rintro e w6 ⟨v, rfl, h6, t6⟩; obtain ⟨ax, capx, hvx, _⟩ := h6.rw.form; have hvx : v = .slice ax 1 capx := hvx; subst hvx))
      have H5 := hid (h5.no t6)
      have hrd : ∀ u pl (z : Nat), Own w u p (7 + T + 2 + 2) (kst F nm l ⟨4, nm, pl⟩) → z ≤ 18446744073709551615 → _ := fun u pl z h hz => HC.out.rd u p _ l pl z h (by have := HTT.out; omega) hz
      have HRD := hid hrd
      clear h3 h4 h5 h6 t6 hrd HRF HCL HOPR HO HC HN HK
      go_loopw [21, 22] (fun o i u => ∃ k pl : Nat, k ≤ m ∧ pl ≤ l.length ∧ i = .int .i64 (k : Int) ∧ o = .string (str (l.take pl)) ∧ Hid (Own w u p (7 + T + 2 + 2) (kst F nm l ⟨4, nm, pl⟩))) (fun _ i _ => m - (intOf i).toNat)
      case atStart => exact ⟨0, 0, by omega, by omega, rfl, by simp [str], H5⟩
      case round =>
        obtain ⟨k2, pl, hk2, hpl, rfl, rfl, HO⟩ := hrel
        clear H5
        obtain ⟨x0, hx0⟩ : ∃ x, str (l.take pl) = x := ⟨_, rfl⟩
        have d1 : x0.size ≤ 8388608 := by rw [← hx0, str_size]; have := HLL.out; simp; omega
        have HX0 := hid hx0
        rw [hx0]
        by_cases hlt : k2 < m
        · have hkt : k2 < zs.length := by rw [HTM.out]; exact hlt
          obtain ⟨g, off, hga, hgl, hgc⟩ := HB.out (by omega)
          have t0 := HO.out.tn
          obtain ⟨cz, hz⟩ := hgc k2 hkt
          obtain ⟨z, hze⟩ : ∃ z, zs[k2]'hkt = z := ⟨_, rfl⟩
          rw [hze] at cz hz
          have qk : wr.cell? ⟨g, off + k2, none⟩ = some (.int .u64 (z : Int)) := (t0.cell hgl (fun e => e)).trans cz
          have hrd := HRD.out _ _ z HO.out hz
          obtain ⟨n1, n2, n3⟩ := nx_take l pl z hpl
          obtain ⟨st, hst⟩ : ∃ st, str (nx l pl z) = st := ⟨_, rfl⟩
          have hsz : (nx l pl z).length = st.size := by rw [← hst, str_size]
          rw [hst, hsz] at hrd
          rw [hsz] at n1 n2 n3
          have c1 : x0 ++ st = str (l.take (pl + st.size)) := by rw [← hx0]; have h := str_append (l.take pl) (nx l pl z); rw [hst, n1] at h; exact h
          have hs8 : st.size ≤ 8388608 := by have := HLL.out; omega
          have hzi : (st.size : Int) ≤ (z : Int) := by omega
          have HR := hid hrd
          have HC1 := hid c1
          have HN2 := hid n2
          have HCZ := hid cz
          have hgw : g < wr.heap.size := Nat.lt_of_lt_of_le hgl t0.size
          have hki : (k2 : Int) < (m : Int) := by omega
          subst hga
          clear hrd c1 n1 n2 n3 hst hsz cz hgc t0 hze hx0 HTR
          go_wp2_with (first
            | (go_at_call 24; refine HR.out.mono ?_; rintro e w7 ⟨rfl, h7⟩; have q7 := (Tn.cell (o := off + k2) (h7.tn) hgl (fun e => e)).trans (HCZ.out)))
          go_roundw
          case rel => exact ⟨k2 + 1, pl + st.size, by omega, HN2.out, by go_num, by rw [HC1.out], h7⟩
          case measure => simp [intOf]; omega
        · obtain rfl : k2 = m := by omega
          have hrd := HRD.out _ _ 9223372036854775808 HO.out (by omega)
          obtain ⟨st, hst⟩ : ∃ st, str (nx l pl 9223372036854775808) = st := ⟨_, rfl⟩
          have hsz : (nx l pl 9223372036854775808).length = st.size := by rw [← hst, str_size]
          have hs8 : st.size ≤ 8388608 := by have := HLL.out; have := nx_take l pl 9223372036854775808 hpl; omega
          rw [hst, hsz] at hrd
          have hrd : Calls Try.prog 24 #[.pointer (some ⟨p, 0, none⟩), .int .i64 3, .int .u64 9223372036854775808] wr fun e u' => e = .returned (.tuple #[.string st, .int .i64 (st.size : Int)]) ∧ Own w u' p (7 + T + 2 + 2) (kst F nm l ⟨4, nm, pl + st.size⟩) := hrd
          have c1 : x0 ++ st = str l := by rw [← hx0, ← hst, str_append, nx_all l pl _ hpl (by have := HLL.out; omega)]
          have HR := hid hrd
          have hdec : ((x0 ++ st).toList == (str l).toList) = true := by rw [c1]; exact beq_self_eq_true _
          clear hrd c1 hst hsz hx0 HB HRD HTM
          go_wp2_with (first
            | (go_at_call 24; refine HR.out.mono ?_; rintro e w7 ⟨rfl, h7⟩)
            | (go_at_call 19; refine (HTR.out _ _ h7).mono ?_; rintro e w8 ⟨v, rfl, h8, t8⟩; obtain ⟨ay, capy, hvy, _⟩ := h8.rw.form; have hvy : v = .slice ay 1 capy := hvy; subst hvy; have HT := hid (told_raw _ _ 3 _ h8 (by have := HLL.out; simp; omega) (by simp)); rw [k_told] at HT; have T8 := hid (h7.tn.then t8))
            | (go_at_call 20; refine HT.out.mono ?_; rintro e w9 ⟨rfl, rfl⟩))
          go_ret
          exact ⟨rfl, T8.out⟩
end Go.Proofs.Ytkbdgdcicflocaa
