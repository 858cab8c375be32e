/-
  heap: the bytes of things.
-/
import Derived.Test.YtlkbnjdhokjfnaaHWords
namespace Go.Proofs.Ytlkbnjdhokjfnaa
set_option linter.unusedSimpArgs false
set_option linter.unusedVariables false
open Go.RowKit
attribute [local go_sem ↓] Go.wp_at_zero Go.wp_at_succ

def refsB (ps : List Int) (l : List Rf) : List UInt8 := l.flatMap (fun r => Hp.le 8 (wordR ps r).toNat)
def cloB (kind tag : Int) : List UInt8 := if kind = 8 then Hp.le 8 (4194304 + 16 * tag.toNat) else []
/-- a thing's bytes -/
def bytesR (ps : List Int) (t : Th) : List UInt8 := Hp.le 8 (headR t.kind t.tag t.bytes t.refs.length) ++ t.bytes.data.toList ++ Hp.pad t.bytes.size ++ cloB t.kind t.tag ++ refsB ps t.refs
def layR (ps : List Int) (ts : List Th) : List UInt8 := ts.flatMap (bytesR ps)

theorem refsB_length (ps : List Int) (l : List Rf) : (refsB ps l).length = 8 * l.length := by
  induction l with
  | nil => rfl
  | cons r l ih =>
    simp only [refsB, List.flatMap_cons, List.length_append, Hp.le_length, List.length_cons] at ih ⊢
    omega
theorem refsB_succ (ps : List Int) {l : List Rf} {k : Nat} (hk : k < l.length) : refsB ps (l.take (k + 1)) = refsB ps (l.take k) ++ Hp.le 8 (wordR ps l[k]).toNat := by
  rw [List.take_add_one, List.getElem?_eq_getElem hk]
  simp only [refsB, List.flatMap_append, Option.toList, List.flatMap_cons, List.flatMap_nil, List.append_nil]
theorem bytesR_length (ps : List Int) (t : Th) : (bytesR ps t).length = t.size := by
  have e : t.bytes.data.toList.length = t.bytes.size := by simp
  simp only [bytesR, List.length_append, Hp.le_length, refsB_length, Hp.pad, List.length_replicate, e, cloB, Th.size, sizeR]
  split <;> simp only [Hp.le_length, List.length_nil] <;> omega
theorem layR_length (ps : List Int) (ts : List Th) : (layR ps ts).length = totR ts := by
  induction ts with
  | nil => rfl
  | cons t l ih =>
    simp only [layR, List.flatMap_cons, List.length_append, bytesR_length, totR, List.map_cons, List.sum_cons] at ih ⊢
    omega
theorem layR_succ (ps : List Int) {ts : List Th} {k : Nat} (hk : k < ts.length) : layR ps (ts.take (k + 1)) = layR ps (ts.take k) ++ bytesR ps ts[k] := by
  rw [List.take_add_one, List.getElem?_eq_getElem hk]
  simp only [layR, List.flatMap_append, Option.toList, List.flatMap_cons, List.flatMap_nil, List.append_nil]
theorem tot8 (ts : List Th) : totR ts % 8 = 0 := by
  induction ts with
  | nil => rfl
  | cons t l ih =>
    simp only [totR, List.map_cons, List.sum_cons, Th.size, sizeR] at ih ⊢
    omega

def sliceLen : Value → Nat
  | .slice _ n _ => n
  | _ => 0
theorem header_t {t : Th} {w0 : World} (h : TA w0 t) (hm : mayT t = true) (w : World) : Calls Try.prog 34 #[t.val] w fun e w' => e = .returned (.int .u64 (headR t.kind t.tag t.bytes t.refs.length : Int)) ∧ Tn No w w' := by
  obtain ⟨a, c, e⟩ := h.form
  unfold Th.val
  rw [e]
  exact header_raw t.kind t.tag t.bytes a t.refs.length c w h.bytes h.len hm
theorem Lp.begin {w wr : World} {v : Value} {L : List UInt8} (h : Mk 1 eB w v L wr) (C : Array Value) (T : TypeId) : Lp w wr.heap.size C v L (wr.alloc (.cells C T)) := by
  refine ⟨h.no ((Tn.refl No wr).alloc _), fun j => World.cell?_alloc_new .., by simp, fun g hg e => ?_⟩
  have := h.lr.rw.lt g hg
  omega
theorem Lp.form {w : World} {b : Nat} {C : Array Value} {v : Value} {L : List UInt8} {wr : World} (h : Lp w b C v L wr) : ∃ a c, v = .slice a L.length c := by
  obtain ⟨a, c, e, _⟩ := h.mkd.lr.rw.form
  exact ⟨a, c, e⟩

set_option maxHeartbeats 8000000 in
set_option maxRecDepth 100000 in
theorem laid_raw (tv pv : Value) (ts : List Th) (ps : List Int) (tot : Nat) (w : World) (h : TL w tv ts) (hp : LD 1 eU w pv ps) (hm0 : ts.all mayT = true) (hr : ∀ t ∈ ts, ∀ r ∈ t.refs, r.1 = 2 → 0 ≤ r.2 ∧ r.2 < ps.length) (hpos : ∀ p ∈ ps, 0 ≤ p) (htot : totR ts ≤ 2147483647) (htt : tot = totR ts) :
    Calls Try.prog 47 #[tv, pv, .int .i64 (tot : Int)] w fun e w' => ∃ v, e = .returned v ∧ Mk 1 eB w v (layR ps ts) w' := by
  obtain ⟨m, hm⟩ : ∃ m, ts.length = m := ⟨_, rfl⟩
  have htl := h.tlen
  rw [hm] at htl
  have HRM := hid (fun u => room_b tot (by omega) u)
  have hwp : ∀ r, 0 ≤ wordR ps r := fun r => by
    unfold wordR
    split
    · cases e : ps[r.2.toNat]? with
      | none => simp
      | some x => exact hpos x (List.mem_of_getElem? e)
    · omega
  have HW : Hid (∀ t ∈ ts, ∀ r ∈ t.refs, ∀ u, Tn No w u → Calls Try.prog 66 #[.agg #[.int .i64 r.1, .int .i64 r.2], pv] u fun e w' => e = .returned (.int .u64 (wordR ps r)) ∧ Tn No u w') := hid (fun t ht r hr' u tn => word_raw r pv ps u (hp.no tn) (hr t ht r hr'))
  have HTA := hid h.each
  have HH : Hid (∀ t ∈ ts, ∀ u, Calls Try.prog 34 #[t.val] u fun e w' => e = .returned (.int .u64 (headR t.kind t.tag t.bytes t.refs.length : Int)) ∧ Tn No u w') := hid (fun t ht u => header_t (h.each t ht) (List.all_eq_true.1 hm0 t ht) u)
  have HMB : Hid (∀ t ∈ ts, t.kind = 8 → 0 ≤ t.tag ∧ t.tag < 4194304 ∧ t.bytes.size = 0) := hid (fun t ht e8 => by
    have h1 := (may_bounds (List.all_eq_true.1 hm0 t ht)).2.1
    have h2 := (may_bounds (List.all_eq_true.1 hm0 t ht)).2.2.2 (by rw [e8]; rfl)
    exact ⟨h1.1, h1.2.2, by rw [h2]; rfl⟩)
  obtain ⟨a, c, htv, hc, hcm, hat⟩ := h.things
  rw [hm] at htv
  rw [htv]
  have HAT := hid hat
  have HM := hid hm
  have HTOT := hid htot
  have HWP := hid hwp
  obtain ⟨pa, pc, hpv, hpp⟩ := hp
  rw [hpv] at HW ⊢
  clear hat hm htv hr hpp hpv hwp hm0 htot hpos h htt
  generalize ps.length = pn at *
  have htot2 : (tot : Int) ≤ 9223372036854775807 ∨ True := .inr trivial
  clear htot2
  go_enter Try.func47, Try.ntmps47
  go_wp2_with (go_at_call 64; refine (HRM.out _).mono ?_; rintro e w1 ⟨v1, rfl, l1, t1, o1⟩; have HMK : Hid (Mk 1 eB w v1 [] w1) := hid ⟨l1, t1, o1⟩; clear l1 t1 o1)
  go_loopw [7, 16] (fun v i wr => ∃ k : Nat, k ≤ m ∧ i = .int .i64 (k : Int) ∧ Mk 1 eB w v (layR ps (ts.take k)) wr) (fun _ i _ => m - (intOf i).toNat)
  case atStart => exact ⟨0, by omega, rfl, HMK.out⟩
  case round =>
    obtain ⟨k, hk, rfl, hmk⟩ := hrel
    obtain ⟨wo, hwo⟩ : ∃ wo, wo = wr := ⟨_, rfl⟩
    subst hwo
    clear HMK HRM
    by_cases hlt : k < m
    · have hkl : k < ts.length := by have := HM.out; omega
      obtain ⟨g, o, rfl, hg, hcell⟩ := HAT.out (by omega)
      obtain ⟨q0, q1, q2, q3⟩ := thing_cells hcell k hkl
      rw [← hmk.tn.cell hg (fun e => e)] at q0 q1 q2 q3
      have hmem : ts[k] ∈ ts := List.getElem_mem hkl
      have hta := HTA.out _ hmem
      have hh := HH.out _ hmem
      have hw2 := HW.out _ hmem
      have hmb := HMB.out _ hmem
      have HLS := hid (layR_succ ps hkl)
      have htu := totR_succ hkl
      have htl2 := totR_le (ts := ts) (k + 1)
      have htl3 := HTOT.out
      have hlen0 := layR_length ps (ts.take k)
      have hl8 := tot8 (ts.take k)
      obtain ⟨xa, xc, hx, hxc, hxcm, hxat⟩ := hta.refs
      have hbs := hta.bytes
      have hrl := hta.len
      unfold Th.val at hh
      rw [hx] at q3 hh
      obtain ⟨th, hth⟩ : ∃ th, ts[k] = th := ⟨_, rfl⟩
      rw [hth] at q0 q1 q2 q3 hh hw2 hmb HLS htu hbs hrl hxc hxat
      have HBR : Hid (bytesR ps th = Hp.le 8 (headR th.kind th.tag th.bytes th.refs.length) ++ th.bytes.data.toList ++ Hp.pad th.bytes.size ++ cloB th.kind th.tag ++ refsB ps th.refs) := hid rfl
      obtain ⟨kind, tag, bytes, rv', refs⟩ := th
      simp only [Th.size, sizeR] at q0 q1 q2 q3 hh hw2 hmb htu hbs hrl hxc hxat HBR
      obtain ⟨L, hL⟩ : ∃ L, layR ps (ts.take k) = L := ⟨_, rfl⟩
      rw [hL] at hmk HLS hlen0
      obtain ⟨rm, hrm⟩ : ∃ rm, refs.length = rm := ⟨_, rfl⟩
      rw [hrm] at q3 hh htu hrl hxc HBR
      have HRMM := hid hrm
      obtain ⟨H, hH⟩ : ∃ H, headR kind tag bytes rm = H := ⟨_, rfl⟩
      rw [hH] at hh HBR
      have HXAT := hid hxat
      have HB := hid (Lp.begin hmk #[.int .i64 kind, .int .i64 tag, .string bytes, .slice xa rm xc] 24)
      have eb : bytes.data.toList.length = bytes.size := by simp
      have hTnW := hid hmk.tn
      have HC := hid hh
      have HW2 := hid hw2
      have hki : (k : Int) < (m : Int) := by omega
      have hLb : L.length + bytes.size + 8 * rm + 32 ≤ 2147483680 ∧ L.length % 8 = 0 := by
        have e2 : bytes.size ≤ 8 * ((bytes.size + 7) / 8) := by omega
        split at htu <;> omega
      obtain ⟨hLb1, hLb2⟩ := hLb
      have zr : wo.heap.size < (wo.alloc (.cells #[.int .i64 kind, .int .i64 tag, .string bytes, .slice xa rm xc] 24)).heap.size := by simp
      clear hxat hcell hh hw2 hmem hta hL hrm hH hx hth hkl htu htl2 htl3 hlen0 hl8 hmk HAT HTA HH HW HMB HTOT
      obtain ⟨P, hP⟩ : ∃ P, 8 * ((bytes.size + 7) / 8) - bytes.size = P := ⟨_, rfl⟩
      have hP2 : (bytes.size + P) % 8 = 0 ∧ P < 8 := by omega
      have HPAD : Hid (Hp.pad bytes.size = List.replicate P 0) := hid (by rw [Hp.pad, hP])
      obtain ⟨X, hX⟩ : ∃ X, L ++ Hp.le 8 H ++ bytes.data.toList = X := ⟨_, rfl⟩
      have hXl : X.length = L.length + 8 + bytes.size := by rw [← hX]; simp [Hp.le_length]; omega
      have HX := hid hX
      clear hX hP
      by_cases h8 : kind = 8
      · obtain ⟨h0, h1, hb0⟩ := hmb h8
        have hP0 : P = 0 := by omega
        obtain ⟨T, rfl⟩ : ∃ T : Nat, tag = (T : Int) := ⟨tag.toNat, by omega⟩
        have HCLO : Hid (cloB kind (T : Int) = Hp.le 8 (4194304 + 16 * T)) := hid (by rw [cloB, if_pos h8, Int.toNat_natCast])
        subst h8
        have H1 := hid h1
        clear hmb h0 h1 hb0
        have HPC : Hid (∀ u v, Lp w wo.heap.size #[.int .i64 8, .int .i64 (T : Int), .string bytes, .slice xa rm xc] v X u → Lp w wo.heap.size #[.int .i64 8, .int .i64 (T : Int), .string bytes, .slice xa rm xc] v (X ++ List.replicate 0 0) u) := hid (fun u v h => by simpa using h)
        go_wp2_with (first
          | (go_at_call 34; refine (HC.out _).mono ?_; rintro e w2 ⟨rfl, t2⟩; have hlp := HB.out.no t2; have HP := hid (hlp.put H _ rfl (by omega)); clear t2 hlp)
          | (go_at_call 65; refine HP.out.mono ?_; rintro e w3 ⟨v3, rfl, hlp3⟩; obtain ⟨v4, w4, hr4, hlp4⟩ := hlp3.text bytes (by simp [Hp.le_length]; omega) (by omega); have c2 := hlp3.cells 2; have z3 := hlp3.lt; simp only [List.getElem?_toArray, List.getElem?_cons_zero, List.getElem?_cons_succ] at c2; rw [HX.out] at hlp4; have HR4 := hid hr4; have HL4 := hid hlp4; clear hr4 hlp4 hlp3)
          | (at_builtin; refine wpList_app _ rfl _ _ _ _ rfl _ _ rfl rfl v4 w4 HR4.out ?_))
        go_loopw [7] (fun v ww => ∃ j : Nat, j ≤ P ∧ Lp w wo.heap.size #[.int .i64 8, .int .i64 (T : Int), .string bytes, .slice xa rm xc] v (X ++ List.replicate j 0) ww) (fun v _ => X.length + P - sliceLen v)
        case atStart => exact ⟨0, Nat.zero_le _, HPC.out _ _ HL4.out⟩
        case round =>
          obtain ⟨j, hj, hlp⟩ := hrel
          obtain ⟨wi, hwi⟩ : ∃ wi, wi = wr := ⟨_, rfl⟩
          subst hwi
          clear HPC HL4 HR4 HP HB HC
          obtain ⟨va, vcp, hv⟩ := hlp.form
          have hlen : (X ++ List.replicate j (0 : UInt8)).length = X.length + j := by simp
          rw [hlen] at hv
          subst hv
          by_cases hj2 : j < P
          · omega
          · obtain rfl : j = P := by omega
            have d1 : (((X.length + j : Nat) : Int) % 8 == 0) = true := by simp; omega
            have d2 : (((X.length + j : Nat) : Int) % 8 != 0) = false := by simp; omega
            have c0 := hlp.cells 0
            have c1 := hlp.cells 1
            have c3 := hlp.cells 3
            have zb := hlp.lt
            simp only [List.getElem?_toArray, List.getElem?_cons_zero, List.getElem?_cons_succ] at c0 c1 c3
            have h1 := H1.out
            have HP2 := hid (hlp.put (4194304 + 16 * T) (4194304 + 16 * (T : Int)) (by omega) (by rw [hlen]; omega))
            have HLP := hid hlp
            clear hlp
            clear hlen
            obtain ⟨n5, hn5⟩ : ∃ n5, X.length + j = n5 := ⟨_, rfl⟩
            rw [hn5] at d1 d2 HP2 ⊢
            have HN5 := hid hn5
            have hb5 : (n5 : Int) ≤ 4294967295 := by omega
            clear hn5
            go_wp2_with (go_at_call 65; refine HP2.out.mono ?_; rintro e w6 ⟨v6, rfl, hlp6⟩; have c3' := hlp6.cells 3; have z6 := hlp6.lt; simp only [List.getElem?_toArray, List.getElem?_cons_zero, List.getElem?_cons_succ] at c3'; rw [← HCLO.out] at hlp6; have HLQ := hid hlp6; clear hlp6)
            obtain ⟨Y, hY⟩ : ∃ Y, X ++ List.replicate j 0 ++ cloB 8 (T : Int) = Y := ⟨_, rfl⟩
            rw [hY] at HLQ
            have HY := hid hY
            have hYl : Y.length ≤ X.length + j + 8 := by rw [← hY, HCLO.out]; simp only [List.length_append, List.length_replicate, Hp.le_length, List.length_nil]; omega
            clear hY d1 d2
            go_loopw [7, 48] (fun v i ww => ∃ q : Nat, q ≤ rm ∧ i = .int .i64 (q : Int) ∧ Lp w wo.heap.size #[.int .i64 8, .int .i64 (T : Int), .string bytes, .slice xa rm xc] v (Y ++ refsB ps (refs.take q)) ww) (fun _ i _ => rm - (intOf i).toNat)
            case atStart => exact ⟨0, Nat.zero_le _, rfl, by have := HLQ.out; simpa [refsB] using this⟩
            case round =>
              obtain ⟨q, hq, rfl, hlp⟩ := hrel
              clear HLP HLQ
              by_cases hq2 : q < rm
              · have hql : q < refs.length := by have := HRMM.out; omega
                obtain ⟨xg, xo, rfl, hxg, hxcell⟩ := HXAT.out (by omega)
                obtain ⟨p0, p1⟩ := ref_cells hxcell q hql
                rw [← hlp.mkd.tn.cell hxg (fun e => e)] at p0 p1
                have hcw := HW2.out _ (List.getElem_mem hql)
                have hsu := refsB_succ ps hql
                have hwp := HWP.out refs[q]
                obtain ⟨r, hrr⟩ : ∃ r, refs[q] = r := ⟨_, rfl⟩
                rw [hrr] at p0 p1 hcw hsu hwp
                obtain ⟨rk, rn⟩ := r
                simp only at p0 p1 hcw
                obtain ⟨x, hx⟩ : ∃ x : Nat, wordR ps (rk, rn) = (x : Int) := ⟨(wordR ps (rk, rn)).toNat, by omega⟩
                rw [hx] at hcw hsu
                rw [Int.toNat_natCast] at hsu
                have hll : (Y ++ refsB ps (refs.take q)).length ≤ 4294967000 := by
                  simp only [List.length_append, refsB_length, List.length_take]
                  omega
                have HLP := hid hlp
                have HCW : Hid (∀ u, Tn No wr u → Calls Try.prog 66 #[.agg #[.int .i64 rk, .int .i64 rn], .slice pa pn pc] u fun e w' => e = .returned (.int .u64 (x : Int)) ∧ Tn No u w') := hid (fun u t => hcw u (hlp.mkd.tn.then t))
                have HPU : Hid (∀ u, Tn No wr u → Calls Try.prog 65 #[u7, .int .u64 (x : Int)] u fun e w' => ∃ v', e = .returned v' ∧ Lp w wo.heap.size #[.int .i64 8, .int .i64 (T : Int), .string bytes, .slice (some ⟨xg, xo, none⟩) rm xc] v' (Y ++ refsB ps (refs.take (q + 1))) w') := hid (fun u t => by
                  have := (hlp.no t).put x _ rfl hll
                  rw [List.append_assoc, ← hsu] at this
                  exact this)
                have hqi : (q : Int) < (rm : Int) := by omega
                clear hcw hsu hwp hx hll hxcell hrr hql hlp HXAT HW2
                go_wp2_with (first
                  | (go_at_call 66; refine (HCW.out _ ((Tn.refl No _).alloc _)).mono ?_; rintro e w7 ⟨rfl, t7⟩; have HT7 := hid (((Tn.refl No _).alloc _).then t7); clear t7)
                  | (go_at_call 65; refine (HPU.out _ HT7.out).mono ?_; rintro e w8 ⟨v8, rfl, hlp8⟩; have HL8 := hid hlp8; clear hlp8))
                go_roundw
                case rel => exact ⟨q + 1, by omega, by go_num, HL8.out⟩
                case measure => simp [intOf]; omega
              · obtain rfl : q = rm := by omega
                have HLP := hid hlp
                clear hlp
                go_wp2_with fail
                go_roundw
                case rel =>
                  refine ⟨k + 1, by omega, by go_num, ?_⟩
                  have h1 := HLP.out.mkd
                  have e1 : refs.take q = refs := List.take_of_length_le (by have := HRMM.out; omega)
                  rw [e1, ← HY.out, ← HX.out, ← HPAD.out] at h1
                  rw [HLS.out, HBR.out]
                  simpa only [List.append_assoc] using h1
                case measure => simp [intOf]; omega
      · have d8 : (kind == 8) = false := by simpa using h8
        have HCLO : Hid (cloB kind tag = []) := hid (by simp [cloB, h8])
        clear hmb h8
        have HPC : Hid (∀ u v, Lp w wo.heap.size #[.int .i64 kind, .int .i64 tag, .string bytes, .slice xa rm xc] v X u → Lp w wo.heap.size #[.int .i64 kind, .int .i64 tag, .string bytes, .slice xa rm xc] v (X ++ List.replicate 0 0) u) := hid (fun u v h => by simpa using h)
        go_wp2_with (first
          | (go_at_call 34; refine (HC.out _).mono ?_; rintro e w2 ⟨rfl, t2⟩; have hlp := HB.out.no t2; have HP := hid (hlp.put H _ rfl (by omega)); clear t2 hlp)
          | (go_at_call 65; refine HP.out.mono ?_; rintro e w3 ⟨v3, rfl, hlp3⟩; obtain ⟨v4, w4, hr4, hlp4⟩ := hlp3.text bytes (by simp [Hp.le_length]; omega) (by omega); have c2 := hlp3.cells 2; have z3 := hlp3.lt; simp only [List.getElem?_toArray, List.getElem?_cons_zero, List.getElem?_cons_succ] at c2; rw [HX.out] at hlp4; have HR4 := hid hr4; have HL4 := hid hlp4; clear hr4 hlp4 hlp3)
          | (at_builtin; refine wpList_app _ rfl _ _ _ _ rfl _ _ rfl rfl v4 w4 HR4.out ?_))
        go_loopw [7] (fun v ww => ∃ j : Nat, j ≤ P ∧ Lp w wo.heap.size #[.int .i64 kind, .int .i64 tag, .string bytes, .slice xa rm xc] v (X ++ List.replicate j 0) ww) (fun v _ => X.length + P - sliceLen v)
        case atStart => exact ⟨0, Nat.zero_le _, HPC.out _ _ HL4.out⟩
        case round =>
          obtain ⟨j, hj, hlp⟩ := hrel
          obtain ⟨wi, hwi⟩ : ∃ wi, wi = wr := ⟨_, rfl⟩
          subst hwi
          clear HPC HL4 HR4 HP HB HC
          obtain ⟨va, vcp, hv⟩ := hlp.form
          have hlen : (X ++ List.replicate j (0 : UInt8)).length = X.length + j := by simp
          rw [hlen] at hv
          subst hv
          by_cases hj2 : j < P
          · obtain ⟨v5, w5, hr5, hlp5⟩ := hlp.zero (by rw [hlen]; omega)
            rw [List.append_assoc, ← List.replicate_succ'] at hlp5
            have d1 : (((X.length + j : Nat) : Int) % 8 == 0) = false := by simp; omega
            have HR5 := hid hr5
            have HL5 := hid hlp5
            have HSL := hid (hlp5.form)
            clear hr5 hlp5 hlp hlen
            obtain ⟨n5, hn5⟩ : ∃ n5, X.length + j = n5 := ⟨_, rfl⟩
            rw [hn5] at d1 HR5 ⊢
            have HN5 := hid hn5
            have hb5 : (n5 : Int) ≤ 4294967295 := by omega
            clear hn5
            go_wp2_with (at_builtin; refine wpList_app _ rfl _ _ _ _ rfl _ _ rfl rfl v5 w5 HR5.out ?_)
            go_roundw
            case rel => exact ⟨j + 1, by omega, HL5.out⟩
            case measure =>
              obtain ⟨y1, y2, y3⟩ := HSL.out
              rw [y3]
              have := HN5.out
              simp only [sliceLen, List.length_append, List.length_replicate]
              omega
          · obtain rfl : j = P := by omega
            have d1 : (((X.length + j : Nat) : Int) % 8 == 0) = true := by simp; omega
            have d2 : (((X.length + j : Nat) : Int) % 8 != 0) = false := by simp; omega
            have c0 := hlp.cells 0
            have c1 := hlp.cells 1
            have c3 := hlp.cells 3
            have zb := hlp.lt
            simp only [List.getElem?_toArray, List.getElem?_cons_zero, List.getElem?_cons_succ] at c0 c1 c3
            have HLP := hid hlp
            clear hlp
            clear hlen
            obtain ⟨n5, hn5⟩ : ∃ n5, X.length + j = n5 := ⟨_, rfl⟩
            rw [hn5] at d1 d2 ⊢
            have HN5 := hid hn5
            have hb5 : (n5 : Int) ≤ 4294967295 := by omega
            clear hn5
            have HLQ : Hid (Lp w wo.heap.size #[.int .i64 kind, .int .i64 tag, .string bytes, .slice xa rm xc] (.slice va n5 vcp) (X ++ List.replicate j 0 ++ cloB kind tag) wi) := hid (by have := HLP.out; rw [HCLO.out, List.append_nil]; rw [HN5.out] at this; exact this)
            go_wp2_with fail
            obtain ⟨Y, hY⟩ : ∃ Y, X ++ List.replicate j 0 ++ cloB kind tag = Y := ⟨_, rfl⟩
            rw [hY] at HLQ
            have HY := hid hY
            have hYl : Y.length ≤ X.length + j + 8 := by rw [← hY, HCLO.out]; simp only [List.length_append, List.length_replicate, Hp.le_length, List.length_nil]; omega
            clear hY d1 d2
            go_loopw [7, 48] (fun v i ww => ∃ q : Nat, q ≤ rm ∧ i = .int .i64 (q : Int) ∧ Lp w wo.heap.size #[.int .i64 kind, .int .i64 tag, .string bytes, .slice xa rm xc] v (Y ++ refsB ps (refs.take q)) ww) (fun _ i _ => rm - (intOf i).toNat)
            case atStart => exact ⟨0, Nat.zero_le _, rfl, by have := HLQ.out; simpa [refsB] using this⟩
            case round =>
              obtain ⟨q, hq, rfl, hlp⟩ := hrel
              clear HLP HLQ
              by_cases hq2 : q < rm
              · have hql : q < refs.length := by have := HRMM.out; omega
                obtain ⟨xg, xo, rfl, hxg, hxcell⟩ := HXAT.out (by omega)
                obtain ⟨p0, p1⟩ := ref_cells hxcell q hql
                rw [← hlp.mkd.tn.cell hxg (fun e => e)] at p0 p1
                have hcw := HW2.out _ (List.getElem_mem hql)
                have hsu := refsB_succ ps hql
                have hwp := HWP.out refs[q]
                obtain ⟨r, hrr⟩ : ∃ r, refs[q] = r := ⟨_, rfl⟩
                rw [hrr] at p0 p1 hcw hsu hwp
                obtain ⟨rk, rn⟩ := r
                simp only at p0 p1 hcw
                obtain ⟨x, hx⟩ : ∃ x : Nat, wordR ps (rk, rn) = (x : Int) := ⟨(wordR ps (rk, rn)).toNat, by omega⟩
                rw [hx] at hcw hsu
                rw [Int.toNat_natCast] at hsu
                have hll : (Y ++ refsB ps (refs.take q)).length ≤ 4294967000 := by
                  simp only [List.length_append, refsB_length, List.length_take]
                  omega
                have HLP := hid hlp
                have HCW : Hid (∀ u, Tn No wr u → Calls Try.prog 66 #[.agg #[.int .i64 rk, .int .i64 rn], .slice pa pn pc] u fun e w' => e = .returned (.int .u64 (x : Int)) ∧ Tn No u w') := hid (fun u t => hcw u (hlp.mkd.tn.then t))
                have HPU : Hid (∀ u, Tn No wr u → Calls Try.prog 65 #[u7, .int .u64 (x : Int)] u fun e w' => ∃ v', e = .returned v' ∧ Lp w wo.heap.size #[.int .i64 kind, .int .i64 tag, .string bytes, .slice (some ⟨xg, xo, none⟩) rm xc] v' (Y ++ refsB ps (refs.take (q + 1))) w') := hid (fun u t => by
                  have := (hlp.no t).put x _ rfl hll
                  rw [List.append_assoc, ← hsu] at this
                  exact this)
                have hqi : (q : Int) < (rm : Int) := by omega
                clear hcw hsu hwp hx hll hxcell hrr hql hlp HXAT HW2
                go_wp2_with (first
                  | (go_at_call 66; refine (HCW.out _ ((Tn.refl No _).alloc _)).mono ?_; rintro e w7 ⟨rfl, t7⟩; have HT7 := hid (((Tn.refl No _).alloc _).then t7); clear t7)
                  | (go_at_call 65; refine (HPU.out _ HT7.out).mono ?_; rintro e w8 ⟨v8, rfl, hlp8⟩; have HL8 := hid hlp8; clear hlp8))
                go_roundw
                case rel => exact ⟨q + 1, by omega, by go_num, HL8.out⟩
                case measure => simp [intOf]; omega
              · obtain rfl : q = rm := by omega
                have HLP := hid hlp
                clear hlp
                go_wp2_with fail
                go_roundw
                case rel =>
                  refine ⟨k + 1, by omega, by go_num, ?_⟩
                  have h1 := HLP.out.mkd
                  have e1 : refs.take q = refs := List.take_of_length_le (by have := HRMM.out; omega)
                  rw [e1, ← HY.out, ← HX.out, ← HPAD.out] at h1
                  rw [HLS.out, HBR.out]
                  simpa only [List.append_assoc] using h1
                case measure => simp [intOf]; omega
    · obtain rfl : k = m := by omega
      have HMK := hid hmk
      clear hmk
      go_wp2
      go_ret
      have e1 : ts.take k = ts := List.take_of_length_le (by have := HM.out; omega)
      have := HMK.out
      rw [e1] at this
      exact ⟨_, rfl, this⟩
end Go.Proofs.Ytlkbnjdhokjfnaa
