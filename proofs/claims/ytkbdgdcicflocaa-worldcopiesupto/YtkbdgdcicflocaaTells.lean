/-
  The walk of the law WorldTells: it answers true.
-/
import Derived.Test.YtkbdgdcicflocaaToldA
import Derived.Deep.QuietTactic
import Derived.BigQuiet
namespace Go.Proofs.Ytkbdgdcicflocaa
set_option linter.unusedSimpArgs false
set_option linter.unusedVariables false
open Go.RowKit
attribute [local go_sem ↓] Go.wp_at_zero Go.wp_at_succ

def outSt (tr : List Ev) : St := { initSt (fun _ => none) ⟨#[]⟩ with tr := tr }
theorem out_at1 (tr : List Ev) : (outSt tr).at 1 = ⟨2, ⟨#[]⟩, 0⟩ := by rfl
theorem out_at2 (tr : List Ev) : (outSt tr).at 2 = ⟨3, ⟨#[]⟩, 0⟩ := by rfl
theorem wf_out (tr : List Ev) : WF (outSt tr) := wf_tr (wf_init _ _) _

/-- a text is written to one of both outputs -/
theorem out_step (tr : List Ev) (h : Good tr) (s : ByteArray) :
    (∃ tr', (outSt tr).write 1 s = outSt tr' ∧ Good tr' ∧ tell tr' 1 = tell tr 1 ++ s.data.toList ∧ tell tr' 2 = tell tr 2 ∧ tr'.length ≤ tr.length + 1 ∧ (tr'.map (fun e => e.text.length)).sum = (tr.map (fun e => e.text.length)).sum + s.size) ∧
    (∃ tr', (outSt tr).write 2 s = outSt tr' ∧ Good tr' ∧ tell tr' 2 = tell tr 2 ++ s.data.toList ∧ tell tr' 1 = tell tr 1 ∧ tr'.length ≤ tr.length + 1 ∧ (tr'.map (fun e => e.text.length)).sum = (tr.map (fun e => e.text.length)).sum + s.size) := by
  have hsl : s.data.toList.length = s.size := by simp
  constructor
  · obtain ⟨tr', a, b, c, d, e, f⟩ := say_out (S := outSt tr) 1 s.data.toList h
    refine ⟨tr', ?_, b, c, d 2 (by omega), e, by rw [← hsl]; exact f⟩
    unfold St.write
    rw [out_at1, if_pos rfl, a]
    rfl
  · obtain ⟨tr', a, b, c, d, e, f⟩ := say_out (S := outSt tr) 2 s.data.toList h
    refine ⟨tr', ?_, b, c, d 1 (by omega), e, by rw [← hsl]; exact f⟩
    unfold St.write
    rw [out_at2, if_neg (by simp), if_pos rfl, a]
    rfl

/-- what has been written up to a place -/
def tot (ts : List ByteArray) (k : Nat) : Nat := ((ts.take k).map (fun s => 2 * s.size + 2)).sum
theorem tot_succ (ts : List ByteArray) (k : Nat) (h : k < ts.length) : tot ts (k + 1) = tot ts k + (2 * (ts[k]'h).size + 2) := by
  unfold tot
  rw [List.take_succ_eq_append_getElem h, List.map_append, List.sum_append]
  simp
theorem tot_le (ts : List ByteArray) (k : Nat) : tot ts k ≤ tot ts ts.length := by
  unfold tot
  rw [List.take_length, List.map_take]
  exact sum_take_le _ k

structure TellsAt (w u : World) (p : Nat) (ts : List ByteArray) (k : Nat) (tr : List Ev) : Prop where
  own : Own w u p (tot ts k) (outSt tr)
  good : Good tr
  len : tr.length ≤ k
  sum : (tr.map (fun e => e.text.length)).sum ≤ tot ts k

set_option maxHeartbeats 8000000 in
set_option maxRecDepth 100000 in
theorem tells_walk (a b : Option Addr) (n cn m cm : Nat) (ts : List ByteArray) (zs : List Int) (w : World) (hn : ts.length = n) (hm : zs.length = m) (hb : tot ts n ≤ 8388608) (hn2 : n ≤ 1048576) (hm2 : m ≤ 1048576)
    (ha : 0 < n → ∃ g off, a = some ⟨g, off, none⟩ ∧ g < w.heap.size ∧ ∀ j (hj : j < ts.length), w.cell? ⟨g, off + j, none⟩ = some (.string ts[j])) (hbb : 0 < m → ∃ g off, b = some ⟨g, off, none⟩ ∧ g < w.heap.size ∧ ∀ j (hj : j < zs.length), w.cell? ⟨g, off + j, none⟩ = some (.int .i64 zs[j]) ∧ -9223372036854775808 ≤ zs[j] ∧ zs[j] ≤ 9223372036854775807) :
    Calls Try.prog 5 #[.slice a n cn, .slice b m cm] w fun e w' => e = .returned (.bool true) ∧ Tn No w w' := by
  have hnew := own_new ⟨#[]⟩ w w (Tn.refl _ _) (by unfold maxLen; decide)
  have HN := hid hnew
  have HK := hid known_raw
  have HA := hid ha
  have HB := hid hbb
  have HTN := hid hn
  have HTM := hid hm
  have HBD := hid hb
  clear hnew ha hbb hn hm hb
  go_enter Try.func5, Try.ntmps5
  go_wp2_with (first
    | (go_at_call 9; refine HN.out.mono ?_; rintro e w1 ⟨p, rfl, h1, t1⟩)
    | (go_at_call 11; refine (HK.out _).mono ?_; rintro e w2 ⟨rfl, t2⟩))
  go_loopw [6, 7, 8] (fun o e i u => ∃ (k : Nat) (tr : List Ev), k ≤ n ∧ i = .int .i64 (k : Int) ∧ o = .string (str (tell tr 1)) ∧ e = .string (str (tell tr 2)) ∧ TellsAt w u p ts k tr) (fun _ _ i _ => n - (intOf i).toNat)
  case atStart => exact ⟨0, [], by omega, rfl, by simp [tell, str], by simp [tell, str], ⟨(h1.no t2).mono (by omega), ⟨fun e he => by simp at he, fun i e e' he => by simp at he⟩, by simp, by simp⟩⟩
  case round =>
    obtain ⟨k, tr, hk, rfl, rfl, rfl, hat⟩ := hrel
    by_cases hlt : k < n
    · have hkt : k < ts.length := by rw [HTN.out]; exact hlt
      obtain ⟨g, off, hga, hgl, hgc⟩ := HA.out (by omega)
      have t0 := hat.own.tn
      have qk : wr.cell? ⟨g, off + k, none⟩ = some (.string (ts[k]'hkt)) := (t0.cell hgl (fun e => e)).trans (hgc k hkt)
      obtain ⟨s, hs⟩ : ∃ s, ts[k]'hkt = s := ⟨_, rfl⟩
      have htot := tot_succ ts k hkt
      have htl := tot_le ts (k + 1)
      rw [HTN.out] at htl
      have hbd := HBD.out
      rw [hs] at qk htot
      have hs63 : s.size ≤ 8388608 := by omega
      obtain ⟨⟨tr1, a1, a2, a3, a4, a5, a6⟩, ⟨tr2, b1, b2, b3, b4, b5, b6⟩⟩ := out_step tr hat.good s
      have hout : Calls Try.prog 17 #[.pointer (some ⟨p, 0, none⟩), .string s] wr fun e u' => e = .returned (.tuple #[]) ∧ TellsAt w u' p ts (k + 1) tr1 := by
        have := own_out hat.own (wf_out tr) s (by have := tot_le ts k; rw [HTN.out] at this; omega)
        rw [a1] at this
        exact this.mono (fun e u' ⟨x, y⟩ => ⟨x, y.mono (by omega), a2, by have := hat.len; omega, by have := hat.sum; omega⟩)
      have hwr : Calls Try.prog 18 #[.pointer (some ⟨p, 0, none⟩), .int .i64 2, .string s] wr fun e u' => e = .returned (.int .i64 (s.size : Int)) ∧ TellsAt w u' p ts (k + 1) tr2 := by
        have := own_write hat.own (wf_out tr) 2 s (by omega) (by omega) (by have := tot_le ts k; rw [HTN.out] at this; omega)
        have e : writeRes (outSt tr) 2 s = s.size := by unfold writeRes; rw [out_at2, if_pos (.inr (.inl rfl))]
        rw [b1, e] at this
        exact this.mono (fun e u' ⟨x, y⟩ => ⟨x, y.mono (by omega), b2, by have := hat.len; omega, by have := hat.sum; omega⟩)
      have hsd : str s.data.toList = s := rfl
      have c1 : str (tell tr 1) ++ s = str (tell tr1 1) := by rw [a3, ← str_append, hsd]
      have c2 : str (tell tr 2) ++ s = str (tell tr2 2) := by rw [b3, ← str_append, hsd]
      have d1 : (str (tell tr 1)).size ≤ 8388608 := by rw [str_size]; exact tell_le _ _ _ (by have := hat.sum; omega)
      have d2 : (str (tell tr 2)).size ≤ 8388608 := by rw [str_size]; exact tell_le _ _ _ (by have := hat.sum; omega)
      have HO := hid hout
      have HW := hid hwr
      have HC1 := hid (And.intro c1 a4)
      have HC2 := hid (And.intro c2 b4)
      have hgw : g < wr.heap.size := Nat.lt_of_lt_of_le hgl t0.size
      have hki : (k : Int) < (n : Int) := by omega
      obtain ⟨x0, hx0⟩ : ∃ x, str (tell tr 1) = x := ⟨_, rfl⟩
      obtain ⟨y0, hy0⟩ : ∃ x, str (tell tr 2) = x := ⟨_, rfl⟩
      have HX0 := hid hx0
      have HY0 := hid hy0
      rw [hx0] at d1 HC1 ⊢
      rw [hy0] at d2 HC2 ⊢
      have HKK : Hid (m = 0 ∨ ∃ g2 off2 z, b = some ⟨g2, off2, none⟩ ∧ 0 < m ∧ g2 < wr.heap.size ∧ wr.cell? ⟨g2, off2 + k % m, none⟩ = some (.int .i64 z) ∧ -9223372036854775808 ≤ z ∧ z ≤ 9223372036854775807) := by
        rcases Nat.eq_zero_or_pos m with h | h
        · exact .inl h
        · obtain ⟨g2, off2, e, hgl2, hc⟩ := HB.out h
          have hlt2 : k % m < zs.length := by rw [HTM.out]; exact Nat.mod_lt _ h
          obtain ⟨x1, x2, x3⟩ := hc (k % m) hlt2
          exact .inr ⟨g2, off2, _, e, h, Nat.lt_of_lt_of_le hgl2 t0.size, (t0.cell hgl2 (fun e => e)).trans x1, x2, x3⟩
      have HGC : Hid (w.cell? ⟨g, off + k, none⟩ = some (.string s)) := by rw [← hs]; exact hgc k hkt
      clear hout hwr c1 c2 a1 a2 a3 a4 a5 a6 b1 b2 b3 b4 b5 b6 hsd hat t0 hgc htot htl hbd hs hx0 hy0
      subst hga
      rcases HKK.out with hm0 | ⟨g2, off2, z, rfl, hmp, hg2, qz, z0, z1⟩
      · subst hm0
        clear HKK
        go_wp2_with (first
          | (go_at_call 17; refine HO.out.mono ?_; rintro e w3 ⟨rfl, h3⟩))
        go_roundw
        case rel => exact ⟨k + 1, tr1, by omega, by go_num, by rw [HC1.out.1], by rw [HC1.out.2, HY0.out], h3⟩
        case measure => simp [intOf]; omega
      · clear HKK
        have hpk : pk z 2 = 0 ∨ pk z 2 = 1 := by unfold pk; omega
        have HPK := hid (fun u => pick_raw z 2 u z0 z1 (by omega) (by omega))
        obtain ⟨r, hr⟩ : ∃ r, k % m = r := ⟨_, rfl⟩
        have hrm : r < m := by rw [← hr]; exact Nat.mod_lt _ hmp
        have hmod : Int.tmod (k : Int) (m : Int) = (r : Int) := by rw [← hr]; rfl
        have hmi : (m : Int) ≠ 0 := by omega
        have hrm' : (r : Int) < (m : Int) := by omega
        rw [hr] at qz
        clear hr
        clear z0 z1
        rcases hpk with hpk | hpk
        · rw [hpk] at HPK
          clear hpk
          go_wp2_with (first
            | (go_at_call 16; refine (HPK.out _).mono ?_; rintro e w4 ⟨rfl, rfl⟩)
            | (go_at_call 17; refine HO.out.mono ?_; rintro e w3 ⟨rfl, h3⟩))
          go_roundw
          case rel => exact ⟨k + 1, tr1, by omega, by go_num, by rw [HC1.out.1], by rw [HC1.out.2, HY0.out], h3⟩
          case measure => simp [intOf]; omega
        · rw [hpk] at HPK
          clear hpk
          go_wp2_with (first
            | (go_at_call 16; refine (HPK.out _).mono ?_; rintro e w4 ⟨rfl, rfl⟩)
            | (go_at_call 18; refine HW.out.mono ?_; rintro e w3 ⟨rfl, h3⟩; have q3 := (Tn.cell (o := off + k) (h3.own.tn) hgl (fun e => e)).trans (HGC.out)))
          go_roundw
          case rel => exact ⟨k + 1, tr2, by omega, by go_num, by rw [HC2.out.2, HX0.out], by rw [HC2.out.1], h3⟩
          case measure => simp [intOf]; omega
    · obtain rfl : k = n := by omega
      have hbd := HBD.out
      have htr := own_trace hat.own (by omega)
      have HTR := hid htr
      have HG := hid hat.good
      have HS := hid (Nat.le_trans hat.sum hbd)
      have HL := hid hat.len
      have t0 := hat.own.tn
      clear htr hat hbd
      go_wp2_with (first
        | (go_at_call 19; refine HTR.out.mono ?_; rintro e w3 ⟨v, rfl, h3, t3⟩))
      have h3 : TV w3 v tr := h3
      obtain ⟨x, cap, hv, hlc, hcm, hnil, hsome⟩ := h3.rw.form
      obtain ⟨L, hlen⟩ : ∃ L, tr.length = L := ⟨_, rfl⟩
      have HTV := hid h3
      have HLL := hid hlen
      rw [hlen] at hv hlc hnil
      have hL : L ≤ 1048576 := by have := HL.out; omega
      have HNIL := hid hnil
      have HSOME := hid hsome
      have T3 : Hid (Tn No w w3) := hid (t0.trans t3 (fun _ _ h => h) (fun _ _ h => h))
      subst hv
      clear h3 hlen hnil hsome hcm hlc t3 t0
      go_loopw [12] (fun i u => (∃ j : Nat, j ≤ L ∧ i = .int .i64 (j : Int)) ∧ Hid (Tn No w3 u)) (fun i _ => L - (intOf i).toNat)
      case atStart => exact ⟨⟨0, by omega, rfl⟩, hid (Tn.refl _ _)⟩
      case round =>
        obtain ⟨⟨j, hj, rfl⟩, TR⟩ := hrel
        have HTV := hid (HTV.out.no TR.out)
        have T3 : Hid (Tn No w wr) := hid (T3.out.trans TR.out (fun _ _ h => h) (fun _ _ h => h))
        by_cases hjl : j < L
        · cases x with
          | none => have := (HNIL.out rfl).1; omega
          | some x =>
          obtain ⟨hxe, hxl⟩ := HSOME.out x rfl
          obtain ⟨g, o, sp⟩ := x
          cases hxe
          obtain ⟨e, he⟩ : ∃ e, tr[j]? = some e := ⟨_, List.getElem?_eq_getElem (by have := HLL.out; omega)⟩
          obtain ⟨e0, e1, e2⟩ := HTV.out.ev j e he
          obtain ⟨g1, g2⟩ := HG.out.ev e (List.mem_of_getElem? he)
          rw [Nat.mul_comm 3 j] at e0 e1 e2
          rw [g2] at e1
          have q0 : wr.cell? ⟨g, j * 3, none⟩ = some (.int .i64 e.kind) := e0
          have q1 : wr.cell? ⟨g, j * 3 + 1, none⟩ = some (.string ⟨#[]⟩) := e1
          have q2 : wr.cell? ⟨g, j * 3 + 2, none⟩ = some (.string (str e.text)) := e2
          obtain ⟨tx, htx⟩ : ∃ tx, str e.text = tx := ⟨_, rfl⟩
          have hne : tx.toList.isEmpty = false := by
            rw [toList_isEmpty, decide_eq_false_iff_not, ← htx, str_size]
            intro h
            exact g1 (List.length_eq_zero_iff.1 h)
          rw [htx] at q2
          have hji : (j : Int) < (L : Int) := by omega
          rcases Nat.eq_zero_or_pos j with hj0 | hj0
          · subst hj0
            clear e0 e1 e2 he g1 g2 htx HNIL HSOME HTV HG
            go_wp2
            go_quiet (fail)
            go_wp2
            go_roundw
            case rel => exact ⟨⟨1, by omega, by go_num⟩, hid (TR.out.drewN _)⟩
            case measure => simp [intOf]; omega
          · obtain ⟨i, rfl⟩ : ∃ i, j = i + 1 := ⟨j - 1, by omega⟩
            obtain ⟨d, hd⟩ : ∃ d, tr[i]? = some d := ⟨_, List.getElem?_eq_getElem (by have := HLL.out; omega)⟩
            have e3 := (HTV.out.ev i d hd).1
            rw [Nat.mul_comm 3 i] at e3
            have q3 : wr.cell? ⟨g, i * 3, none⟩ = some (.int .i64 d.kind) := e3
            have hnk : (e.kind == d.kind) = false := by simpa using HG.out.nb i d e hd he
            clear e0 e1 e2 e3 hd he g1 g2 htx HNIL HSOME HTV HG
            go_wp2
            go_quiet (fail)
            go_wp2
            go_roundw
            case rel => exact ⟨⟨i + 2, by omega, by go_num⟩, hid (TR.out.drewN _)⟩
            case measure => simp [intOf]; omega
        · obtain rfl : j = L := by omega
          have h1 := HTV.out
          have HT1 := hid (told_raw _ tr 1 wr HTV.out (by have := HS.out; omega) (by have := HLL.out; omega))
          have HT2 := hid (told_raw _ tr 2 wr HTV.out (by have := HS.out; omega) (by have := HLL.out; omega))
          clear HNIL HSOME HTV HG h1
          go_wp2_with (first
            | (go_at_call_of 20 (Value.int IntKind.i64 1); refine HT1.out.mono ?_; rintro e w5 ⟨rfl, rfl⟩)
            | (go_at_call_of 20 (Value.int IntKind.i64 2); refine HT2.out.mono ?_; rintro e w5 ⟨rfl, rfl⟩))
          go_ret
          exact ⟨rfl, T3.out⟩
end Go.Proofs.Ytkbdgdcicflocaa
