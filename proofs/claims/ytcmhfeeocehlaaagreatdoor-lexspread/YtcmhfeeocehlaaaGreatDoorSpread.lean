/-
  The law LexSpread, walked.
-/
import Derived.Test.YtcmhfeeocehlaaaGreatDoorSprA
import Derived.Test.YtcmhfeeocehlaaaGreatDoorJoins2
import Derived.Test.YtcmhfeeocehlaaaGreatDoorRefA
namespace Go.Proofs.YtcmhfeeocehlaaaGreatDoor
set_option linter.unusedSimpArgs false
set_option linter.unusedVariables false
open Go.RowKit Go.PlainAid
attribute [local go_sem ↓] Go.wp_at_zero Go.wp_at_succ

theorem spr_le (ts : List Tk) (h : ∀ t ∈ ts, t.text.size ≤ 65536) : (spr ts).size ≤ ts.length * 65537 := by
  have : ∀ n (ts : List Tk), ts.length = n → (∀ t ∈ ts, t.text.size ≤ 65536) → (spr ts).size ≤ n * 65537 := by
    intro n
    induction n with
    | zero =>
      intro ts hn _
      obtain rfl := List.length_eq_zero_iff.1 hn
      exact Nat.zero_le _
    | succ n ih =>
      intro ts hn hp
      rcases List.eq_nil_or_concat ts with e | ⟨l, t, e⟩
      · subst e; cases hn
      rw [List.concat_eq_append] at e
      subst e
      have hl : l.length = n := by simpa using hn
      have ht := hp t (by simp)
      have hi := ih l hl (fun u hu => hp u (by simp [hu]))
      by_cases h0 : l = []
      · subst h0
        rw [List.nil_append, spr_one]; omega
      · rw [spr_snoc l t h0, app_size, app_size, show sp.size = 1 from rfl]; omega
  exact this _ ts rfl h
theorem spr_le2 (ts : List Tk) (h : ∀ t ∈ ts, t.text.size ≤ 65536) (hl : ts.length ≤ 65536) : (spr ts).size ≤ 4295032832 :=
  Nat.le_trans (spr_le ts h) (Nat.mul_le_mul_right 65537 hl)
theorem rcmp_same {w : World} {B C : Nat} {ng mg : Bool} {sa ra : Option Addr} {sn sc rn rc : Nat} {z : Int} (h1 : NumAt w B ng (.slice sa sn sc) z) (h2 : NumAt w C mg (.slice ra rn rc) z) {v : World} (t : Tn No w v) :
    Calls Tryz.prog 13 #[.agg #[.bool ng, .slice sa sn sc], .agg #[.bool mg, .slice ra rn rc]] v fun e v' => e = .returned (.int .i64 0) ∧ Tn No v v' := by
  obtain ⟨a, l, e1, o1, _, _, i1⟩ := h1
  obtain ⟨b, m, e2, o2, _, _, i2⟩ := h2
  cases e1
  cases e2
  refine (rcmp_raw ng mg sa ra _ _ _ _ l m v (o1.sl.grown t.no) (o2.sl.grown t.no)).mono ?_
  rintro e v' ⟨rfl, hg⟩
  refine ⟨?_, Tn.ofgb hg⟩
  rw [i1, i2, Int.sub_self]; rfl

set_option maxHeartbeats 2000000 in
set_option maxRecDepth 100000 in
theorem spread_bad (rb : ByteArray → Int) (s : ByteArray) (w : World) (hr : ∀ s, RBs rb s w) (hs : s.size ≤ 140737488351232) (c : Int) (p : Nat) (hl : lexW rb s = .bad c p) :
    Calls Tryz.prog 5 #[.string s] w fun e w' => e = .returned (.bool true) ∧ Tn No w w' := by
  have hc : ¬ c = 0 := fun e => by
    subst e
    obtain ⟨x, hx, _⟩ := lexW_code (rb := rb) (s := s) (by rw [hl]; rfl)
    rw [hl] at hx; cases hx
  have hA := fun (w' : World) (t : Tn No w w') => tokens_raw rb s w' (by omega) ((hr s).no t)
  rw [hl] at hA
  have HA := hid hA
  have hn : (c != 0) = true := by simpa using hc
  clear hA hr hl hc
  go_enter Tryz.func5, Tryz.ntmps5
  go_wp2_with (first
    | (go_at_call 7; refine (awake_raw _).mono ?_; rintro e w1 ⟨rfl, t1⟩)
    | (go_at_call 8; refine (HA.out _ (by repeat (first | exact Tn.refl _ _ | apply Tn.drew | apply Tn.drewN | apply Tn.alloc | (refine Tn.then ?_ (by assumption)) | (refine Tn.thenNo ?_ (by assumption))))).mono ?_; rintro e w2 ⟨t2, rfl⟩; clear HA; simp only [msV]))
  go_ret
  exact ⟨rfl, (by repeat (first | exact Tn.refl _ _ | apply Tn.drew | apply Tn.drewN | apply Tn.alloc | (refine Tn.then ?_ (by assumption)) | (refine Tn.thenNo ?_ (by assumption))))⟩

set_option maxHeartbeats 4000000 in
set_option maxRecDepth 100000 in
theorem spread_ok (rb : ByteArray → Int) (s : ByteArray) (w : World) (hr : ∀ s, RBs rb s w) (hs : s.size ≤ 140737488351232) (x : List Tk) (hl : lexW rb s = .ok x) :
    Calls Tryz.prog 5 #[.string s] w fun e w' => e = .returned (.bool true) ∧ Tn No w w' := by
  have hA := fun (w' : World) (t : Tn No w w') => tokens_raw rb s w' (by omega) ((hr s).no t)
  rw [hl] at hA
  have HA := hid hA
  have HR := hid hr
  obtain ⟨hxl, _⟩ := lexW_bound hl
  have HSELF := hid (lexW_self hl)
  obtain ⟨nx, hnx⟩ : ∃ n, x.length = n := ⟨_, rfl⟩
  have HNX := hid hnx
  rw [hnx] at hxl
  have HXL := hid hxl
  clear hA hr hl hs hnx hxl
  go_enter Tryz.func5, Tryz.ntmps5
  go_wp2_with (first
    | (go_at_call 7; refine (awake_raw _).mono ?_; rintro e w1 ⟨rfl, t1⟩)
    | (go_at_call 8; refine (HA.out _ (by repeat (first | exact Tn.refl _ _ | apply Tn.drew | apply Tn.drewN | apply Tn.alloc | (refine Tn.then ?_ (by assumption)) | (refine Tn.thenNo ?_ (by assumption))))).mono ?_; rintro e w2 ⟨t2, ax, cx, rfl, tlx, ox⟩; clear HA; have HTLX := hid tlx; clear tlx ox; rw [HNX.out]; simp only [msV]))
  have HW : Hid (Tn No w w2) := hid (t1.then t2)
  clear t1 t2
  go_loopw [6, 7] (fun st i wr => ∃ k : Nat, k ≤ nx ∧ i = .int .i64 (k : Int) ∧ st = .string (spr (x.take k)) ∧ Tn No (w2.alloc (.cells #[.int .i64 0, .int .i64 0] 26)) wr ∧ Hid (∀ t ∈ x.take k, t.kind ≠ 6 ∧ t.kind ≠ 7)) (fun _ i _ => nx - (intOf i).toNat)
  case atStart => exact ⟨0, Nat.zero_le _, rfl, rfl, Tn.refl _ _, hid (fun t ht => by simp at ht)⟩
  case round =>
    obtain ⟨k, hk, rfl, rfl, ht, HK⟩ := hrel
    have HT := hid ht
    have q2 := Tn.thenNo ((Tn.refl No w2).alloc _) ht
    have HQ := hid (HW.out.then q2)
    have tlx := HTLX.out.no q2
    have hnx := HNX.out
    have hxl := HXL.out
    rw [hnx] at tlx
    clear q2 ht
    have hS := spr_le2 (x.take k) (fun t ht => (HSELF.out t (List.mem_of_mem_take ht) (HK.out t ht).1 (HK.out t ht).2).2.1) (by rw [List.length_take]; omega)
    obtain ⟨S, hSe⟩ : ∃ S, spr (x.take k) = S := ⟨_, rfl⟩
    rw [hSe] at hS ⊢
    have HSE := hid hSe
    have HSZ := hid hS
    clear hSe hS
    by_cases hkn : k = nx
    · subst hkn
      have hall : x.take k = x := List.take_of_length_le (by omega)
      have hself : ∀ t ∈ x, Self rb t := fun t ht => by
        have := HK.out t (by rw [hall]; exact ht)
        exact HSELF.out t ht this.1 this.2
      have hSx : spr x = S := by rw [← HSE.out, hall]
      have HSX := hid hSx
      have hsz := HSZ.out
      by_cases hlong : 65536 < S.size
      · have hB := fun (w' : World) (t : Tn No w w') => tokens_weak rb S w' (by omega) ((HR.out S).no t)
        have hcc : (lexW rb S).code = 2 := by rw [lexW_long rb _ hlong]; rfl
        rw [hcc] at hB
        have HB := hid hB
        have hlI : (65536 : Int) < (S.size : Int) := by omega
        have hqw := HQ.out
        clear hB hcc hlong hsz hSx hself hall HSX HSZ HSE tlx hnx hxl HR HSELF HNX HXL HTLX
        go_wp2_with (go_at_call 8; refine (HB.out _ (by repeat (first | exact Tn.refl _ _ | apply Tn.drew | apply Tn.drewN | apply Tn.alloc | (refine Tn.then ?_ (by assumption)) | (refine Tn.thenNo ?_ (by assumption))))).mono ?_; rintro e w3 ⟨t3, sa3, sn3, sc3, pa3, rfl⟩; clear HB; simp only [msV])
        go_ret
        exact ⟨rfl, (by repeat (first | exact Tn.refl _ _ | apply Tn.drew | apply Tn.drewN | apply Tn.alloc | (refine Tn.then ?_ (by assumption)) | (refine Tn.thenNo ?_ (by assumption))))⟩
      · obtain ⟨us, hu1, hu2, hu3⟩ := spread x.length x rfl hself (by rw [hSx]; omega)
        rw [hSx] at hu1
        have hB := fun (w' : World) (t : Tn No w w') => tokens_raw rb S w' (by omega) ((HR.out S).no t)
        rw [hu1] at hB
        have HB := hid hB
        have HU := hid hu3
        have HLU : Hid (us.length = k) := hid (by omega)
        have hld : decide ((65536 : Int) < (S.size : Int)) = false := by rw [decide_eq_false_iff_not]; omega
        have hqw := HQ.out
        have HTX := hid tlx
        clear hB hlong hsz hSx hself hall HSX HSZ HSE tlx hnx HR HSELF HTLX hu1 hu2 hu3 HK hxl
        go_wp2_with (go_at_call 8; refine (HB.out _ (by repeat (first | exact Tn.refl _ _ | apply Tn.drew | apply Tn.drewN | apply Tn.alloc | (refine Tn.then ?_ (by assumption)) | (refine Tn.thenNo ?_ (by assumption))))).mono ?_; rintro e w3 ⟨t3, au, cu, rfl, tlu, ou⟩; clear HB; rw [HLU.out]; have HTLU := hid tlu; clear tlu ou; simp only [msV])
        have HTX3 := hid (HTX.out.no t3)
        have HQW := hid (hqw.then t3)
        clear t3 hqw hld HQ HT HTX
        go_loopw [10] (fun i wr => ∃ j : Nat, j ≤ k ∧ i = .int .i64 (j : Int) ∧ Tn No (w3.alloc (.cells #[.int .i64 0, .int .i64 0] 26)) wr) (fun i _ => k - (intOf i).toNat)
        case atStart => exact ⟨0, Nat.zero_le _, rfl, Tn.refl _ _⟩
        case round =>
          obtain ⟨j, hj, rfl, ht9⟩ := hrel
          have HT9 := hid ht9
          have q3 := Tn.thenNo ((Tn.refl No w3).alloc _) ht9
          have HQ9 := hid (HQW.out.then q3)
          have tlx := HTX3.out.no q3
          have tlu := HTLU.out.no q3
          have hnx := HNX.out
          have hlu := HLU.out
          have hxl := HXL.out
          rw [hlu] at tlu
          clear q3 ht9
          by_cases hjk : j = k
          · subst hjk
            clear tlx tlu hnx hlu
            go_wp2_with fail
            go_ret
            exact ⟨rfl, HQ9.out⟩
          · have hlt : j < k := by omega
            have hltI : (j : Int) < (k : Int) := by omega
            obtain ⟨gx, cx', ex, hgx, hcx, hcx2⟩ := tlx.pos (by omega)
            rw [hnx] at ex
            simp only [Value.slice.injEq] at ex
            obtain ⟨rfl, _, rfl⟩ := ex
            obtain ⟨gu, cu', eu, hgu, hcu, hcu2⟩ := tlu.pos (by omega)
            rw [hlu] at eu
            simp only [Value.slice.injEq] at eu
            obtain ⟨rfl, _, rfl⟩ := eu
            obtain ⟨tk, htk⟩ : ∃ tk, x[j]? = some tk := ⟨_, List.getElem?_eq_getElem (by omega)⟩
            obtain ⟨uk, huk, a1, a2, a3, a4⟩ := HU.out j tk htk
            obtain ⟨ng, sa, sn, sc, c0, c1, c2, c3, c4, c5, c6, nc⟩ := tlx.row htk
            obtain ⟨mg, ra, rn, rc, b0, b1, b2, b3, b4, b5, b6, nb⟩ := tlu.row huk
            rw [a1] at b0
            rw [a2] at b1
            rw [a4] at b4
            rw [a3] at nb
            have HCMP := hid (fun v (t : Tn No wr v) => rcmp_same nc nb t)
            have HCELL : Hid (∀ v, Tn No wr v → v.cell? ⟨gx, j * 7, none⟩ = some (.int .i64 tk.kind) ∧ v.cell? ⟨gx, j * 7 + 1, none⟩ = some (.string tk.text) ∧ v.cell? ⟨gx, j * 7 + 2, none⟩ = some (.bool ng) ∧ v.cell? ⟨gx, j * 7 + 3, none⟩ = some (.slice sa sn sc) ∧ v.cell? ⟨gx, j * 7 + 4, none⟩ = some (.int .u64 tk.bits) ∧
                v.cell? ⟨gu, j * 7, none⟩ = some (.int .i64 tk.kind) ∧ v.cell? ⟨gu, j * 7 + 1, none⟩ = some (.string tk.text) ∧ v.cell? ⟨gu, j * 7 + 2, none⟩ = some (.bool mg) ∧ v.cell? ⟨gu, j * 7 + 3, none⟩ = some (.slice ra rn rc) ∧ v.cell? ⟨gu, j * 7 + 4, none⟩ = some (.int .u64 tk.bits)) :=
              hid (fun v t => ⟨(t.cell hgx (fun e => e)).trans c0, (t.cell hgx (fun e => e)).trans c1, (t.cell hgx (fun e => e)).trans c2, (t.cell hgx (fun e => e)).trans c3, (t.cell hgx (fun e => e)).trans c4, (t.cell hgu (fun e => e)).trans b0, (t.cell hgu (fun e => e)).trans b1, (t.cell hgu (fun e => e)).trans b2, (t.cell hgu (fun e => e)).trans b3, (t.cell hgu (fun e => e)).trans b4⟩)
            have hk1 : IntKind.i64.wrap ((j : Int) + 1) = ((j + 1 : Nat) : Int) := by rw [IntKind.wrap_i64]; omega
            clear tlx tlu htk huk a1 a2 a3 a4 nc nb hnx hlu hjk c0 c1 c4 c5 c6 b0 b1 b4 b5 b6 hcx hcu hlt hxl
            go_wp2_with fail
            go_region_held3 (fun w' => w'.cell? ⟨gx, j * 7 + 2, none⟩ = some (.bool ng) ∧ w'.cell? ⟨gx, j * 7 + 3, none⟩ = some (.slice sa sn sc) ∧ w'.cell? ⟨gu, j * 7 + 2, none⟩ = some (.bool mg) ∧ w'.cell? ⟨gu, j * 7 + 3, none⟩ = some (.slice ra rn rc)) (go_keep)
              (first | (go_at_call 13; refine (HCMP.out _ (by first | exact Tn.refl _ _ | exact (Tn.refl No wr).drew)).mono ?_; rintro e w9 ⟨rfl, t9⟩; obtain ⟨d0, d1, d2, d3, d4, f0, f1, f2, f3, f4⟩ := HCELL.out w9 (by first | exact t9 | exact ((Tn.refl No wr).drew).then t9)))
            clear c2 c3 b2 b3
            go_wp2_with fail
            go_quiet (fail)
            go_wp2_with fail
            have ht := HT9.out
            refine ⟨⟨j + 1, by omega, by simp, (by repeat (first | exact Tn.refl _ _ | apply Tn.drew | apply Tn.drewN | apply Tn.alloc | (refine Tn.then ?_ (by assumption)) | (refine Tn.thenNo ?_ (by assumption))))⟩, ?_⟩
            simp [intOf]; omega
    · have hlt : k < nx := by omega
      have hltI : (k : Int) < (nx : Int) := by omega
      obtain ⟨gx, cx', ex, hgx, hcx, hcx2⟩ := tlx.pos (by omega)
      rw [hnx] at ex
      simp only [Value.slice.injEq] at ex
      obtain ⟨rfl, _, rfl⟩ := ex
      obtain ⟨tk, htk⟩ : ∃ tk, x[k]? = some tk := ⟨_, List.getElem?_eq_getElem (by omega)⟩
      obtain ⟨ng, sa, sn, sc, c0, c1, c2, c3, c4, c5, c6, _⟩ := tlx.row htk
      have HTK := hid htk
      clear tlx htk hnx hxl hkn hcx hlt
      by_cases h7 : tk.kind = 7
      · rw [h7] at c0
        clear h7 HSZ
        go_wp2_with fail
        all_goals (go_ret; exact ⟨rfl, HQ.out⟩)
      · by_cases h6 : tk.kind = 6
        · rw [h6] at c0
          clear h6 h7 HSZ
          go_wp2_with fail
          all_goals (go_ret; exact ⟨rfl, HQ.out⟩)
        · have n7 : (tk.kind == 7) = false := by rw [beq_eq_false_iff_ne]; exact h7
          have n6 : (tk.kind == 6) = false := by rw [beq_eq_false_iff_ne]; exact h6
          have hsl := (HSELF.out tk (List.mem_of_getElem? HTK.out) h6 h7).2.1
          have hsz := HSZ.out
          have s1 : S.size + (⟨#[32]⟩ : ByteArray).size ≤ 9223372036854775807 := by show S.size + 1 ≤ _; omega
          have s2 : (S ++ (⟨#[32]⟩ : ByteArray)).size + tk.text.size ≤ 9223372036854775807 := by rw [app_size]; show S.size + 1 + tk.text.size ≤ _; omega
          have s3 : S.size + tk.text.size ≤ 9223372036854775807 := by omega
          have HN := hid (And.intro h6 h7)
          have hK2 : Hid (∀ t ∈ x.take (k + 1), t.kind ≠ 6 ∧ t.kind ≠ 7) := hid (fun t ht => by
            rw [List.take_add_one, HTK.out] at ht
            rcases List.mem_append.1 ht with ht | ht
            · exact HK.out t ht
            · simp only [Option.toList_some, List.mem_singleton] at ht
              rw [ht]; exact HN.out)
          have hnext : k ≠ 0 → spr (x.take (k + 1)) = S ++ (⟨#[32]⟩ : ByteArray) ++ tk.text := fun h0 => by
            rw [List.take_add_one, HTK.out, ← HSE.out]
            refine spr_snoc _ _ (fun e => ?_)
            have h2 := HNX.out
            have h3 : (x.take k).length = k := by rw [List.length_take]; omega
            rw [e] at h3
            exact h0 h3.symm
          have hfirst : k = 0 → spr (x.take (k + 1)) = S ++ tk.text := fun h0 => by
            subst h0
            have h1 : S = ⟨#[]⟩ := HSE.out.symm
            rw [List.take_add_one, HTK.out, h1]
            apply ext_of_list
            rw [app_list]
            rfl
          have hk1 : IntKind.i64.wrap ((k : Int) + 1) = ((k + 1 : Nat) : Int) := by rw [IntKind.wrap_i64]; have := HXL.out; omega
          clear hsl hsz h6 h7
          by_cases h0 : k = 0
          · have hf := hid (hfirst h0)
            clear hfirst hnext
            subst h0
            go_wp2_with fail
            have ht := HT.out
            refine ⟨⟨1, by omega, rfl, by rw [hf.out], (by repeat (first | exact Tn.refl _ _ | apply Tn.drew | apply Tn.drewN | apply Tn.alloc | (refine Tn.then ?_ (by assumption)) | (refine Tn.thenNo ?_ (by assumption)))), hK2⟩, ?_⟩
            simp [intOf]; omega
          · have hf := hid (hnext h0)
            have h0I : (0 : Int) < (k : Int) := by omega
            clear hfirst hnext h0
            go_wp2_with fail
            have ht := HT.out
            refine ⟨⟨k + 1, by omega, by simp, by rw [hf.out], (by repeat (first | exact Tn.refl _ _ | apply Tn.drew | apply Tn.drewN | apply Tn.alloc | (refine Tn.then ?_ (by assumption)) | (refine Tn.thenNo ?_ (by assumption)))), hK2⟩, ?_⟩
            simp [intOf]; omega
theorem lexSpread_walk (rb : ByteArray → Int) (s : ByteArray) (w : World) (hr : ∀ s, RBs rb s w) (hs : s.size ≤ 140737488351232) :
    Calls Tryz.prog 5 #[.string s] w fun e w' => e = .returned (.bool true) ∧ Tn No w w' := by
  cases hl : lexW rb s with
  | bad c p => exact spread_bad rb s w hr hs c p hl
  | ok x => exact spread_ok rb s w hr hs x hl
end Go.Proofs.YtcmhfeeocehlaaaGreatDoor
