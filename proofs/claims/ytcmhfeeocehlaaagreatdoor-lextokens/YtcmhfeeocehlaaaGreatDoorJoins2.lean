/-
  The law LexJoins, walked: both texts are all right.
-/
import Derived.Test.YtcmhfeeocehlaaaGreatDoorJoins
namespace Go.Proofs.YtcmhfeeocehlaaaGreatDoor
set_option linter.unusedSimpArgs false
set_option linter.unusedVariables false
open Go.RowKit Go.PlainAid
attribute [local go_sem ↓] Go.wp_at_zero Go.wp_at_succ

theorem TL.row {w : World} {B g n c : Nat} {ts : List Tk} (h : TL w B (.slice (some ⟨g, 0, none⟩) n c) ts) {j : Nat} {t : Tk} (hj : ts[j]? = some t) :
    ∃ ng sa sn sc, w.cell? ⟨g, j * 7, none⟩ = some (.int .i64 t.kind) ∧ w.cell? ⟨g, j * 7 + 1, none⟩ = some (.string t.text) ∧ w.cell? ⟨g, j * 7 + 2, none⟩ = some (.bool ng) ∧ w.cell? ⟨g, j * 7 + 3, none⟩ = some (.slice sa sn sc) ∧
      w.cell? ⟨g, j * 7 + 4, none⟩ = some (.int .u64 t.bits) ∧ w.cell? ⟨g, j * 7 + 5, none⟩ = some (.int .i64 t.n) ∧ w.cell? ⟨g, j * 7 + 6, none⟩ = some (.int .i64 (t.pl : Int)) ∧ NumAt w B ng (.slice sa sn sc) t.z := by
  obtain ⟨ng, sa, sn, sc, h0, h1, h2, h3, h4, h5, h6, h7, _⟩ := h.tk j t hj
  rw [Nat.mul_comm j 7]
  exact ⟨ng, sa, sn, sc, h0, h1, h2, h3, h4, h5, h6, h7⟩
theorem TL.pos {w : World} {B : Nat} {v : Value} {ts : List Tk} (h : TL w B v ts) (hn : 0 < ts.length) : ∃ g c, v = .slice (some ⟨g, 0, none⟩) ts.length c ∧ g < w.heap.size ∧ ts.length ≤ c ∧ c ≤ 9223372036854775807 := by
  obtain ⟨g, c, h1, h2, h3, h4, _⟩ := h.rw.pos hn
  exact ⟨g, c, h1, h2, h3, h4⟩

theorem word_pl {rb : ByteArray → Int} {s : ByteArray} {a e : Nat} {t : Tk} (h : wordW rb s a = .ok t e) : t.pl = a := by
  have hs : ∀ {k a e t e'}, stands k s a e = .ok t e' → t.pl = a := fun {k a e t e'} h => by
    unfold stands at h; cases h; rfl
  have hl : ∀ {k a e m t e'}, limd k s a e m = .ok t e' → t.pl = a := fun {k a e m t e'} h => by
    unfold limd at h
    split at h
    · cases h
    · exact hs h
  unfold wordW at h
  split at h
  · rw [nameW_eq] at h
    split at h
    · exact hs h
    · cases hm : nm s (run isN s a) with
      | inl q => rw [hm] at h; cases h
      | inr e' => rw [hm] at h; exact hl h
  · split at h
    · unfold numW at h
      split at h
      · split at h
        · cases h
        · cases h; rfl
      · split at h
        · cases h
        · cases h; rfl
    · split at h
      · unfold textW at h
        split at h
        · cases h
        · cases h; rfl
      · split at h
        · unfold charW at h
          split at h
          · cases h
          · split at h
            · cases h; rfl
            · cases h
        · split at h
          · unfold tyvW at h
            split at h
            · exact hl h
            · cases h
          · split at h
            · exact hs h
            · split at h
              · unfold symW at h
                split at h
                · exact hs h
                · exact hl h
              · cases h
theorem al_bound {rb : ByteArray → Int} {s : ByteArray} : ∀ n k ts us, s.size - k ≤ n → k ≤ s.size → ts.length ≤ k → (∀ t ∈ ts, t.pl < s.size) → al rb s k ts = .ok us → us.length ≤ s.size ∧ ∀ t ∈ us, t.pl < s.size := by
  intro n
  induction n with
  | zero =>
    intro k ts us hn hk hl hp ha
    obtain rfl : k = s.size := by omega
    rw [al_end hk (bl_end (Nat.le_refl _))] at ha
    cases ha
    exact ⟨hl, hp⟩
  | succ n ih =>
    intro k ts us hn hk hl hp ha
    cases hb : bl s k with
    | none => rw [al_none hk hb] at ha; cases ha
    | some a =>
      have hab := bl_bound hk hb
      by_cases he : a = s.size
      · subst he
        rw [al_end hk hb] at ha
        cases ha
        exact ⟨by omega, hp⟩
      · cases hw : wordW rb s a with
        | bad c' p' => rw [al_bad hk hb he hw] at ha; cases ha
        | ok t e =>
          rw [al_ok hk hb he hw] at ha
          have hg := word_gt (by omega) hw
          refine ih e (ts ++ [t]) us (by omega) hg.2 (by simp; omega) (fun u hu => ?_) ha
          rcases List.mem_append.1 hu with hu | hu
          · exact hp u hu
          · rw [List.mem_singleton.1 hu, word_pl hw]; omega
theorem lexW_bound {rb : ByteArray → Int} {s : ByteArray} {x : List Tk} (h : lexW rb s = .ok x) : x.length ≤ 65536 ∧ ∀ t ∈ x, t.pl < 65536 := by
  by_cases hl : 65536 < s.size
  · rw [lexW_long rb s hl] at h; cases h
  rw [lexW_al rb s hl] at h
  obtain ⟨h1, h2⟩ := al_bound _ 0 [] x (Nat.le_refl _) (Nat.zero_le _) (Nat.le_refl _) (fun t ht => by cases ht) h
  exact ⟨by omega, fun t ht => by have := h2 t ht; omega⟩

set_option maxHeartbeats 4000000 in
set_option maxRecDepth 100000 in
theorem joins_ok (rb : ByteArray → Int) (a b : ByteArray) (w : World) (hr : ∀ s, RBs rb s w) (x y : List Tk) (hx : lexW rb a = .ok x) (hy : lexW rb b = .ok y) (hl : a.size + b.size + 1 ≤ 65536) :
    Calls Tryz.prog 6 #[.string a, .string b] w fun e w' => e = .returned (.bool true) ∧ Tn No w w' := by
  have z1 : (a ++ nl).size = a.size + 1 := app_size a nl
  have z2 : (a ++ nl ++ b).size = a.size + 1 + b.size := by rw [app_size, z1]
  have hz := lex_join rb a b x y hx hy hl
  have hA := fun (w' : World) (t : Tn No w w') => tokens_raw rb a w' (by omega) ((hr a).no t)
  have hB := fun (w' : World) (t : Tn No w w') => tokens_raw rb b w' (by omega) ((hr b).no t)
  have hC := fun (w' : World) (t : Tn No w w') => tokens_raw rb (a ++ nl ++ b) w' (by omega) ((hr _).no t)
  rw [hx] at hA
  rw [hy] at hB
  rw [hz] at hC
  have HA := hid hA
  have HB := hid hB
  have HC := hid hC
  have s1 : a.size + (⟨#[10]⟩ : ByteArray).size ≤ 9223372036854775807 := by show a.size + 1 ≤ _; omega
  have s2 : (a ++ (⟨#[10]⟩ : ByteArray)).size + b.size ≤ 9223372036854775807 := by show (a ++ nl).size + b.size ≤ _; omega
  have hd : decide ((65536 : Int) < (a.size : Int) + (b.size : Int) + 1) = false := by rw [decide_eq_false_iff_not]; omega
  have hw1 : IntKind.i64.wrap ((a.size : Int) + (b.size : Int)) = (a.size : Int) + (b.size : Int) := by rw [IntKind.wrap_i64]; omega
  have hw2 : IntKind.i64.wrap ((a.size : Int) + (b.size : Int) + 1) = (a.size : Int) + (b.size : Int) + 1 := by rw [IntKind.wrap_i64]; omega
  have hlen : (x ++ y.map (Tk.sh (a.size + 1))).length = x.length + y.length := by simp
  obtain ⟨z, hzz⟩ : ∃ z, x ++ y.map (Tk.sh (a.size + 1)) = z := ⟨_, rfl⟩
  rw [hzz] at HC hlen
  have HZ := hid hzz
  have HLEN := hid hlen
  obtain ⟨hxl, hxp⟩ := lexW_bound hx
  obtain ⟨hyl, hyp⟩ := lexW_bound hy
  have HXP := hid hxp
  have HYP := hid hyp
  obtain ⟨nx, hnx⟩ : ∃ n, x.length = n := ⟨_, rfl⟩
  obtain ⟨ny, hny⟩ : ∃ n, y.length = n := ⟨_, rfl⟩
  obtain ⟨nz, hnz⟩ : ∃ n, z.length = n := ⟨_, rfl⟩
  have HNX := hid hnx
  have HNY := hid hny
  have HNZ := hid hnz
  have hw3 : IntKind.i64.wrap ((nx : Int) + (ny : Int)) = (nx : Int) + (ny : Int) := by rw [IntKind.wrap_i64]; omega
  have hne : ((nz : Int) != (nx : Int) + (ny : Int)) = false := by
    have : (nz : Int) = (nx : Int) + (ny : Int) := by omega
    simp [this]
  have HL := hid hl
  have HXL := hid hxl
  have HYL := hid hyl
  clear z1 z2 hr hl hA hB hC hx hy hz hzz hlen hxl hyl hnx hny hnz hxp hyp
  unfold nl at HC
  go_enter Tryz.func6, Tryz.ntmps6
  go_wp2_with (first
    | (go_at_call 7; refine (awake_raw _).mono ?_; rintro e w1 ⟨rfl, t1⟩)
    | (go_at_call 8; refine (HA.out _ (by repeat (first | exact Tn.refl _ _ | apply Tn.drew | apply Tn.drewN | apply Tn.alloc | (refine Tn.then ?_ (by assumption)) | (refine Tn.thenNo ?_ (by assumption))))).mono ?_; rintro e w2 ⟨t2, ax, cx, rfl, tlx, ox⟩; clear HA; have HTLX := hid tlx; clear tlx ox; rw [HNX.out]; simp only [msV])
    | (go_at_call 8; refine (HB.out _ (by repeat (first | exact Tn.refl _ _ | apply Tn.drew | apply Tn.drewN | apply Tn.alloc | (refine Tn.then ?_ (by assumption)) | (refine Tn.thenNo ?_ (by assumption))))).mono ?_; rintro e w3 ⟨t3, ay, cy, rfl, tly, oy⟩; clear HB; have HTLY := hid tly; clear tly oy; rw [HNY.out]; simp only [msV]; obtain ⟨k3, _, z3⟩ := one_block t3; have k30 := k3 0; simp at k30; clear k3)
    | (go_at_call 8; refine (HC.out _ (by repeat (first | exact Tn.refl _ _ | apply Tn.drew | apply Tn.drewN | apply Tn.alloc | (refine Tn.then ?_ (by assumption)) | (refine Tn.thenNo ?_ (by assumption))))).mono ?_; rintro e w4 ⟨t4, az, cz, rfl, tlz, oz⟩; have HTLZ := hid tlz; clear tlz oz; rw [HNZ.out]; simp only [msV]; obtain ⟨k4, _, z4⟩ := one_block t4; have k40 := k4 0; simp at k40; have k31 := ((Tn.thenNo ((Tn.refl No w3).alloc _) t4).cell (k := w2.heap.size) (o := 0) z3 (fun e => e)).trans k30; have y4 : w3.heap.size < w4.heap.size := z4; have y3 : w2.heap.size < w4.heap.size := Nat.lt_trans z3 z4; clear k4 k30 z3 z4))
  have HW2 : Hid (∀ wr, Tn No (w4.alloc (.cells #[.int .i64 0, .int .i64 0] 26)) wr → Tn No w2 wr ∧ Tn No w3 wr ∧ Tn No w4 wr ∧ Tn No w wr) := hid (fun wr ht => by
    have q4 := Tn.thenNo ((Tn.refl No w4).alloc _) ht
    have q3 := Tn.thenNo (Tn.thenNo ((Tn.refl No w3).alloc _) t4) q4
    have q2 := Tn.thenNo (Tn.thenNo ((Tn.refl No w2).alloc _) t3) q3
    exact ⟨q2, q3, q4, Tn.thenNo (Tn.thenNo t1 t2) q2⟩)
  clear t1 t2 t3 t4 k31 k40 y3 y4 s1 s2 hd hw1 hw2 hne hw3 HC
  go_loopw [12] (fun i wr => ∃ k : Nat, k ≤ nz ∧ i = .int .i64 (k : Int) ∧ Tn No (w4.alloc (.cells #[.int .i64 0, .int .i64 0] 26)) wr) (fun i _ => nz - (intOf i).toNat)
  case atStart => exact ⟨0, Nat.zero_le _, rfl, Tn.refl _ _⟩
  case round =>
    obtain ⟨k, hk, rfl, ht⟩ := hrel
    obtain ⟨q2, q3, q4, qw⟩ := HW2.out _ ht
    have HT := hid ht
    have HQ := hid qw
    have tlx := HTLX.out.no q2
    have tly := HTLY.out.no q3
    have tlz := HTLZ.out.no q4
    have hzz := HZ.out
    have hlen := HLEN.out
    have hnx := HNX.out
    have hny := HNY.out
    have hnz := HNZ.out
    have hxl := HXL.out
    have hyl := HYL.out
    rw [hnx] at tlx
    rw [hny] at tly
    rw [hnz] at tlz
    clear HTLX HTLY HTLZ HZ HLEN HNX HNY HNZ HXL HYL HW2 q2 q3 q4 qw ht
    by_cases hkn : k = nz
    · subst hkn
      clear tlx tly tlz hzz hlen hnx hny hnz hxl hyl
      go_wp2_with fail
      go_ret
      exact ⟨rfl, HQ.out⟩
    · have hlt : k < nz := by omega
      have hltI : (k : Int) < (nz : Int) := by omega
      have hk1 : IntKind.i64.wrap ((k : Int) + 1) = ((k + 1 : Nat) : Int) := by rw [IntKind.wrap_i64]; omega
      obtain ⟨gz, cz', ez, hgz, hcz, hcz2⟩ := tlz.pos (by omega)
      rw [hnz] at ez
      simp only [Value.slice.injEq] at ez
      obtain ⟨rfl, _, rfl⟩ := ez
      by_cases hkx : k < nx
      · obtain ⟨tk, htk⟩ : ∃ tk, x[k]? = some tk := ⟨_, List.getElem?_eq_getElem (by omega)⟩
        have hzk : z[k]? = some tk := by rw [← hzz, List.getElem?_append_left (by omega), htk]
        obtain ⟨_, _, _, _, b0, b1, b2, b3, b4, b5, b6, _⟩ := tlz.row hzk
        obtain ⟨gx, cx', ex, hgx, hcx, hcx2⟩ := tlx.pos (by omega)
        rw [hnx] at ex
        simp only [Value.slice.injEq] at ex
        obtain ⟨rfl, _, rfl⟩ := ex
        obtain ⟨ng, sa, sn, sc, c0, c1, c2, c3, c4, c5, c6, _⟩ := tlx.row htk
        have hkxI : (k : Int) < (nx : Int) := by omega
        have hpl := HXP.out tk (List.mem_of_getElem? htk)
        have hw5 : IntKind.i64.wrap (tk.pl : Int) = (tk.pl : Int) := by rw [IntKind.wrap_i64]; omega
        clear tlx tly tlz hzz hlen hnx hny hnz hxl hyl hzk htk hkn hk hlt hkx hpl HYP HXP
        go_wp2_with fail
        go_quiet (fail)
        go_wp2_with fail
        have ht := HT.out
        refine ⟨⟨k + 1, by omega, by simp, (by repeat (first | exact Tn.refl _ _ | apply Tn.drew | apply Tn.drewN | apply Tn.alloc | (refine Tn.then ?_ (by assumption)) | (refine Tn.thenNo ?_ (by assumption))))⟩, ?_⟩
        simp [intOf]; omega
      · obtain ⟨j, hj⟩ : ∃ j : Nat, k = nx + j := ⟨k - nx, by omega⟩
        obtain ⟨tk, htk⟩ : ∃ tk, y[j]? = some tk := ⟨_, List.getElem?_eq_getElem (by omega)⟩
        have hzk : z[k]? = some (tk.sh (a.size + 1)) := by
          rw [← hzz, List.getElem?_append_right (by omega), show k - x.length = j by omega, List.getElem?_map, htk]; rfl
        obtain ⟨_, _, _, _, b0, b1, b2, b3, b4, b5, b6, _⟩ := tlz.row hzk
        obtain ⟨gy, cy', ey, hgy, hcy, hcy2⟩ := tly.pos (by omega)
        rw [hny] at ey
        simp only [Value.slice.injEq] at ey
        obtain ⟨rfl, _, rfl⟩ := ey
        obtain ⟨ng, sa, sn, sc, c0, c1, c2, c3, c4, c5, c6, _⟩ := tly.row htk
        have hkxI : (nx : Int) ≤ (k : Int) := by omega
        have hkxD : decide (k < nx) = false := by rw [decide_eq_false_iff_not]; omega
        have hal := HL.out
        have hjI : (j : Int) < (ny : Int) := by omega
        have hw4 : IntKind.i64.wrap ((k : Int) - (nx : Int)) = (j : Int) := by rw [IntKind.wrap_i64]; omega
        have hpl := HYP.out tk (List.mem_of_getElem? htk)
        have hw5 : IntKind.i64.wrap ((a.size : Int) + 1) = (a.size : Int) + 1 := by rw [IntKind.wrap_i64]; omega
        have hw6 : IntKind.i64.wrap ((tk.pl : Int) + ((a.size : Int) + 1)) = (a.size : Int) + 1 + (tk.pl : Int) := by rw [IntKind.wrap_i64]; omega
        have b6' : wr.cell? ⟨gz, k * 7 + 6, none⟩ = some (.int .i64 ((a.size : Int) + 1 + (tk.pl : Int))) := b6
        have b0' : wr.cell? ⟨gz, k * 7, none⟩ = some (.int .i64 tk.kind) := b0
        have b1' : wr.cell? ⟨gz, k * 7 + 1, none⟩ = some (.string tk.text) := b1
        clear tlx tly tlz hzz hlen hnx hny hnz hxl hyl hzk htk hkn hk hlt hkx hj hpl b0 b1 b6 HYP HXP hal HL
        go_wp2_with fail
        go_quiet (fail)
        go_wp2_with fail
        have ht := HT.out
        refine ⟨⟨k + 1, by omega, by simp, (by repeat (first | exact Tn.refl _ _ | apply Tn.drew | apply Tn.drewN | apply Tn.alloc | (refine Tn.then ?_ (by assumption)) | (refine Tn.thenNo ?_ (by assumption))))⟩, ?_⟩
        simp [intOf]; omega
theorem lexJoins_walk (rb : ByteArray → Int) (a b : ByteArray) (w : World) (hr : ∀ s, RBs rb s w) (ha : a.size ≤ 140737488351232) (hb : b.size ≤ 140737488351232) :
    Calls Tryz.prog 6 #[.string a, .string b] w fun e w' => e = .returned (.bool true) ∧ Tn No w w' := by
  by_cases hc : (lexW rb a).code = 0 ∧ (lexW rb b).code = 0
  · by_cases hl : 65536 < a.size + b.size + 1
    · exact joins_long rb a b w hr hc.1 hc.2 hl
    · obtain ⟨x, hx, _⟩ := lexW_code hc.1
      obtain ⟨y, hy, _⟩ := lexW_code hc.2
      exact joins_ok rb a b w hr x y hx hy (by omega)
  · exact joins_bad rb a b w hr ha hb hc
end Go.Proofs.YtcmhfeeocehlaaaGreatDoor
