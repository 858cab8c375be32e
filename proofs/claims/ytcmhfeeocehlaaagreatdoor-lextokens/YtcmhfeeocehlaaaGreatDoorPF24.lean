/-
  strconv.ParseFloat: atof64. (Made by gen_pf24.py.)
-/
import Derived.Test.YtcmhfeeocehlaaaGreatDoorPF23
import Derived.Test.YtcmhfeeocehlaaaGreatDoorEndA
namespace Go.Proofs.YtcmhfeeocehlaaaGreatDoor
set_option linter.unusedSimpArgs false
set_option linter.unusedVariables false
open Go.RowKit Go.PlainAid
attribute [local go_sem ↓] Go.wp_at_zero Go.wp_at_succ
attribute [local go_sem] ffb_run

/-- the tables that strconv reads -/
structure Tabs where
  ch : Nat → Nat × ByteArray
  pt : Nat → Nat
  pw : Nat → Nat
  tab : Nat → Nat
structure Tabs.Ok (T : Tabs) : Prop where
  ch : ChOk T.ch
  pt : ∀ i, i < 9 → 1 ≤ T.pt i ∧ T.pt i ≤ 60
  pw : ∀ i, i < 23 → Nz (T.pw i)
  tab : ∀ i, T.tab i < 18446744073709551616
/-- they lie in memory -/
structure GA (T : Tabs) (w : World) (g p P : Nat × Nat) : Prop where
  opt : w.cell? ⟨5, 0, none⟩ = some (.bool true)
  g6 : G6 w
  g8 : G8 T.pt w p
  g9 : w.cell? ⟨9, 0, none⟩ = some (.slice (some ⟨P.1, P.2, none⟩) 23 23)
  g9r : ∀ i, i < 23 → w.cell? ⟨P.1, P.2 + i, none⟩ = some (.float .f64 (T.pw i))
  g12 : ∀ i, i < 1392 → w.cell? ⟨12, i, none⟩ = some (.int .u64 (T.tab i : Int))
  g13 : G13 T.ch w g

theorem GA.gb {T : Tabs} {w u : World} {g p P : Nat × Nat} (h : GA T w g p P) (t : Tn No w u) (b : Nat) (hb : w.heap.size ≤ b) : Gb T.ch T.pt u b g p := by
  have l6 := World.block_lt_of_cell? _ _ h.g6.m
  have l8 := World.block_lt_of_cell? _ _ h.g8.var
  have l13 := World.block_lt_of_cell? _ _ h.g13.var
  have lg := World.block_lt_of_cell? _ _ (h.g13.row 0 (by omega)).1
  have lp := World.block_lt_of_cell? _ _ (h.g8.row 0 (by omega))
  simp only at l6 l8 l13 lg lp
  have kp : ∀ k o, k < w.heap.size → u.cell? ⟨k, o, none⟩ = w.cell? ⟨k, o, none⟩ := fun k o hk => t.cell hk (fun e => e)
  exact ⟨⟨(kp _ _ l6).trans h.g6.m, (kp _ _ l6).trans h.g6.e, (kp _ _ l6).trans h.g6.b⟩, ⟨(kp _ _ l8).trans h.g8.var, fun i hi => (kp _ _ lp).trans (h.g8.row i hi)⟩, h.g13.no t, by omega, by omega, by omega, by omega, by omega⟩
theorem zc148 : Tryz.zeroCells148 = (List.replicate 800 (Value.int .u8 0) ++ [Value.int .i64 0, Value.int .i64 0, Value.bool false, Value.bool false]).toArray := by kernel_rfl
theorem rep_lt {n i : Nat} {a : Value} {l : List Value} (h : i < n) : (List.replicate n a ++ l)[i]? = some a := by
  rw [List.getElem?_append_left (by rw [List.length_replicate]; exact h), List.getElem?_replicate, if_pos h]
theorem rep_ge (n j : Nat) (a : Value) (l : List Value) : (List.replicate n a ++ l)[n + j]? = l[j]? := by
  rw [List.getElem?_append_right (by rw [List.length_replicate]; omega), List.length_replicate, Nat.add_sub_cancel_left]
theorem zc_at (i : Nat) : Tryz.zeroCells148[i]? = (List.replicate 800 (Value.int .u8 0) ++ [Value.int .i64 0, Value.int .i64 0, Value.bool false, Value.bool false])[i]? := by
  rw [zc148, List.getElem?_toArray]
theorem dec_new (w : World) : DecAt (w.alloc (.cells Tryz.zeroCells148 148)) w.heap.size DS.zero := by
  refine ⟨fun i hi => ?_, ?_, ?_, ?_, ?_, fun i => World.frozen?_alloc_at _ _ _ _ rfl⟩
  · rw [World.cell?_alloc_new]; exact (zc_at i).trans (rep_lt hi)
  · rw [World.cell?_alloc_new]; exact (zc_at 800).trans (rep_ge 800 0 _ _)
  · rw [World.cell?_alloc_new]; exact (zc_at 801).trans (rep_ge 800 1 _ _)
  · rw [World.cell?_alloc_new]; exact (zc_at 802).trans (rep_ge 800 2 _ _)
  · rw [World.cell?_alloc_new]; exact (zc_at 803).trans (rep_ge 800 3 _ _)

set_option maxHeartbeats 16000000 in
set_option maxRecDepth 100000 in
theorem atof_ex (T : Tabs) (hT : T.Ok) (s : ByteArray) (hs : Wf s) : ∃ v er, (er = Value.nilIface ∨ er = .iface 98 (.int .i64 1)) ∧ ∀ (w : World), (∃ g p P, GA T w g p P) →
    Calls Tryz.prog 104 #[.string s] w fun e w' => e = .returned (.tuple #[.float .f64 v, .int .i64 s.size, er]) ∧ Tn No w w' := by
  obtain ⟨mant, p, ng, tr, hm, hrd, hset⟩ := reads_ex s hs
  have HTX := hid hs.tx
  have HRD := hid hrd
  have hsm := hs.tx.small
  clear hrd hs
  by_cases hm0 : mant = 0
  · subst hm0
    apply mk2
    case h =>
      intro w hw
      obtain ⟨g, p8, P, hga⟩ := hw
      have g5 := hga.opt
      have g6m := hga.g6.m
      have g9v := hga.g9
      have HG9 := hid hga.g9r
      skip
      skip
      skip
      skip
      clear hga
      go_enter Tryz.func104, Tryz.ntmps104
      go_wp2_with (first
        | (go_at_call 116; refine (special_raw s _ HTX.out).mono ?_; rintro en w1 ⟨rfl, rfl⟩)
        | (go_at_call 117; refine (HRD.out _).mono ?_; rintro en w2 ⟨rfl, rfl⟩)
        | (go_at_call 125; refine (bool2u_raw _ _).mono ?_; rintro en w3 ⟨rfl, rfl⟩))
      go_ret3
      exact ⟨rfl, Tn.refl _ _⟩
    case hp => exact Or.inl rfl
  · have hmz : ¬ (mant : Int) = 0 := by omega
    have hmzb : ((mant : Int) == 0) = false := by simpa using hmz
    by_cases hp1 : 310 < p
    · skip
      apply mk2
      case h =>
        intro w hw
        obtain ⟨g, p8, P, hga⟩ := hw
        have g5 := hga.opt
        have g6m := hga.g6.m
        have g9v := hga.g9
        have HG9 := hid hga.g9r
        skip
        skip
        skip
        skip
        clear hga
        go_enter Tryz.func104, Tryz.ntmps104
        go_wp2_with (first
          | (go_at_call 116; refine (special_raw s _ HTX.out).mono ?_; rintro en w1 ⟨rfl, rfl⟩)
          | (go_at_call 117; refine (HRD.out _).mono ?_; rintro en w2 ⟨rfl, rfl⟩)
          | (go_at_call 125; refine (bool2u_raw _ _).mono ?_; rintro en w3 ⟨rfl, rfl⟩))
        go_ret3
        exact ⟨rfl, Tn.refl _ _⟩
      case hp => exact Or.inr rfl
    · rw [Int.not_lt] at hp1
      by_cases hp2 : p < -345
      · skip
        apply mk2
        case h =>
          intro w hw
          obtain ⟨g, p8, P, hga⟩ := hw
          have g5 := hga.opt
          have g6m := hga.g6.m
          have g9v := hga.g9
          have HG9 := hid hga.g9r
          skip
          skip
          skip
          skip
          clear hga
          go_enter Tryz.func104, Tryz.ntmps104
          go_wp2_with (first
            | (go_at_call 116; refine (special_raw s _ HTX.out).mono ?_; rintro en w1 ⟨rfl, rfl⟩)
            | (go_at_call 117; refine (HRD.out _).mono ?_; rintro en w2 ⟨rfl, rfl⟩)
            | (go_at_call 125; refine (bool2u_raw _ _).mono ?_; rintro en w3 ⟨rfl, rfl⟩))
          go_ret3
          exact ⟨rfl, Tn.refl _ _⟩
        case hp => exact Or.inl rfl
      · rw [Int.not_lt] at hp2
        obtain ⟨k, hk⟩ : ∃ k : Nat, p = (k : Int) - 348 := ⟨(p + 348).toNat, by omega⟩
        subst hk
        have hk6 : k < 696 := by omega
        obtain ⟨f, er, her, hpf⟩ := pf64_ex mant k (T.tab (k * 2)) (T.tab (k * 2 + 1)) (IntKind.u64.wrap (b2 ng * 9223372036854775808)) hm hk6 (hT.tab _) (hT.tab _)
        have HER := hid her
        have HPF := hid hpf
        clear her hpf
        cases tr
        · obtain ⟨xv, xo, hxo⟩ := exact_ex T.pw hT.pw mant ((k : Int) - 348) ng
          have HEX := hid hxo
          clear hxo
          cases xo
          · skip
            apply mk2
            case h =>
              intro w hw
              obtain ⟨g, p8, P, hga⟩ := hw
              have g5 := hga.opt
              have g6m := hga.g6.m
              have g9v := hga.g9
              have HG9 := hid hga.g9r
              have t1 := hga.g12 (k * 2) (by omega)
              have t2 := hga.g12 (k * 2 + 1) (by omega)
              skip
              skip
              clear hga
              go_enter Tryz.func104, Tryz.ntmps104
              go_wp2_with (first
                | (go_at_call 116; refine (special_raw s _ HTX.out).mono ?_; rintro en w1 ⟨rfl, rfl⟩)
                | (go_at_call 117; refine (HRD.out _).mono ?_; rintro en w2 ⟨rfl, rfl⟩)
                | (go_at_call 125; refine (bool2u_raw _ _).mono ?_; rintro en w3 ⟨rfl, rfl⟩)
                | (go_at_call 127; refine (HEX.out _ P.1 P.2 g6m g9v HG9.out).mono ?_; rintro en w4 ⟨rfl, rfl⟩)
                | (go_at_call_of 128 (Value.int IntKind.u64 (mant : Int)); refine (HPF.out _ t1 t2).mono ?_; rintro en w5 ⟨rfl, tn5⟩))
              go_ret3
              exact ⟨rfl, tn5⟩
            case hp => exact HER.out
          · skip
            apply mk2
            case h =>
              intro w hw
              obtain ⟨g, p8, P, hga⟩ := hw
              have g5 := hga.opt
              have g6m := hga.g6.m
              have g9v := hga.g9
              have HG9 := hid hga.g9r
              skip
              skip
              skip
              skip
              clear hga
              go_enter Tryz.func104, Tryz.ntmps104
              go_wp2_with (first
                | (go_at_call 116; refine (special_raw s _ HTX.out).mono ?_; rintro en w1 ⟨rfl, rfl⟩)
                | (go_at_call 117; refine (HRD.out _).mono ?_; rintro en w2 ⟨rfl, rfl⟩)
                | (go_at_call 125; refine (bool2u_raw _ _).mono ?_; rintro en w3 ⟨rfl, rfl⟩)
                | (go_at_call 127; refine (HEX.out _ P.1 P.2 g6m g9v HG9.out).mono ?_; rintro en w4 ⟨rfl, rfl⟩))
              go_ret3
              exact ⟨rfl, Tn.refl _ _⟩
            case hp => exact Or.inl rfl
        · obtain ⟨m1, hm1⟩ : ∃ m1 : Nat, IntKind.u64.wrap ((mant : Int) + 1) = (m1 : Int) := ⟨_, (Int.toNat_of_nonneg (by rw [IntKind.wrap_u64]; omega)).symm⟩
          have hm1b : m1 < 18446744073709551616 := by rw [IntKind.wrap_u64] at hm1; omega
          obtain ⟨f1, er1, _, hpf1⟩ := pf64_ex m1 k (T.tab (k * 2)) (T.tab (k * 2 + 1)) (IntKind.u64.wrap (b2 ng * 9223372036854775808)) hm1b hk6 (hT.tab _) (hT.tab _)
          have HPG := hid hpf1
          clear hpf1
          cases hcmp : (FloatKind.f64.format.order f f1 == some .eq)
          · obtain ⟨S, sok, _, hs2⟩ := hset hm0
            obtain ⟨v, o, hfb⟩ := floatBits_ex T.ch hT.ch T.pt hT.pt S sok
            have HS := hid hs2
            have HFB := hid hfb
            clear hs2 hfb hset
            cases o
            · skip
              apply mk2
              case h =>
                intro w hw
                obtain ⟨g, p8, P, hga⟩ := hw
                have g5 := hga.opt
                have g6m := hga.g6.m
                have g9v := hga.g9
                have HG9 := hid hga.g9r
                have t1 := hga.g12 (k * 2) (by omega)
                have t2 := hga.g12 (k * 2 + 1) (by omega)
                have b12 := World.block_lt_of_cell? _ _ t1
                have HGA := hid hga
                clear hga
                go_enter Tryz.func104, Tryz.ntmps104
                go_wp2_with (first
                  | (go_at_call 116; refine (special_raw s _ HTX.out).mono ?_; rintro en w1 ⟨rfl, rfl⟩)
                  | (go_at_call 117; refine (HRD.out _).mono ?_; rintro en w2 ⟨rfl, rfl⟩)
                  | (go_at_call 125; refine (bool2u_raw _ _).mono ?_; rintro en w3 ⟨rfl, rfl⟩)
                  | (go_at_call_of 128 (Value.int IntKind.u64 (mant : Int)); refine (HPF.out _ t1 t2).mono ?_; rintro en w5 ⟨rfl, tn5⟩)
                  | (go_at_call_of 128 (Value.int IntKind.u64 (m1 : Int)); refine (HPG.out _ ((tn5.cell b12 (fun e => e)).trans t1) ((tn5.cell b12 (fun e => e)).trans t2)).mono ?_; rintro en w6 ⟨rfl, tn6⟩)
                  | (go_at_call 123; refine (HS.out _ _ (dec_new w6)).mono ?_; rintro en w7 ⟨rfl, tn7, d7⟩; have hgb := (HGA.out.gb (Tn.alloc (tn5.then tn6) (.cells Tryz.zeroCells148 148)) w6.heap.size (by have := tn5.size; have := tn6.size; omega)).keep tn7; have HGB := hid hgb; have HD7 := hid d7; clear hgb d7)
                  | (go_at_call 124; refine (HFB.out _ g p8 _ HD7.out HGB.out).mono ?_; rintro en w8 ⟨rfl, tn8⟩))
                go_ret3
                exact ⟨rfl, (Tn.alloc (tn5.then tn6) _).trans (tn7.then tn8) (fun _ _ e => e) (fun i hi e => by have := tn5.size; have := tn6.size; have e2 : i = w6.heap.size := e; omega)⟩
              case hp => exact Or.inl rfl
            · skip
              apply mk2
              case h =>
                intro w hw
                obtain ⟨g, p8, P, hga⟩ := hw
                have g5 := hga.opt
                have g6m := hga.g6.m
                have g9v := hga.g9
                have HG9 := hid hga.g9r
                have t1 := hga.g12 (k * 2) (by omega)
                have t2 := hga.g12 (k * 2 + 1) (by omega)
                have b12 := World.block_lt_of_cell? _ _ t1
                have HGA := hid hga
                clear hga
                go_enter Tryz.func104, Tryz.ntmps104
                go_wp2_with (first
                  | (go_at_call 116; refine (special_raw s _ HTX.out).mono ?_; rintro en w1 ⟨rfl, rfl⟩)
                  | (go_at_call 117; refine (HRD.out _).mono ?_; rintro en w2 ⟨rfl, rfl⟩)
                  | (go_at_call 125; refine (bool2u_raw _ _).mono ?_; rintro en w3 ⟨rfl, rfl⟩)
                  | (go_at_call_of 128 (Value.int IntKind.u64 (mant : Int)); refine (HPF.out _ t1 t2).mono ?_; rintro en w5 ⟨rfl, tn5⟩)
                  | (go_at_call_of 128 (Value.int IntKind.u64 (m1 : Int)); refine (HPG.out _ ((tn5.cell b12 (fun e => e)).trans t1) ((tn5.cell b12 (fun e => e)).trans t2)).mono ?_; rintro en w6 ⟨rfl, tn6⟩)
                  | (go_at_call 123; refine (HS.out _ _ (dec_new w6)).mono ?_; rintro en w7 ⟨rfl, tn7, d7⟩; have hgb := (HGA.out.gb (Tn.alloc (tn5.then tn6) (.cells Tryz.zeroCells148 148)) w6.heap.size (by have := tn5.size; have := tn6.size; omega)).keep tn7; have HGB := hid hgb; have HD7 := hid d7; clear hgb d7)
                  | (go_at_call 124; refine (HFB.out _ g p8 _ HD7.out HGB.out).mono ?_; rintro en w8 ⟨rfl, tn8⟩))
                go_ret3
                exact ⟨rfl, (Tn.alloc (tn5.then tn6) _).trans (tn7.then tn8) (fun _ _ e => e) (fun i hi e => by have := tn5.size; have := tn6.size; have e2 : i = w6.heap.size := e; omega)⟩
              case hp => exact Or.inr rfl
          · skip
            apply mk2
            case h =>
              intro w hw
              obtain ⟨g, p8, P, hga⟩ := hw
              have g5 := hga.opt
              have g6m := hga.g6.m
              have g9v := hga.g9
              have HG9 := hid hga.g9r
              have t1 := hga.g12 (k * 2) (by omega)
              have t2 := hga.g12 (k * 2 + 1) (by omega)
              have b12 := World.block_lt_of_cell? _ _ t1
              skip
              clear hga
              go_enter Tryz.func104, Tryz.ntmps104
              go_wp2_with (first
                | (go_at_call 116; refine (special_raw s _ HTX.out).mono ?_; rintro en w1 ⟨rfl, rfl⟩)
                | (go_at_call 117; refine (HRD.out _).mono ?_; rintro en w2 ⟨rfl, rfl⟩)
                | (go_at_call 125; refine (bool2u_raw _ _).mono ?_; rintro en w3 ⟨rfl, rfl⟩)
                | (go_at_call_of 128 (Value.int IntKind.u64 (mant : Int)); refine (HPF.out _ t1 t2).mono ?_; rintro en w5 ⟨rfl, tn5⟩)
                | (go_at_call_of 128 (Value.int IntKind.u64 (m1 : Int)); refine (HPG.out _ ((tn5.cell b12 (fun e => e)).trans t1) ((tn5.cell b12 (fun e => e)).trans t2)).mono ?_; rintro en w6 ⟨rfl, tn6⟩))
              go_ret3
              exact ⟨rfl, tn5.then tn6⟩
            case hp => exact HER.out
end Go.Proofs.YtcmhfeeocehlaaaGreatDoor
