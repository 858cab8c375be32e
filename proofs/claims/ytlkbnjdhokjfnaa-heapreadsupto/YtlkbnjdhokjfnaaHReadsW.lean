/-
  heap: HeapReads, walked.
-/
import Derived.Test.YtlkbnjdhokjfnaaRRead
import Derived.Test.YtlkbnjdhokjfnaaHSpoil
import Derived.Test.YtlkbnjdhokjfnaaRSame
import Derived.Test.YtlkbnjdhokjfnaaHBackW
namespace Go.Proofs.Ytlkbnjdhokjfnaa
set_option linter.unusedSimpArgs false
set_option linter.unusedVariables false
open Go.RowKit
attribute [local go_sem ↓] Go.wp_at_zero Go.wp_at_succ

theorem TwoC.tn2 {F : Nat → Prop} {b : Nat} {tv rv : Value} {u u' : World} (h : TwoC b tv rv u) (t : Tn F u u') (hn : ¬ F b) : TwoC b tv rv u' := ⟨by rw [t.cell h.2.2 hn]; exact h.1, by rw [t.cell h.2.2 hn]; exact h.2.1, Nat.lt_of_lt_of_le h.2.2 t.size⟩
/-- a graph that Read answers -/
structure RdV (b : List UInt8) (at_ : Nat) (roots : List Nat) (w : World) (tv rv : Value) (out : List Th) (ros : List Rf) (w' : World) : Prop where
  go : GO w' w.heap.size tv rv out ros
  tn : Tn No w w'
  okt : ∀ t ∈ out, okT t.pl
  okr : ∀ r ∈ ros, okR r
  bad : ¬ (placeB (at_ : Int) (b.length : Int) = true ∧ ∃ row, Hp.Walk (getN b at_) 0 (Hp.meet [] (roots.map Hp.value)) row) → out = [] ∧ ros = []
  good : ∀ row, placeB (at_ : Int) (b.length : Int) = true → Hp.Walk (getN b at_) 0 (Hp.meet [] (roots.map Hp.value)) row → out.map Th.nd = Hp.things (getN b at_) row ∧ ros.map vOf = Hp.roots row (roots.map Hp.value)

def ReadAny (b : List UInt8) (at_ : Nat) (roots : List Nat) (E : Int) (w : World) (e : Ending) (w' : World) : Prop := ∃ a1 n1 c1 a2 n2 c2 out ros, e = .returned (.tuple #[.agg #[.slice a1 n1 c1, .slice a2 n2 c2], .int .i64 E]) ∧ RdV b at_ roots w (.slice a1 n1 c1) (.slice a2 n2 c2) out ros w'

theorem read_any (b : List UInt8) (at_ : Nat) (roots : List Nat) : ∃ E : Int, ∀ w e w', ReadPost b at_ roots w e w' → ReadAny b at_ roots E w e w' := by
  by_cases hp : placeB (at_ : Int) (b.length : Int) = true
  · by_cases hw : ∃ row, Hp.Walk (getN b at_) 0 (Hp.meet [] (roots.map Hp.value)) row
    · obtain ⟨row0, wk0⟩ := hw
      refine ⟨0, fun w e w' h => ?_⟩
      rcases h with ⟨h, _⟩ | ⟨_, tv, rv, out, ros, row, he, hmd, wk, h1, h2⟩ | ⟨_, _, _, i, row, k, st, hk, hn⟩
      · rw [hp] at h; cases h
      · obtain ⟨a1, c1, e1, _⟩ := hmd.go.things.rw.form
        obtain ⟨a2, c2, e2, _⟩ := hmd.go.roots.rw.form
        subst e1 e2
        exact ⟨_, _, _, _, _, _, out, ros, he, hmd.go, hmd.tn, hmd.okt, hmd.okr, fun hn => absurd ⟨hp, _, wk⟩ hn, fun row' _ wk' => by rw [← wk.same wk']; exact ⟨h1, h2⟩⟩
      · exact absurd hn (steps_there st wk0 hk)
    · refine ⟨140, fun w e w' h => ?_⟩
      rcases h with ⟨h, _⟩ | ⟨_, tv, rv, out, ros, row, he, hmd, wk, h1, h2⟩ | ⟨_, he, tn, _⟩
      · rw [hp] at h; cases h
      · exact absurd ⟨_, wk⟩ hw
      · exact ⟨none, 0, 0, none, 0, 0, [], [], he, go_nil _ _, tn, (fun t ht => by cases ht), (fun r hr => by cases hr), fun _ => ⟨rfl, rfl⟩, fun row _ wk => absurd ⟨_, wk⟩ hw⟩
  · refine ⟨1, fun w e w' h => ?_⟩
    rcases h with ⟨_, he, tn⟩ | ⟨h, _⟩ | ⟨h, _⟩
    · exact ⟨none, 0, 0, none, 0, 0, [], [], he, go_nil _ _, tn, (fun t ht => by cases ht), (fun r hr => by cases hr), fun _ => ⟨rfl, rfl⟩, fun row h _ => absurd h hp⟩
    · exact absurd h hp
    · exact absurd h hp

theorem rdv_eq {b : List UInt8} {at_ : Nat} {roots : List Nat} {w w' v v' : World} {a c d f : Value} {o1 o2 : List Th} {r1 r2 : List Rf} (h1 : RdV b at_ roots w a c o1 r1 w') (h2 : RdV b at_ roots v d f o2 r2 v') : eqG o1 o2 r1 r2 = true := by
  by_cases hq : placeB (at_ : Int) (b.length : Int) = true ∧ ∃ row, Hp.Walk (getN b at_) 0 (Hp.meet [] (roots.map Hp.value)) row
  · obtain ⟨hp, row, wk⟩ := hq
    obtain ⟨e1, e2⟩ := h1.good row hp wk
    obtain ⟨f1, f2⟩ := h2.good row hp wk
    unfold eqG
    rw [Bool.and_eq_true, decide_eq_true_eq, decide_eq_true_eq]
    exact ⟨(rfs_iff h1.okr h2.okr).2 (e2.trans f2.symm), (nds_iff h1.okt h2.okt).2 (e1.trans f1.symm)⟩
  · obtain ⟨rfl, rfl⟩ := h1.bad hq
    obtain ⟨rfl, rfl⟩ := h2.bad hq
    rfl

theorem br_ld {w : World} {v : Value} {l : List UInt8} (h : BR w v l) : LD 1 eB w v l := by
  rcases h.rw with ⟨e, e'⟩ | ⟨g, cap, e, hg, h1, h2, h3⟩
  · obtain rfl := List.length_eq_zero_iff.1 e'
    rw [e]
    exact LD.nil _ _ _
  · refine ⟨some ⟨g, 0, none⟩, cap, e, h1, by unfold maxLen at h2; omega, fun _ => ⟨g, 0, rfl, hg, fun i hi j hj => ?_⟩⟩
    have := h.at' i hi
    rw [e] at this
    obtain rfl : j = 0 := by omega
    simpa [vc, eB] using this

set_option maxHeartbeats 16000000 in
set_option maxRecDepth 100000 in
theorem reads_walk (v rvv : Value) (b : List UInt8) (at_ : Nat) (roots : List Nat) (w : World) (h : LD 1 eB w v b) (hb : b.length ≤ 1073741824) (hat : at_ < 18446744073709551616) (hr : LD 1 eU w rvv (Hp.cs roots)) (hrl : roots.length ≤ 1073741824) (hrw : ∀ x ∈ roots, x < 18446744073709551616) :
    Calls Try.prog 6 #[v, .int .u64 (at_ : Int), rvv] w fun e w' => e = .returned (.bool true) ∧ Tn No w w' := by
  obtain ⟨E, hE⟩ := read_any b at_ roots
  obtain ⟨S, hS⟩ : ∃ S : ByteArray, (⟨b.toArray⟩ : ByteArray) = S := ⟨_, rfl⟩
  have hSl : S.data.toList = b := by rw [← hS]
  have hSz : S.size = b.length := by rw [← hS]; simp [ByteArray.size]
  have HCV : Hid (∀ u, Tn No w u → (convert 40 9 v).run Try.prog u = .ok (.string S) u) := hid (fun u t => by rw [← hS]; exact ld_string (h.no t))
  have HRF : Hid (∀ g cap w1, BR w1 (.slice (some ⟨g, 0, none⟩) S.size cap) S.data.toList → Tn No w w1 → Calls Try.prog 26 #[.slice (some ⟨g, 0, none⟩) S.size cap, .int .u64 (at_ : Int), rvv] w1 (ReadAny b at_ roots E w1)) := hid (fun g cap w1 hbr t => by
    rw [hSl] at hbr
    exact (rRead_raw _ rvv b at_ roots w1 (br_ld hbr) hb hat (hr.no t) hrl hrw).mono (fun e w' hp => hE _ _ _ hp))
  have HRG : Hid (∀ w1, Tn No w w1 → Calls Try.prog 27 #[v, .int .u64 (at_ : Int), rvv] w1 (ReadAny b at_ roots E w1)) := hid (fun w1 t => (Read_raw v rvv b at_ roots w1 (h.no t) hb hat (hr.no t) hrl hrw).mono (fun e w' hp => hE _ _ _ hp))
  have HKN : Hid (∀ u, Calls Try.prog 15 #[] u fun e w' => e = .returned (.bool true) ∧ Tn No u w') := hid known_raw
  have hsm : S.size ≤ maxLen := by unfold maxLen; omega
  have hc0 := HCV.out w (Tn.refl No w)
  obtain ⟨va, vk, hvf, _⟩ := h.form
  obtain ⟨ra, rc, hrf, _⟩ := hr.form
  obtain ⟨n, hn⟩ : ∃ n, b.length = n := ⟨_, rfl⟩
  obtain ⟨rl, hrl'⟩ : ∃ n, (Hp.cs roots).length = n := ⟨_, rfl⟩
  rw [hn] at hvf
  rw [hrl'] at hrf
  subst hvf hrf
  have HSM := hid hsm
  clear h hr hE hS hSl hSz hn hrl' hb hat hrl hrw hsm
  -- what follows the three calls
  have HEQ1 : Hid (∀ w1 w2 w4 w6 a1 n1 c1 a2 n2 c2 a3 n3 c3 a4 n4 c4 a5 n5 c5 a6 n6 c6 o1 r1 o2 r2 o3 r3, Tn No w w1 → RdV b at_ roots w1 (.slice a1 n1 c1) (.slice a2 n2 c2) o1 r1 w2 → RdV b at_ roots (w2.alloc (.cells #[.slice a1 n1 c1, .slice a2 n2 c2] 27)) (.slice a3 n3 c3) (.slice a4 n4 c4) o2 r2 w4 → RdV b at_ roots (w4.alloc (.cells #[.slice a3 n3 c3, .slice a4 n4 c4] 27)) (.slice a5 n5 c5) (.slice a6 n6 c6) o3 r3 w6 →
      (TwoC w2.heap.size (.slice a1 n1 c1) (.slice a2 n2 c2) w6 ∧ TwoC w4.heap.size (.slice a3 n3 c3) (.slice a4 n4 c4) w6) ∧
      Calls Try.prog 19 #[.agg #[.slice a3 n3 c3, .slice a4 n4 c4], .agg #[.slice a1 n1 c1, .slice a2 n2 c2]] (w6.alloc (.cells #[.slice a5 n5 c5, .slice a6 n6 c6] 27)) fun e w8 => e = .returned (.bool true) ∧ TwoC w4.heap.size (.slice a3 n3 c3) (.slice a4 n4 c4) w8 ∧
        Calls Try.prog 20 #[.agg #[.slice a3 n3 c3, .slice a4 n4 c4]] w8 fun e w9 => e = .returned (.tuple #[]) ∧ TwoC w2.heap.size (.slice a1 n1 c1) (.slice a2 n2 c2) w9 ∧ TwoC w6.heap.size (.slice a5 n5 c5) (.slice a6 n6 c6) w9 ∧
          Calls Try.prog 19 #[.agg #[.slice a5 n5 c5, .slice a6 n6 c6], .agg #[.slice a1 n1 c1, .slice a2 n2 c2]] w9 fun e w10 => e = .returned (.bool true) ∧ Tn No w w10) := hid (by
    intro w1 w2 w4 w6 a1 n1 c1 a2 n2 c2 a3 n3 c3 a4 n4 c4 a5 n5 c5 a6 n6 c6 o1 r1 o2 r2 o3 r3 t1 v1 v2 v3
    have ta2 : Tn No w2 (w2.alloc (.cells #[.slice a1 n1 c1, .slice a2 n2 c2] 27)) := (Tn.refl No w2).alloc _
    have ta4 : Tn No w4 (w4.alloc (.cells #[.slice a3 n3 c3, .slice a4 n4 c4] 27)) := (Tn.refl No w4).alloc _
    have ta6 : Tn No w6 (w6.alloc (.cells #[.slice a5 n5 c5, .slice a6 n6 c6] 27)) := (Tn.refl No w6).alloc _
    have k2 : TwoC w2.heap.size (.slice a1 n1 c1) (.slice a2 n2 c2) w6 := (((twoC_new w2 _ _ _).no v2.tn).no ta4).no v3.tn
    have k4 : TwoC w4.heap.size (.slice a3 n3 c3) (.slice a4 n4 c4) w6 := (twoC_new w4 _ _ _).no v3.tn
    have g1 : GO w6 w1.heap.size (.slice a1 n1 c1) (.slice a2 n2 c2) o1 r1 := v1.go.no ((ta2.then v2.tn).then (ta4.then v3.tn))
    have g2 := v2.go.no (ta4.then v3.tn)
    refine ⟨⟨k2, k4⟩, (rEqual_raw _ _ _ _ _ _ _ _ _ (g2.ga.no ta6) (g1.ga.no ta6)).mono ?_⟩
    rintro e w8 ⟨he, t8⟩
    rw [rdv_eq v2 v1] at he
    have t68 := ta6.then t8
    refine ⟨he, k4.no t68, (spoil_raw _ _ _ _ _ w8 (g2.no t68)).mono ?_⟩
    rintro e w9 ⟨he9, ts⟩
    have hown := v2.go.owns
    have zz : w2.heap.size + 1 ≤ w4.heap.size := by have := v2.tn.size; simpa using this
    have z4 : w4.heap.size + 1 ≤ w6.heap.size := by have := v3.tn.size; simpa using this
    have z1 := v1.tn.size
    have n2' : ¬ ownF (.slice a3 n3 c3) (.slice a4 n4 c4) o2 w2.heap.size := fun e => by have := (hown _ e).1; simp only [World.size_alloc] at this; omega
    have n6' : ¬ ownF (.slice a3 n3 c3) (.slice a4 n4 c4) o2 w6.heap.size := fun e => by have := (hown _ e).2; omega
    have q2 : TwoC w2.heap.size (.slice a1 n1 c1) (.slice a2 n2 c2) w9 := (k2.no t68).tn2 ts n2'
    have q6 : TwoC w6.heap.size (.slice a5 n5 c5) (.slice a6 n6 c6) w9 := ((twoC_new w6 _ _ _).no t8).tn2 ts n6'
    have tw2 : Tn No w2 w9 := (((ta2.then v2.tn).then (ta4.then v3.tn)).then t68).trans ts (fun _ _ e => e) (fun i hi e => by have := (hown _ e).1; simp only [World.size_alloc] at this; omega)
    have h1 : GA w9 (.slice a1 n1 c1) (.slice a2 n2 c2) o1 r1 := v1.go.ga.no tw2
    have h3 : GO w9 (w4.alloc (.cells #[.slice a3 n3 c3, .slice a4 n4 c4] 27)).heap.size (.slice a5 n5 c5) (.slice a6 n6 c6) o3 r3 := (v3.go.no t68).kept ts (fun k e => by have := (hown k e).2; simp; omega)
    refine ⟨he9, q2, q6, (rEqual_raw _ _ _ _ _ _ _ _ w9 h3.ga h1).mono ?_⟩
    rintro e w10 ⟨he10, t10⟩
    rw [rdv_eq v3 v1] at he10
    exact ⟨he10, ((t1.then v1.tn).then tw2).then t10⟩)
  go_enter Try.func6, Try.ntmps6
  go_wp2_with (first
    | (go_at_call 15; refine (HKN.out _).mono ?_; rintro e w11 ⟨rfl, t11⟩; have HT11 := hid (HT10.out.then t11); clear t11)
    | (go_at_call 19; refine HE9.out.mono ?_; rintro e w10 ⟨rfl, t10⟩; have HT10 := hid t10; have hcv := HCV.out w10 t10; clear t10)
    | (go_at_call 20; refine HE8.out.mono ?_; rintro e w9 ⟨rfl, ⟨Z0, Z1, Z2⟩, ⟨Z3, Z4, Z5⟩, he9⟩; have HE9 := hid he9; clear he9)
    | (go_at_call 19; refine HE6.out.mono ?_; rintro e w8 ⟨rfl, ⟨Y0, Y1, Y2⟩, he8⟩; have HE8 := hid he8; clear he8)
    | (go_at_call 27; refine (HRG.out _ (HT4.out.alloc _)).mono ?_; rintro e w6 ⟨a5, n5, c5, a6, n6, c6, o3, r3, rfl, hv3⟩; obtain ⟨⟨⟨s0, s1, s2⟩, ⟨s3, s4, s5⟩⟩, he6⟩ := HEQ1.out _ _ _ _ _ _ _ _ _ _ _ _ _ _ _ _ _ _ _ _ _ _ _ _ _ _ _ _ HT1.out HV1.out HV2.out hv3; have HE6 := hid he6; clear he6 hv3)
    | (go_at_call 27; refine (HRG.out _ (HT2.out.alloc _)).mono ?_; rintro e w4 ⟨a3, n3, c3, a4, n4, c4, o2, r2, rfl, hv2⟩; have HV2 := hid hv2; have HT4 := hid ((HT2.out.alloc _).then hv2.tn); clear hv2)
    | (go_at_call 26; refine (HRF.out _ _ _ HBR.out HT1.out).mono ?_; rintro e w2 ⟨a1, n1, c1, a2, n2, c2, o1, r1, rfl, hv1⟩; have HV1 := hid hv1; have HT2 := hid (HT1.out.then hv1.tn); clear hv1)
    | (refine wpList_bytes _ rfl _ rfl S rfl HSM.out ?_; intro g cap w1 hbr t1 hg1 hg2; have HBR := hid hbr; have HT1 := hid t1; clear hbr t1))
  go_ret
  exact ⟨rfl, HT11.out⟩
end Go.Proofs.Ytlkbnjdhokjfnaa
