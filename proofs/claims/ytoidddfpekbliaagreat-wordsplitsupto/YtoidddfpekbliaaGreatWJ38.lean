/-
  word: what a graph's instructions do with cells: graph.uses, where there is one block.
-/
import Derived.Test.YtoidddfpekbliaaGreatWJ37
import Derived.Lib.AppendZeros
namespace Go.Proofs.YtoidddfpekbliaaGreat
set_option linter.unusedSimpArgs false
set_option linter.unusedVariables false
open Go.RowKit
attribute [local go_sem ↓] Go.wp_at_zero Go.wp_at_succ

/-- what is told: to whom, of what, in which worlds -/
structure TL6 (K : Nat) (cs : Array Value) (F : Nat → Prop) (D : List (Int × Int) → World → Prop) (all : List (Int × Int)) : Prop where
  enters : Enters Tryz.prog K
  no : ∀ p u u', D p u → Tn No u u' → D p u'
  step : ∀ p y z s u, all = p ++ (y, z) :: s → D p u → Calls Tryz.prog K (#[.int .i32 0, .int .i64 z, .bool (y == 1)] ++ cs) u fun e w' => e = .returned (.tuple #[]) ∧ D (p ++ [(y, z)]) w' ∧ Tn F u w'

set_option maxHeartbeats 1000000 in
theorem uses_one {K : Nat} {cs : Array Value} {F : Nat → Prop} {D : List (Int × Int) → World → Prop} {all : List (Int × Int)} (h : TL6 K cs F D all) (x : Wd) (u : World) (hx : WA u x) (p s : List (Int × Int)) (he : all = p ++ usesF x ++ s) (hk : ∀ y z, (y, z) ∈ usesF x → y = 0 ∨ y = 1)
    (hF : ∀ i, F i → i < u.heap.size) (hfa : 0 < x.args.length → ∀ g, x.av.ownBlock = some g → ¬ F g) (B1 B2 B3 : Nat) (n1 : ¬ F B1) (n2 : ¬ F B2) (h1 : u.cell? ⟨B1, 0, none⟩ = some (.func (.func K) #[] cs)) (h2 : u.cell? ⟨B2, 0, none⟩ = some (.int .i64 0)) (h0 : D p u)
    (hE : Enters Tryz.prog 142) :
    Calls Tryz.prog 140 #[x.val, .func (.func 142) #[] #[.pointer (some ⟨B1, 0, none⟩), .pointer (some ⟨B2, 0, none⟩), .pointer (some ⟨B3, 0, none⟩)]] u fun e w' => e = .returned (.tuple #[]) ∧ D (p ++ usesF x) w' ∧ Tn F u w' := by
  refine (uses_raw (K := 142) (cs := #[.pointer (some ⟨B1, 0, none⟩), .pointer (some ⟨B2, 0, none⟩), .pointer (some ⟨B3, 0, none⟩)]) (F := F)
    (J := fun n v => D (p ++ (usesF x).take n) v ∧ v.cell? ⟨B1, 0, none⟩ = some (.func (.func K) #[] cs) ∧ v.cell? ⟨B2, 0, none⟩ = some (.int .i64 0)) (w := u) x hx hE hF hfa ⟨by simpa using h0, h1, h2⟩
    (fun n v v' hj t => ⟨h.no _ _ _ hj.1 t, (t.cell (World.block_lt_of_cell? _ _ hj.2.1) (fun e => e)).trans hj.2.1, (t.cell (World.block_lt_of_cell? _ _ hj.2.2) (fun e => e)).trans hj.2.2⟩)
    (fun n y z v hn hj => ?_)).mono ?_
  · have hm : (y, z) ∈ usesF x := List.mem_of_getElem? hn
    have hl : n < (usesF x).length := (List.getElem?_eq_some_iff.1 hn).1
    have hd : usesF x = (usesF x).take n ++ (y, z) :: (usesF x).drop (n + 1) := by
      have e := (List.getElem?_eq_some_iff.1 hn).2
      rw [← e, ← List.drop_eq_getElem_cons hl, List.take_append_drop]
    have ht : (usesF x).take (n + 1) = (usesF x).take n ++ [(y, z)] := by rw [List.take_add_one, hn]; rfl
    refine (tell_one K cs h.enters y z (hk y z hm) B1 B2 B3 v (fun w' => D (p ++ (usesF x).take (n + 1)) w' ∧ Tn F v w') hj.2.1 hj.2.2 (fun v' t => ?_)).mono ?_
    · have hst := h.step (p ++ (usesF x).take n) y z ((usesF x).drop (n + 1) ++ s) v' (by rw [he]; conv => lhs; rw [hd]
                                                                                          simp [List.append_assoc]) (h.no _ _ _ hj.1 t)
      refine hst.mono ?_
      rintro e w' ⟨rfl, g1, g2⟩
      exact ⟨rfl, by rw [ht, ← List.append_assoc]; exact g1, t.trans g2 (fun _ _ e => e.elim) (fun i hi e => e)⟩
    · rintro e w' ⟨rfl, g1, g2⟩
      exact ⟨rfl, ⟨g1, (g2.cell (World.block_lt_of_cell? _ _ hj.2.1) n1).trans hj.2.1, (g2.cell (World.block_lt_of_cell? _ _ hj.2.2) n2).trans hj.2.2⟩, g2⟩
  · rintro e w' ⟨rfl, ⟨g1, _⟩, g2⟩
    rw [List.take_of_length_le (Nat.le_refl _)] at g1
    exact ⟨rfl, g1, g2⟩

theorem enters_tell : Enters Tryz.prog 142 := enters_of Tryz.func142 (by kernel_rfl) rfl

/-- where the graph's inner loop stands: q words are told -/
structure UL (w : World) (F : Nat → Prop) (fk : Value) (b1 b2 : Nat) (D : List (Int × Int) → World → Prop) (l : List Wd) (q : Nat) (u : World) : Prop where
  d : D ((l.take q).flatMap usesF) u
  tn : Tn F w u
  k : u.cell? ⟨b1, 0, none⟩ = some fk
  i : u.cell? ⟨b2, 0, none⟩ = some (.int .i64 0)
/-- the outer loop, ahead of its one block -/
structure UO (w : World) (fk : Value) (b1 : Nat) (D : List (Int × Int) → World → Prop) (u : World) : Prop where
  d : D [] u
  tn : Tn No w u
  k : u.cell? ⟨b1, 0, none⟩ = some fk

theorem UO.inner {w u : World} {F : Nat → Prop} {fk : Value} {b1 : Nat} {D : List (Int × Int) → World → Prop} {l : List Wd} (h : UO w fk b1 D u) (hn : ∀ p u u', D p u → Tn No u u' → D p u') (T : TypeId) (k m : Nat) : UL w F fk b1 u.heap.size D l 0 (((u.alloc (.cells #[.int .i64 0] T)).drewN k).drewN m) := by
  have t : Tn No u (((u.alloc (.cells #[.int .i64 0] T)).drewN k).drewN m) := (((Tn.refl No u).alloc _).drewN _).drewN _
  refine ⟨by simpa using hn _ _ _ h.d t, h.tn.trans t (fun _ _ e => e.elim) (fun _ _ e => e.elim), (t.cell (World.block_lt_of_cell? _ _ h.k) (fun e => e)).trans h.k, ?_⟩
  exact World.cell?_alloc_mark u #[.int .i64 0] T (0, 0) 0

set_option maxHeartbeats 8000000 in
set_option maxRecDepth 100000 in
theorem gUses_raw {K L : Nat} {cs ds : Array Value} {F : Nat → Prop} {D : List (Int × Int) → World → Prop} {P : World → Prop} (f : Wf) (w : World) (h : TL6 K cs F D (f.code.flatMap usesF)) (hL : Enters Tryz.prog L)
    (hO : ∀ u, D (f.code.flatMap usesF) u → Tn F w u → Calls Tryz.prog L ds u fun e w' => e = .returned (.tuple #[]) ∧ P w')
    (hc : LD 11 eW w f.cv f.code) (hx : ∀ x ∈ f.code, x.av = .slice none 0 0 ∧ x.args = [] ∧ ∀ u, WA u x) (hk : ∀ x ∈ f.code, ∀ y z, (y, z) ∈ usesF x → y = 0 ∨ y = 1)
    (gp bb cap : Nat) (hg : CN w gp 2 (gc f.cv bb cap)) (hb : CN w bb 11 (bk 0 (f.code.length : Int) false true)) (hF : ∀ i, F i → i < w.heap.size) (n1 : ¬ F gp) (n2 : ¬ F bb) (n3 : ∀ g, f.cv.ownBlock = some g → ¬ F g) (h0 : D [] w) (hlen : f.code.length ≤ 1073741824) (hpos : 0 < f.code.length) :
    Calls Tryz.prog 105 #[.pointer (some ⟨gp, 0, none⟩), f.val, .func (.func K) #[] cs, .func (.func L) #[] ds] w fun e w' => e = .returned (.tuple #[]) ∧ P w' := by
  have eL : ∀ (args : Array Value) (w : World), (callFunc L args).run Tryz.prog w = .ok (.enter L args) w := hL
  have HO := hid hO
  obtain ⟨name, params, regs, slots, cv, l⟩ := f
  simp only [Wf.val] at *
  have HH := hid h
  have HX := hid hx
  have HK := hid hk
  obtain ⟨a, c, rfl, hcl, hcm, hat⟩ := hc
  obtain ⟨g, o, rfl, hgw, hcell⟩ := hat hpos
  have n3' : ¬ F g := n3 g rfl
  obtain ⟨n, hn⟩ : ∃ n, l.length = n := ⟨_, rfl⟩
  have HN := hid hn
  have HCE := hid hcell
  rw [hn] at hcl hlen hpos hg hb
  rw [hn]
  have HF := hid hF
  have HNO := hid h.no
  have hgl := hg.lt
  have hbl := hb.lt
  have HCG : Hid (∀ u, Tn No w u → CN u gp 2 (gc (.slice (some ⟨g, o, none⟩) n c) bb cap)) := hid (fun u t => hg.no t)
  have HCB : Hid (∀ u, Tn No w u → CN u bb 11 (bk 0 (n : Int) false true)) := hid (fun u t => hb.no t)
  have HUO : Hid (∀ W1, W1 = (w.alloc (.cells #[.string name, .int .i64 params, .int .i64 regs, .int .i64 slots, .slice (some ⟨g, o, none⟩) n c] 76)).alloc (.cells #[.func (.func K) #[] cs] 221) → UO w (.func (.func K) #[] cs) (w.heap.size + 1) D W1) := hid (fun W1 e => by
    have t1 : Tn No w W1 := by rw [e]; exact ((Tn.refl No w).alloc _).alloc _
    refine ⟨h.no _ _ _ h0 t1, t1, ?_⟩
    have e2 : w.heap.size + 1 = (w.alloc (.cells #[.string name, .int .i64 params, .int .i64 regs, .int .i64 slots, .slice (some ⟨g, o, none⟩) n c] 76)).heap.size := by simp
    rw [e, e2]
    exact World.cell?_alloc_mark _ _ _ _ 0)
  have g1 : ((w.alloc (.cells #[.string name, .int .i64 params, .int .i64 regs, .int .i64 slots, .slice (some ⟨g, o, none⟩) n c] 76)).alloc (.cells #[.func (.func K) #[] cs] 221)).cell? ⟨gp, 1, none⟩ = some (.slice (some ⟨bb, 0, none⟩) 1 cap) := (HCG.out _ (HUO.out _ rfl).tn).cell 1 (by omega)
  have HUS : Hid (∀ q (hq : q < l.length) u b2, w.heap.size ≤ b2 → UL w F (.func (.func K) #[] cs) (w.heap.size + 1) b2 D l q u → ∀ u2, Tn No u u2 → Calls Tryz.prog 140 #[l[q].val, .func (.func 142) #[] #[.pointer (some ⟨w.heap.size + 1, 0, none⟩), .pointer (some ⟨b2, 0, none⟩), .pointer (some ⟨w.heap.size, 0, none⟩)]] u2 fun e w' => e = .returned (.tuple #[]) ∧ UL w F (.func (.func K) #[] cs) (w.heap.size + 1) b2 D l (q + 1) w') := hid (fun q hq u b2 hb2 hu u2 t => by
    have hm := List.getElem_mem hq
    obtain ⟨x1, x2, x3⟩ := hx _ hm
    have l1 : ¬ F (w.heap.size + 1) := fun e => by have := hF _ e; omega
    have l2 : ¬ F b2 := fun e => by have := hF _ e; omega
    have k1 := (t.cell (World.block_lt_of_cell? _ _ hu.k) (fun e => e)).trans hu.k
    have k2 := (t.cell (World.block_lt_of_cell? _ _ hu.i) (fun e => e)).trans hu.i
    have hz := hu.tn.size
    have hz2 := t.size
    have et : (l.take (q + 1)).flatMap usesF = (l.take q).flatMap usesF ++ usesF l[q] := by
      rw [List.take_add_one, List.flatMap_append, List.getElem?_eq_getElem hq]; simp
    refine (uses_one h l[q] u2 (x3 _) ((l.take q).flatMap usesF) ((l.drop (q + 1)).flatMap usesF) ?_ (hk _ hm) (fun i hi => by have := hF i hi; omega) (fun h0 => by rw [x2] at h0; simp at h0) (w.heap.size + 1) b2 w.heap.size l1 l2 k1 k2 (h.no _ _ _ hu.d t) enters_tell).mono ?_
    · rw [← et, ← List.flatMap_append, List.take_append_drop]
    · rintro e w' ⟨rfl, d1, d2⟩
      refine ⟨rfl, ⟨by rw [et]; exact d1, hu.tn.trans (t.trans d2 (fun _ _ e => e.elim) (fun _ _ e => e)) (fun _ _ e => e) (fun _ _ e => e), (d2.cell (World.block_lt_of_cell? _ _ k1) l1).trans k1, (d2.cell (World.block_lt_of_cell? _ _ k2) l2).trans k2⟩⟩)
  clear h hO hx hk hg hb hat h0 hL hF hcell n3
  go_enter Tryz.func105, Tryz.ntmps105
  go_wp2_with fail
  go_loopw [16] (fun i wr => ∃ j : Nat, j ≤ 1 ∧ i = .int .i64 (j : Int) ∧ Hid (j = 0 → UO w (.func (.func K) #[] cs) (w.heap.size + 1) D wr) ∧ Hid (j = 1 → P wr)) (fun i _ => 1 - (intOf i).toNat)
  case atStart => exact ⟨0, by omega, rfl, hid (fun _ => HUO.out _ rfl), hid (fun e => by omega)⟩
  case round =>
    obtain ⟨j, hj, rfl, HA, HP⟩ := hrel
    by_cases hj1 : j = 1
    · subst hj1
      have HP1 := hid (HP.out rfl)
      go_wp2_with fail
      go_end0
      exact ⟨rfl, HP1.out⟩
    · obtain rfl : j = 0 := by omega
      have HUI := hid ((HA.out rfl).inner (F := F) (l := l) HNO.out 3)
      have ht := (HA.out rfl).tn
      obtain ⟨wa, hwa⟩ : ∃ wa, wa = wr := ⟨wr, rfl⟩
      subst hwa
      have hta := ht.alloc (.cells #[.int .i64 0] 3)
      have k0 : (wa.alloc (.cells #[.int .i64 0] 3)).cell? ⟨wa.heap.size, 0, none⟩ = some (.int .i64 0) := World.cell?_alloc_mark wa #[.int .i64 0] 3 (0, 0) 0
      have k1 : (wa.alloc (.cells #[.int .i64 0] 3)).cell? ⟨gp, 1, none⟩ = some (.slice (some ⟨bb, 0, none⟩) 1 cap) := (HCG.out _ hta).cell 1 (by omega)
      have k2 : (wa.alloc (.cells #[.int .i64 0] 3)).cell? ⟨gp, 0, none⟩ = some (.slice (some ⟨g, o, none⟩) n c) := (HCG.out _ hta).cell 0 (by omega)
      have k3 : (wa.alloc (.cells #[.int .i64 0] 3)).cell? ⟨bb, 7, none⟩ = some (.bool true) := (HCB.out _ hta).cell 7 (by omega)
      have k4 : (wa.alloc (.cells #[.int .i64 0] 3)).cell? ⟨bb, 0, none⟩ = some (.int .i32 0) := (HCB.out _ hta).cell 0 (by omega)
      have k5 : (wa.alloc (.cells #[.int .i64 0] 3)).cell? ⟨bb, 1, none⟩ = some (.int .i32 (n : Int)) := (HCB.out _ hta).cell 1 (by omega)
      have hza := ht.size
      clear hta HUO g1
      go_wp2_with fail
      go_quiet (fail)
      go_wp2_with fail
      go_quiet (fail)
      go_wp2_with fail
      go_loopw [50] (fun i w2 => ∃ q : Nat, q ≤ n ∧ i = .int .i64 (q : Int) ∧ Hid (UL w F (.func (.func K) #[] cs) (w.heap.size + 1) wa.heap.size D l q w2)) (fun i _ => n - (intOf i).toNat)
      case atStart => exact ⟨0, by omega, rfl, hid (HUI.out _ _)⟩
      case round =>
        clear k0 k1 k2 k3 k4 k5 HUI
        obtain ⟨q, hq, rfl, HU⟩ := hrel
        by_cases hlt : q < n
        · have hql : q < l.length := by have := HN.out; omega
          have hcr : ∀ i (hi : i < l.length) j, j < 11 → wr.cell? ⟨g, o + (i * 11 + j), none⟩ = (eW l[i])[j]? := fun i hi j hj => by rw [HU.out.tn.cell hgw n3']; exact HCE.out i hi j hj
          obtain ⟨q0, q1, q2, q3, q4, q5, q6, q7, q8, q9, q10⟩ := word_cells hcr q hql
          have hxa := (HX.out _ (List.getElem_mem hql)).1
          have HUQ : Hid (∀ u2, Tn No wr u2 → Calls Tryz.prog 140 #[l[q].val, .func (.func 142) #[] #[.pointer (some ⟨w.heap.size + 1, 0, none⟩), .pointer (some ⟨wa.heap.size, 0, none⟩), .pointer (some ⟨w.heap.size, 0, none⟩)]] u2 fun e w' => e = .returned (.tuple #[]) ∧ UL w F (.func (.func K) #[] cs) (w.heap.size + 1) wa.heap.size D l (q + 1) w') := hid (HUS.out q hql wr wa.heap.size hza HU.out)
          obtain ⟨x, hx⟩ : ∃ x, l[q] = x := ⟨_, rfl⟩
          rw [hx] at q0 q1 q2 q3 q4 q5 q6 q7 q8 q9 q10 hxa HUQ
          obtain ⟨xk, xd, xa, xb, xl, xf, xc, xr, xs, xi, xv, xargs⟩ := x
          simp only [Wd.val] at q0 q1 q2 q3 q4 q5 q6 q7 q8 q9 q10 hxa HUQ
          subst hxa
          have hgb : g < wr.heap.size := World.block_lt_of_cell? _ _ q0
          have hqi : (q : Int) < (n : Int) := by omega
          have hq0 : 0 ≤ (q : Int) := by omega
          have e1 := HU.out.k
          have e2 := HU.out.i
          have e1l := World.block_lt_of_cell? _ _ e1
          have e2l := World.block_lt_of_cell? _ _ e2
          clear hcr hx HUS HX HK
          go_wp2_with (first
            | (go_at_call 140; refine (HUQ.out _ (by repeat (first | exact Tn.refl _ _ | apply Tn.alloc | apply Tn.drew | apply Tn.drewN))).mono ?_; rintro e w3 ⟨rfl, hu3⟩; have HU3 := hid hu3; clear hu3))
          go_roundw
          case rel => exact ⟨q + 1, by omega, by go_num, HU3⟩
          case measure => simp [intOf]; omega
        · obtain rfl : q = n := by omega
          have HOQ : Hid (∀ u, Tn No wr u → Calls Tryz.prog L ds u fun e w' => e = .returned (.tuple #[]) ∧ P w') := hid (fun u t => by
            have hd := HU.out.d
            rw [List.take_of_length_le (by have := HN.out; omega)] at hd
            exact HO.out u (HNO.out _ _ _ hd t) (HU.out.tn.trans t (fun _ _ e => e) (fun _ _ e => e.elim)))
          clear HUS HX HK
          go_wp2_with (first
            | fail
            | (go_at_fn L; refine (HOQ.out _ (by repeat (first | exact Tn.refl _ _ | apply Tn.alloc | apply Tn.drew | apply Tn.drewN))).mono ?_; rintro e w3 ⟨rfl, hp3⟩; have HP3 := hid hp3; clear hp3))
          go_roundw
          case rel => exact ⟨1, by omega, by go_num, hid (fun e => by omega), hid (fun _ => HP3.out)⟩
          case measure => simp [intOf]
end Go.Proofs.YtoidddfpekbliaaGreat
namespace Go.Proofs.YtoidddfpekbliaaGreat
set_option linter.unusedSimpArgs false
set_option linter.unusedVariables false
open Go.RowKit
attribute [local go_sem ↓] Go.wp_at_zero Go.wp_at_succ

theorem fit_info : (Tryz.prog.info? 3).map (fun i => (i.zero, i.size, i.bytes)) = some (some (.int .i64 0), 1, 8) := by kernel_rfl
theorem zero_cells (n i : Nat) (hi : i < n) (X : Array Value) : (Builtin.zeroCells (Value.cells (.int .i64 0)) n ++ X)[i]? = some (.int .i64 0) := by
  have e : (Builtin.zeroCells (Value.cells (.int .i64 0)) n).size = n := by simp [Builtin.zeroCells, Value.cells]
  rw [Array.getElem?_append_left (by omega)]
  have e2 : Builtin.zeroCells (Value.cells (.int .i64 0)) n = Array.replicate n (.int .i64 0) := by
    apply Array.ext'
    simp only [Builtin.zeroCells, Value.cells]
    apply List.ext_getElem
    · simp
    · intro i h1 h2
      simp [Nat.mod_one]
  rw [e2]
  simp [hi]

/-- a row of zeros is laid -/
theorem zeros_run (w : World) (n : Nat) (h0 : 0 < n) (hn : n ≤ 1000000) : ∃ c w1, (Builtin.append_ #[72, 3] 72 #[.slice none 0 0, .int .i64 (n : Int)]).run Tryz.prog w = .ok (.slice (some ⟨w.heap.size, 0, none⟩) n c) w1 ∧ Tn No w w1 ∧ w1.heap.size = w.heap.size + 1 ∧ (∀ i, i < n → w1.cell? ⟨w.heap.size, i, none⟩ = some (.int .i64 0)) ∧ ∀ i, i < n → w1.frozen? ⟨w.heap.size, i, none⟩ = false := by
  obtain ⟨i, hi, z0, z1, z2⟩ := info_parts fit_info
  refine ⟨_, _, Lib.run_append_nil_zeros w 72 3 72 3 i (.int .i64 0) .i64 .i64 Tryz.underlying72 Tryz.underlying3 hi z0 n h0 (by omega) (by omega) (by rw [z2]; omega), (((Tn.refl No w).drew).alloc _), by simp, fun j hj => ?_, fun j hj => ?_⟩
  · have e := World.cell?_alloc_mark w.drew (Builtin.zeroCells (Value.cells (.int .i64 0)) n ++ Builtin.zeroCells (Value.cells (.int .i64 0)) (grownCap w n 0 3 - n)) 3 (0, 0) j
    have e2 : w.drew.heap.size = w.heap.size := by simp
    rw [e2] at e
    exact e.trans (zero_cells n j hj _)
  · have hh := heap_alloc_new w.drew (.cells (Builtin.zeroCells (Value.cells (.int .i64 0)) n ++ Builtin.zeroCells (Value.cells (.int .i64 0)) (grownCap w n 0 3 - n)) 3)
    have e2 : w.drew.heap.size = w.heap.size := by simp
    rw [e2] at hh
    simp only [World.frozen?, hh]; simp

set_option maxHeartbeats 1000000 in
set_option maxRecDepth 100000 in
theorem fit_raw (kb kn n : Nat) (T : Int) (w : World) (h0 : 0 < n) (hn : n ≤ 1000000) (hb : w.cell? ⟨kb, 0, none⟩ = some (.pointer (some ⟨kn, 0, none⟩))) (hne : kb ≠ kn) (k0 : w.cell? ⟨kn, 0, none⟩ = some (.int .i64 T)) (k1 : w.cell? ⟨kn, 1, none⟩ = some (.slice none 0 0)) (k2 : w.cell? ⟨kn, 2, none⟩ = some (.slice none 0 0)) (k3 : w.cell? ⟨kn, 3, none⟩ = some (.slice none 0 0)) (kf : ∀ i, w.frozen? ⟨kn, i, none⟩ = false) :
    Calls Tryz.prog 104 #[.pointer (some ⟨kn, 0, none⟩), .int .i64 (n : Int)] w fun e w' => e = .returned (.tuple #[]) ∧ ∃ sb wb nb c1 c2 c3, NT w' kb kn sb wb nb n c1 c2 c3 T (fun _ => 0) ∧ w.heap.size ≤ sb ∧ Tn (fun k => k = kn) w w' := by
  have f1 := kf 1
  have f2 := kf 2
  have f3 := kf 3
  have hp : (0 : Int) < (n : Int) := by omega
  have hp2 : (n : Int) ≤ 1000000 := by omega
  have hl : kn < w.heap.size := World.block_lt_of_cell? _ _ k0
  have hlb : kb < w.heap.size := World.block_lt_of_cell? _ _ hb
  obtain ⟨c1, wa, ra, ta, za, ca, fa⟩ := zeros_run w n h0 hn
  have a0 := (ta.cell hl (fun e => e)).trans k0
  have a1 := (ta.cell hl (fun e => e)).trans k1
  have a2 := (ta.cell hl (fun e => e)).trans k2
  have a3 := (ta.cell hl (fun e => e)).trans k3
  have ab := (ta.cell hlb (fun e => e)).trans hb
  have af : ∀ i, wa.frozen? ⟨kn, i, none⟩ = false := fun i => (ta.frozen hl (fun e => e)).trans (kf i)
  have fa1 := af 1
  obtain ⟨sb, hsb⟩ : ∃ sb, w.heap.size = sb := ⟨_, rfl⟩
  obtain ⟨N1, hN1⟩ : ∃ N1, N1 = wa.setCell ⟨kn, 1, none⟩ (.slice (some ⟨sb, 0, none⟩) n c1) := ⟨_, rfl⟩
  have o1 : ∀ g i, g ≠ kn ∨ i ≠ 1 → N1.cell? ⟨g, i, none⟩ = wa.cell? ⟨g, i, none⟩ := fun g i h => by
    rw [hN1]; exact World.cell?_setCell_other _ _ _ _ (by intro e; cases e; rcases h with h | h <;> exact h rfl)
  have p1 : N1.cell? ⟨kn, 1, none⟩ = some (.slice (some ⟨sb, 0, none⟩) n c1) := by rw [hN1]; exact World.cell?_setCell_same _ _ _ a1
  have z1 : N1.heap.size = sb + 1 := by rw [hN1]; simp [za, hsb]
  have g1 : ∀ g i, N1.frozen? ⟨g, i, none⟩ = wa.frozen? ⟨g, i, none⟩ := fun g i => by rw [hN1]; exact World.frozen?_setCell ..
  obtain ⟨c2, wb, rb, tb, zb, cb, fb⟩ := zeros_run N1 n h0 hn
  have hl1 : kn < N1.heap.size := by omega
  have hb1 : kb < N1.heap.size := by omega
  have b0 := (tb.cell hl1 (fun e => e)).trans ((o1 kn 0 (.inr (by omega))).trans a0)
  have b1 := (tb.cell hl1 (fun e => e)).trans p1
  have b2 := (tb.cell hl1 (fun e => e)).trans ((o1 kn 2 (.inr (by omega))).trans a2)
  have b3 := (tb.cell hl1 (fun e => e)).trans ((o1 kn 3 (.inr (by omega))).trans a3)
  have bb := (tb.cell hb1 (fun e => e)).trans ((o1 kb 0 (.inl hne)).trans ab)
  have bf : ∀ i, wb.frozen? ⟨kn, i, none⟩ = false := fun i => (tb.frozen hl1 (fun e => e)).trans ((g1 kn i).trans (af i))
  have fb2 := bf 2
  obtain ⟨N2, hN2⟩ : ∃ N2, N2 = wb.setCell ⟨kn, 2, none⟩ (.slice (some ⟨sb + 1, 0, none⟩) n c2) := ⟨_, rfl⟩
  have o2 : ∀ g i, g ≠ kn ∨ i ≠ 2 → N2.cell? ⟨g, i, none⟩ = wb.cell? ⟨g, i, none⟩ := fun g i h => by
    rw [hN2]; exact World.cell?_setCell_other _ _ _ _ (by intro e; cases e; rcases h with h | h <;> exact h rfl)
  have p2 : N2.cell? ⟨kn, 2, none⟩ = some (.slice (some ⟨sb + 1, 0, none⟩) n c2) := by rw [hN2]; exact World.cell?_setCell_same _ _ _ b2
  have z2 : N2.heap.size = sb + 1 + 1 := by rw [hN2]; simp [zb, z1]
  have g2 : ∀ g i, N2.frozen? ⟨g, i, none⟩ = wb.frozen? ⟨g, i, none⟩ := fun g i => by rw [hN2]; exact World.frozen?_setCell ..
  obtain ⟨c3, wc, rc, tc, zc, cc, fc⟩ := zeros_run N2 n h0 hn
  have hl2 : kn < N2.heap.size := by omega
  have hb2 : kb < N2.heap.size := by omega
  have d0 := (tc.cell hl2 (fun e => e)).trans ((o2 kn 0 (.inr (by omega))).trans b0)
  have d1 := (tc.cell hl2 (fun e => e)).trans ((o2 kn 1 (.inr (by omega))).trans b1)
  have d2 := (tc.cell hl2 (fun e => e)).trans p2
  have d3 := (tc.cell hl2 (fun e => e)).trans ((o2 kn 3 (.inr (by omega))).trans b3)
  have db := (tc.cell hb2 (fun e => e)).trans ((o2 kb 0 (.inl hne)).trans bb)
  have df : ∀ i, wc.frozen? ⟨kn, i, none⟩ = false := fun i => (tc.frozen hl2 (fun e => e)).trans ((g2 kn i).trans (bf i))
  have fd3 := df 3
  rw [hsb] at ra ca fa
  rw [z1] at rb cb fb
  rw [z2] at rc cc fc
  have hlw : kn < sb := by omega
  have hbw : kb < sb := by omega
  have HEND : Hid (NT (wc.setCell ⟨kn, 3, none⟩ (.slice (some ⟨sb + 1 + 1, 0, none⟩) n c3)) kb kn sb (sb + 1) (sb + 1 + 1) n c1 c2 c3 T (fun _ => 0)) := hid (by
    have o3 : ∀ g i, g ≠ kn ∨ i ≠ 3 → (wc.setCell ⟨kn, 3, none⟩ (.slice (some ⟨sb + 1 + 1, 0, none⟩) n c3)).cell? ⟨g, i, none⟩ = wc.cell? ⟨g, i, none⟩ := fun g i h => World.cell?_setCell_other _ _ _ _ (by intro e; cases e; rcases h with h | h <;> exact h rfl)
    have s1 : ∀ i, wc.cell? ⟨sb, i, none⟩ = wa.cell? ⟨sb, i, none⟩ := fun i => by
      rw [tc.cell (by show sb < _; omega) (fun e => e), o2 _ _ (.inl (by omega)), tb.cell (by show sb < _; omega) (fun e => e), o1 _ _ (.inl (by omega))]
    have s2 : ∀ i, wc.cell? ⟨sb + 1, i, none⟩ = wb.cell? ⟨sb + 1, i, none⟩ := fun i => by
      rw [tc.cell (by show sb + 1 < _; omega) (fun e => e), o2 _ _ (.inl (by omega))]
    have s3 : ∀ i, wc.frozen? ⟨sb, i, none⟩ = wa.frozen? ⟨sb, i, none⟩ := fun i => by
      rw [tc.frozen (by show sb < _; omega) (fun e => e), g2, tb.frozen (by show sb < _; omega) (fun e => e), g1]
    refine ⟨(o3 _ _ (.inl hne)).trans db, (o3 _ _ (.inr (by omega))).trans d0, (o3 _ _ (.inr (by omega))).trans d1, (o3 _ _ (.inr (by omega))).trans d2, World.cell?_setCell_same _ _ _ d3, fun i hi => ?_, fun i hi => ?_, fun i hi => ?_, ?_, fun i hi => ?_, ?_⟩
    · rw [o3 _ _ (.inl (by omega)), s1]; exact ca i hi
    · rw [o3 _ _ (.inl (by omega)), s2]; exact cb i hi
    · rw [o3 _ _ (.inl (by omega))]; exact cc i hi
    · rw [World.frozen?_setCell]; exact df 0
    · rw [World.frozen?_setCell, s3]; exact fa i hi
    · refine ⟨?_, ?_, ?_, ?_, ?_, ?_, ?_, ?_⟩ <;> omega)
  have HTN : Hid (Tn (fun k => k = kn) w (wc.setCell ⟨kn, 3, none⟩ (.slice (some ⟨sb + 1 + 1, 0, none⟩) n c3))) := hid (by
    have e1 : Tn (fun k => k = kn) w N1 := by rw [hN1]; exact Tn.set ta.any _ _ (fun _ => rfl)
    have e2 : Tn (fun k => k = kn) w N2 := by rw [hN2]; exact Tn.set (e1.trans tb (fun _ _ e => e) (fun _ _ e => e.elim)) _ _ (fun _ => rfl)
    exact Tn.set (e2.trans tc (fun _ _ e => e) (fun _ _ e => e.elim)) _ _ (fun _ => rfl))
  subst hN1
  subst hN2
  have RA := hid ra
  have RB := hid rb
  have RC := hid rc
  have HSB : Hid (w.heap.size = sb) := hid hsb
  clear ra rb rc hsb o1 p1 z1 g1 o2 p2 z2 g2 kf af bf df ca cb cc fa fb fc za zb zc b1 d1 d2 d0 a0 b0 ab bb db hb hne hn ta tb tc hlb hl1 hb1 hl2 hb2 hlw hbw
  go_enter Tryz.func104, Tryz.ntmps104
  go_wp2_with (first
    | (at_builtin; refine wpList_app _ rfl _ _ _ _ rfl _ _ rfl rfl _ wa RA.out ?_)
    | (at_builtin; refine wpList_app _ rfl _ _ _ _ rfl _ _ rfl rfl _ wb RB.out ?_)
    | (at_builtin; refine wpList_app _ rfl _ _ _ _ rfl _ _ rfl rfl _ wc RC.out ?_))
  go_end0
  exact ⟨rfl, sb, sb + 1, sb + 1 + 1, c1, c2, c3, HEND.out, Nat.le_of_eq HSB.out, HTN.out⟩
end Go.Proofs.YtoidddfpekbliaaGreat
namespace Go.Proofs.YtoidddfpekbliaaGreat
set_option linter.unusedSimpArgs false
set_option linter.unusedVariables false
open Go.RowKit
attribute [local go_sem ↓] Go.wp_at_zero Go.wp_at_succ

def lall : List (Int × Int) := lcode.flatMap usesF
theorem lall_eq : lall = [(1, 0), (1, 1), (0, 0), (0, 1), (1, 2), (0, 2)] := by rfl
theorem lall_step (p : List (Int × Int)) (y z : Int) (s : List (Int × Int)) (h : lall = p ++ (y, z) :: s) : (∃ c : Nat, c < 3 ∧ z = (c : Int)) ∧ (y = 1 ∨ (y = 0 ∧ (1, z) ∈ p)) := by
  have hp : p = lall.take p.length := by rw [h]; simp
  have hy : lall[p.length]? = some (y, z) := by rw [h]; simp
  have hl : p.length < 6 := by
    have e : lall.length = 6 := by rw [lall_eq]; rfl
    have := congrArg List.length h
    rw [e] at this
    simp at this
    omega
  obtain ⟨k, hk⟩ : ∃ k, p.length = k := ⟨_, rfl⟩
  rw [hk] at hp hy hl
  rw [lall_eq] at hp hy
  have hc : k = 0 ∨ k = 1 ∨ k = 2 ∨ k = 3 ∨ k = 4 ∨ k = 5 := by omega
  rcases hc with rfl | rfl | rfl | rfl | rfl | rfl <;> (simp at hp hy; obtain ⟨rfl, rfl⟩ := hy; subst hp)
  · exact ⟨⟨0, by omega, rfl⟩, .inl rfl⟩
  · exact ⟨⟨1, by omega, rfl⟩, .inl rfl⟩
  · exact ⟨⟨0, by omega, rfl⟩, .inr ⟨rfl, by simp⟩⟩
  · exact ⟨⟨1, by omega, rfl⟩, .inr ⟨rfl, by simp⟩⟩
  · exact ⟨⟨2, by omega, rfl⟩, .inl rfl⟩
  · exact ⟨⟨2, by omega, rfl⟩, .inr ⟨rfl, by simp⟩⟩

/-- which cells are set at a time, when so much is told -/
def Sp (T : Int) (p : List (Int × Int)) (c : Nat) : Int := if (1, (c : Int)) ∈ p then T else 0
theorem Sp_set (T : Int) (p : List (Int × Int)) (c : Nat) : Sp T (p ++ [(1, (c : Int))]) = upd (Sp T p) c T := by
  funext i
  by_cases h : i = c
  · subst h; rw [upd_same]; simp [Sp]
  · rw [upd_other _ _ h]
    have : ¬ ((i : Int) = (c : Int)) := by omega
    simp [Sp, this]
theorem Sp_read (T : Int) (p : List (Int × Int)) (z : Int) : Sp T (p ++ [(0, z)]) = Sp T p := by
  funext i
  simp [Sp]
theorem Sp_nil (T : Int) : Sp T [] = fun _ => 0 := by funext i; simp [Sp]

theorem tl_first (kb kn sb wb nb c1 c2 c3 : Nat) (p1 p2 p3 p4 : Value) : TL6 106 #[.pointer (some ⟨kb, 0, none⟩), p1, p2, p3, p4] (fun k => k = sb) (fun p u => NT u kb kn sb wb nb 3 c1 c2 c3 1 (Sp 1 p)) lall := by
  refine ⟨enters_of Tryz.func106 (by kernel_rfl) rfl, fun p u u' h t => h.no (by omega) t, fun p y z s u he h => ?_⟩
  obtain ⟨⟨c, hc, rfl⟩, hy⟩ := lall_step p y z s he
  rcases hy with rfl | ⟨rfl, hm⟩
  · show Calls Tryz.prog 106 #[.int .i32 0, .int .i64 (c : Int), .bool true, .pointer (some ⟨kb, 0, none⟩), p1, p2, p3, p4] u _
    refine (note_set 0 c p1 p2 p3 p4 h hc).mono ?_
    rintro e w' ⟨rfl, g1, g2⟩
    exact ⟨rfl, by rw [Sp_set]; exact g1, g2⟩
  · show Calls Tryz.prog 106 #[.int .i32 0, .int .i64 (c : Int), .bool false, .pointer (some ⟨kb, 0, none⟩), p1, p2, p3, p4] u _
    refine (note_read 0 c p1 p2 p3 p4 h hc (by simp [Sp, hm])).mono ?_
    rintro e w' ⟨rfl, g⟩
    exact ⟨rfl, by rw [Sp_read]; exact h.no (by omega) g, g.any⟩

theorem tl_second (kb kn sb wb nb c1 c2 c3 B : Nat) (p1 : Value) (S : Nat → Int) : TL6 109 #[.pointer (some ⟨kb, 0, none⟩), .pointer (some ⟨B, 0, none⟩), p1] No (fun _ u => NT u kb kn sb wb nb 3 c1 c2 c3 2 S ∧ u.cell? ⟨B, 0, none⟩ = some (.int .i64 1)) lall := by
  refine ⟨enters_of Tryz.func109 (by kernel_rfl) rfl, fun p u u' h t => ⟨h.1.no (by omega) t, (t.cell (World.block_lt_of_cell? _ _ h.2) (fun e => e)).trans h.2⟩, fun p y z s u he h => ?_⟩
  obtain ⟨⟨c, hc, rfl⟩, hy⟩ := lall_step p y z s he
  show Calls Tryz.prog 109 #[.int .i32 0, .int .i64 (c : Int), .bool (y == 1), .pointer (some ⟨kb, 0, none⟩), .pointer (some ⟨B, 0, none⟩), p1] u _
  refine (note_again 0 c B (y == 1) p1 1 h.1 hc h.2 (by omega)).mono ?_
  rintro e w' ⟨rfl, g⟩
  exact ⟨rfl, ⟨h.1.no (by omega) g, (g.cell (World.block_lt_of_cell? _ _ h.2) (fun e => e)).trans h.2⟩, g⟩

/-- the graph of the little function -/
structure GR (w : World) (cv : Value) (gp bb cap : Nat) : Prop where
  c : LD 11 eW w cv lcode
  g : CN w gp 2 (gc cv bb cap)
  b : CN w bb 11 (bk 0 4 false true)
theorem GR.keep {F : Nat → Prop} {w u : World} {cv : Value} {gp bb cap : Nat} (h : GR w cv gp bb cap) (t : Tn F w u) (n1 : ¬ F gp) (n2 : ¬ F bb) (n3 : ∀ g, cv.ownBlock = some g → ¬ F g) : GR u cv gp bb cap :=
  ⟨h.c.kept (fun g hg hl => t.block g hl (n3 g hg)) t.size, h.g.kept (t.block _ h.g.lt n1), h.b.kept (t.block _ h.b.lt n2)⟩

def lf (cv : Value) : Wf := ⟨⟨#[109, 97, 105, 110]⟩, 0, 3, 0, cv, lcode⟩
theorem lf_words : ∀ x ∈ lcode, x.av = .slice none 0 0 ∧ x.args = [] ∧ ∀ u, WA u x := by
  intro x hx
  refine ⟨?_, ?_, fun u => lword_ok u x hx⟩ <;> (simp only [lcode, List.mem_cons, List.not_mem_nil, or_false] at hx; rcases hx with rfl | rfl | rfl | rfl <;> rfl)
theorem lf_kinds : ∀ x ∈ lcode, ∀ y z, (y, z) ∈ usesF x → y = 0 ∨ y = 1 := by
  intro x hx y z hm
  have : (y, z) ∈ lall := List.mem_flatMap.2 ⟨x, hx, hm⟩
  rw [lall_eq] at this
  simp at this
  omega

theorem uses_first {w : World} {cv : Value} {gp bb cap kb kn sb wb nb c1 c2 c3 : Nat} (p1 p2 p3 p4 : Value) (h : GR w cv gp bb cap) (hn : NT w kb kn sb wb nb 3 c1 c2 c3 1 (fun _ => 0)) (n1 : ¬ gp = sb) (n2 : ¬ bb = sb) (n3 : ∀ g, cv.ownBlock = some g → ¬ g = sb) :
    Calls Tryz.prog 105 #[.pointer (some ⟨gp, 0, none⟩), (lf cv).val, .func (.func 106) #[] #[.pointer (some ⟨kb, 0, none⟩), p1, p2, p3, p4], .func (.func 108) #[] #[.pointer (some ⟨kb, 0, none⟩)]] w fun e w' => e = .returned (.tuple #[]) ∧ NT w' kb kn sb wb nb 3 c1 c2 c3 2 (Sp 1 lall) ∧ Tn (fun k => k = sb ∨ k = kn) w w' := by
  obtain ⟨l1, l2, l3, l4, l5⟩ := hn.lt (by omega)
  refine gUses_raw (lf cv) w (tl_first kb kn sb wb nb c1 c2 c3 p1 p2 p3 p4) (enters_of Tryz.func108 (by kernel_rfl) rfl) (P := fun w' => NT w' kb kn sb wb nb 3 c1 c2 c3 2 (Sp 1 lall) ∧ Tn (fun k => k = sb ∨ k = kn) w w') (fun u hu t => ?_) h.c lf_words lf_kinds gp bb cap h.g h.b (fun i hi => by subst hi; exact l3) n1 n2 n3 (by rw [Sp_nil]; exact hn) (by show lcode.length ≤ _; simp [lcode]) (by show 0 < lcode.length; simp [lcode])
  refine (note_over hu (by omega)).mono ?_
  rintro e w' ⟨rfl, g1, g2⟩
  exact ⟨rfl, g1, t.trans g2 (fun i _ e => .inl e) (fun i _ e => .inr e)⟩

theorem uses_second {w : World} {cv : Value} {gp bb cap kb kn sb wb nb c1 c2 c3 B : Nat} (p1 : Value) (S : Nat → Int) (h : GR w cv gp bb cap) (hn : NT w kb kn sb wb nb 3 c1 c2 c3 2 S) (hB : w.cell? ⟨B, 0, none⟩ = some (.int .i64 1)) :
    Calls Tryz.prog 105 #[.pointer (some ⟨gp, 0, none⟩), (lf cv).val, .func (.func 109) #[] #[.pointer (some ⟨kb, 0, none⟩), .pointer (some ⟨B, 0, none⟩), p1], .func (.func 110) #[] #[]] w fun e w' => e = .returned (.tuple #[]) ∧ Tn No w w' := by
  refine gUses_raw (lf cv) w (tl_second kb kn sb wb nb c1 c2 c3 B p1 S) (enters_of Tryz.func110 (by kernel_rfl) rfl) (P := fun w' => Tn No w w') (fun u hu t => ?_) h.c lf_words lf_kinds gp bb cap h.g h.b (fun i hi => hi.elim) (fun e => e) (fun e => e) (fun _ _ e => e) ⟨hn, hB⟩ (by show lcode.length ≤ _; simp [lcode]) (by show 0 < lcode.length; simp [lcode])
  refine note_none.mono ?_
  rintro e w' ⟨rfl, rfl⟩
  exact ⟨rfl, t⟩

/-- notes that hold nothing yet -/
structure KN (w : World) (kn : Nat) : Prop where
  k0 : w.cell? ⟨kn, 0, none⟩ = some (.int .i64 0)
  k1 : w.cell? ⟨kn, 1, none⟩ = some (.slice none 0 0)
  k2 : w.cell? ⟨kn, 2, none⟩ = some (.slice none 0 0)
  k3 : w.cell? ⟨kn, 3, none⟩ = some (.slice none 0 0)
  kf : ∀ i, w.frozen? ⟨kn, i, none⟩ = false
theorem KN.no {w w' : World} {kn : Nat} (h : KN w kn) (t : Tn No w w') : KN w' kn := by
  have hl := World.block_lt_of_cell? _ _ h.k0
  exact ⟨(t.cell hl (fun e => e)).trans h.k0, (t.cell hl (fun e => e)).trans h.k1, (t.cell hl (fun e => e)).trans h.k2, (t.cell hl (fun e => e)).trans h.k3, fun i => (t.frozen hl (fun e => e)).trans (h.kf i)⟩
/-- the function's cells and the box of the notes -/
structure BX2 (w : World) (fb kn : Nat) (cv : Value) : Prop where
  f0 : w.cell? ⟨fb, 0, none⟩ = some (.string ⟨#[109, 97, 105, 110]⟩)
  f1 : w.cell? ⟨fb, 1, none⟩ = some (.int .i64 0)
  f2 : w.cell? ⟨fb, 2, none⟩ = some (.int .i64 3)
  f3 : w.cell? ⟨fb, 3, none⟩ = some (.int .i64 0)
  f4 : w.cell? ⟨fb, 4, none⟩ = some cv
  k : w.cell? ⟨fb + 1, 0, none⟩ = some (.pointer (some ⟨kn, 0, none⟩))
theorem BX2.tn {F : Nat → Prop} {w w' : World} {fb kn : Nat} {cv : Value} (h : BX2 w fb kn cv) (t : Tn F w w') (n1 : ¬ F fb) (n2 : ¬ F (fb + 1)) : BX2 w' fb kn cv := by
  have l1 := World.block_lt_of_cell? _ _ h.f0
  have l2 := World.block_lt_of_cell? _ _ h.k
  exact ⟨(t.cell l1 n1).trans h.f0, (t.cell l1 n1).trans h.f1, (t.cell l1 n1).trans h.f2, (t.cell l1 n1).trans h.f3, (t.cell l1 n1).trans h.f4, (t.cell l2 n2).trans h.k⟩
theorem bx2_new (w : World) (kn : Nat) (cv : Value) (T1 T2 : TypeId) : BX2 ((w.alloc (.cells #[.string ⟨#[109, 97, 105, 110]⟩, .int .i64 0, .int .i64 3, .int .i64 0, cv] T1)).alloc (.cells #[.pointer (some ⟨kn, 0, none⟩)] T2)) w.heap.size kn cv := by
  have e1 : ∀ i, ((w.alloc (.cells #[.string ⟨#[109, 97, 105, 110]⟩, .int .i64 0, .int .i64 3, .int .i64 0, cv] T1)).alloc (.cells #[.pointer (some ⟨kn, 0, none⟩)] T2)).cell? ⟨w.heap.size, i, none⟩ = #[.string ⟨#[109, 97, 105, 110]⟩, .int .i64 0, .int .i64 3, .int .i64 0, cv][i]? := fun i => by
    rw [Tn.cell (F := No) ((Tn.refl No (w.alloc (.cells #[.string ⟨#[109, 97, 105, 110]⟩, .int .i64 0, .int .i64 3, .int .i64 0, cv] T1))).alloc _) (by simp) (fun e => e)]
    exact World.cell?_alloc_mark _ _ _ _ i
  refine ⟨e1 0, e1 1, e1 2, e1 3, e1 4, ?_⟩
  have e : w.heap.size + 1 = (w.alloc (.cells #[.string ⟨#[109, 97, 105, 110]⟩, .int .i64 0, .int .i64 3, .int .i64 0, cv] T1)).heap.size := by simp
  rw [e]
  exact World.cell?_alloc_mark _ _ _ _ 0

/-- where batches has its boxes and its notes -/
structure BM (w : World) (kn gp bb cap sb wb nb c1 c2 c3 : Nat) (cv : Value) (T : Int) (S : Nat → Int) (B : Nat) (u : World) : Prop where
  bx : BX2 u w.heap.size kn cv
  nt : NT u (w.heap.size + 1) kn sb wb nb 3 c1 c2 c3 T S
  gr : GR u cv gp bb cap
  tn : Tn (fun k => k = kn) w u
  b : u.cell? ⟨B, 0, none⟩ = some (.int .i64 1)
  o : u.cell? ⟨B + 1, 0, none⟩ = some (.slice none 0 0)
theorem bm_new {w w5 : World} {kn gp bb cap sb wb nb c1 c2 c3 : Nat} {cv : Value} (hnt : NT w5 (w.heap.size + 1) kn sb wb nb 3 c1 c2 c3 0 (fun _ => 0)) (hbx : BX2 w5 w.heap.size kn cv) (hgr : GR w5 cv gp bb cap) (htn : Tn (fun k => k = kn) w w5) (hkl : kn < w.heap.size) (n1 : gp ≠ kn) (n2 : bb ≠ kn) (n3 : ∀ g, cv.ownBlock = some g → g < w.heap.size ∧ g ≠ kn) (T1 T2 T3 : TypeId) :
    BM w kn gp bb cap sb wb nb c1 c2 c3 cv 1 (fun _ => 0) w5.heap.size ((((w5.setCell ⟨kn, 0, none⟩ (.int .i64 1)).alloc (.cells #[.int .i64 1] T1)).alloc (.cells #[.slice none 0 0] T2)).alloc (.cells #[.int .i64 0] T3)) := by
  obtain ⟨X, hX⟩ : ∃ X, X = w5.setCell ⟨kn, 0, none⟩ (.int .i64 1) := ⟨_, rfl⟩
  have e1 : NT X (w.heap.size + 1) kn sb wb nb 3 c1 c2 c3 1 (fun _ => 0) := by rw [hX]; exact hnt.tick 1
  have t1 : Tn (fun k => k = kn) w5 X := by rw [hX]; exact Tn.set (Tn.refl _ _) _ _ (fun _ => rfl)
  have zX : X.heap.size = w5.heap.size := by rw [hX]; simp
  rw [← hX]
  have t2 : Tn No X (((X.alloc (.cells #[.int .i64 1] T1)).alloc (.cells #[.slice none 0 0] T2)).alloc (.cells #[.int .i64 0] T3)) := (((Tn.refl No _).alloc _).alloc _).alloc _
  have s1 : (X.alloc (.cells #[.int .i64 1] T1)).heap.size = w5.heap.size + 1 := by simp [zX]
  refine ⟨(hbx.tn t1 (by show ¬ (_ = kn); omega) (by show ¬ (_ = kn); omega)).tn t2 (fun e => e) (fun e => e), e1.no (by omega) t2, (hgr.keep t1 n1 n2 (fun g hg => (n3 g hg).2)).keep t2 (fun e => e) (fun e => e) (fun _ _ e => e), (htn.trans t1 (fun _ _ e => e) (fun _ _ e => e)).trans t2 (fun _ _ e => e) (fun _ _ e => e.elim), ?_, ?_⟩
  · rw [← zX, Tn.cell (F := No) (a := X.alloc (.cells #[.int .i64 1] T1)) (((Tn.refl No _).alloc _).alloc _) (by simp) (fun e => e)]
    exact World.cell?_alloc_mark _ _ _ _ 0
  · rw [← s1, Tn.cell (F := No) (a := (X.alloc (.cells #[.int .i64 1] T1)).alloc (.cells #[.slice none 0 0] T2)) ((Tn.refl No _).alloc _) (by simp) (fun e => e)]
    exact World.cell?_alloc_mark _ _ _ _ 0
theorem BM.first {w u : World} {kn gp bb cap sb wb nb c1 c2 c3 B : Nat} {cv : Value} (h : BM w kn gp bb cap sb wb nb c1 c2 c3 cv 1 (fun _ => 0) B u) (hsb : w.heap.size + 2 ≤ sb) (hB : sb < B) (hkl : kn < w.heap.size) (hgl : gp < w.heap.size) (hbl : bb < w.heap.size) (n1 : gp ≠ kn) (n2 : bb ≠ kn) (n3 : ∀ g, cv.ownBlock = some g → g < w.heap.size ∧ g ≠ kn) (p1 p2 p3 p4 : Value) :
    Calls Tryz.prog 105 #[.pointer (some ⟨gp, 0, none⟩), .agg #[.string ⟨#[109, 97, 105, 110]⟩, .int .i64 0, .int .i64 3, .int .i64 0, cv], .func (.func 106) #[] #[.pointer (some ⟨w.heap.size + 1, 0, none⟩), p1, p2, p3, p4], .func (.func 108) #[] #[.pointer (some ⟨w.heap.size + 1, 0, none⟩)]] u fun e w' => e = .returned (.tuple #[]) ∧ BM w kn gp bb cap sb wb nb c1 c2 c3 cv 2 (Sp 1 lall) B w' := by
  have lB := World.block_lt_of_cell? _ _ h.b
  have lO := World.block_lt_of_cell? _ _ h.o
  refine (uses_first p1 p2 p3 p4 h.gr h.nt (by omega) (by omega) (fun g hg => by have := (n3 g hg).1; omega)).mono ?_
  rintro e w' ⟨rfl, q1, q2⟩
  have nn : ∀ i, i ≠ sb → i ≠ kn → ¬ (i = sb ∨ i = kn) := fun i a b e => e.elim a b
  refine ⟨rfl, h.bx.tn q2 (nn _ (by omega) (by omega)) (nn _ (by omega) (by omega)), q1, h.gr.keep q2 (nn _ (by omega) n1) (nn _ (by omega) n2) (fun g hg => nn _ (by have := (n3 g hg).1; omega) (n3 g hg).2), h.tn.trans q2 (fun _ _ e => e) (fun i hi e => e.elim (fun e => by omega) (fun e => e)), (q2.cell lB (nn _ (by show B ≠ sb; omega) (by show B ≠ kn; omega))).trans h.b, (q2.cell lO (nn _ (by show B + 1 ≠ sb; omega) (by show B + 1 ≠ kn; omega))).trans h.o⟩
theorem BM.second {w u : World} {kn gp bb cap sb wb nb c1 c2 c3 B : Nat} {cv : Value} {S : Nat → Int} (h : BM w kn gp bb cap sb wb nb c1 c2 c3 cv 2 S B u) (p1 : Value) :
    Calls Tryz.prog 105 #[.pointer (some ⟨gp, 0, none⟩), .agg #[.string ⟨#[109, 97, 105, 110]⟩, .int .i64 0, .int .i64 3, .int .i64 0, cv], .func (.func 109) #[] #[.pointer (some ⟨w.heap.size + 1, 0, none⟩), .pointer (some ⟨B, 0, none⟩), p1], .func (.func 110) #[] #[]] u fun e w' => e = .returned (.tuple #[]) ∧ BM w kn gp bb cap sb wb nb c1 c2 c3 cv 2 S B w' := by
  have lB := World.block_lt_of_cell? _ _ h.b
  have lO := World.block_lt_of_cell? _ _ h.o
  refine (uses_second p1 S h.gr h.nt h.b).mono ?_
  rintro e w' ⟨rfl, q⟩
  exact ⟨rfl, h.bx.tn q (fun e => e) (fun e => e), h.nt.no (by omega) q, h.gr.keep q (fun e => e) (fun e => e) (fun _ _ e => e), h.tn.trans q (fun _ _ e => e) (fun _ _ e => e.elim), (q.cell lB (fun e => e)).trans h.b, (q.cell lO (fun e => e)).trans h.o⟩

set_option maxHeartbeats 4000000 in
set_option maxRecDepth 100000 in
theorem batches_raw {w : World} {cv : Value} {gp bb cap kn : Nat} (h : GR w cv gp bb cap) (hk : KN w kn) (n1 : gp ≠ kn) (n2 : bb ≠ kn) (n3 : ∀ g, cv.ownBlock = some g → g < w.heap.size ∧ g ≠ kn) :
    Calls Tryz.prog 66 #[.pointer (some ⟨gp, 0, none⟩), .agg #[.string ⟨#[109, 97, 105, 110]⟩, .int .i64 0, .int .i64 3, .int .i64 0, cv], .pointer (some ⟨kn, 0, none⟩)] w fun e w' => e = .returned (.slice none 0 0) ∧ Tn (fun k => k = kn) w w' := by
  have hkl : kn < w.heap.size := World.block_lt_of_cell? _ _ hk.k0
  obtain ⟨U, hU⟩ : ∃ U, U = (w.alloc (.cells #[.string ⟨#[109, 97, 105, 110]⟩, .int .i64 0, .int .i64 3, .int .i64 0, cv] 76)).alloc (.cells #[.pointer (some ⟨kn, 0, none⟩)] 84) := ⟨_, rfl⟩
  have hbx : BX2 U w.heap.size kn cv := by rw [hU]; exact bx2_new _ _ _ _ _
  have tU : Tn No w U := by rw [hU]; exact ((Tn.refl No w).alloc _).alloc _
  have zU : U.heap.size = w.heap.size + 2 := by rw [hU]; simp
  have hb := hbx.k
  have u2 := hbx.f2
  have u3 := hbx.f3
  obtain ⟨fb, hfb⟩ : ∃ fb, fb = w.heap.size := ⟨_, rfl⟩
  have HF : Hid (∀ u, Tn No U u → Calls Tryz.prog 104 #[.pointer (some ⟨kn, 0, none⟩), .int .i64 3] u fun e w' => e = .returned (.tuple #[]) ∧ ∃ sb wb nb c1 c2 c3, NT w' (fb + 1) kn sb wb nb 3 c1 c2 c3 0 (fun _ => 0) ∧ BX2 w' fb kn cv ∧ GR w' cv gp bb cap ∧ fb + 2 ≤ sb ∧ Tn (fun k => k = kn) w w') := hid (fun u t => by
    have hk' := hk.no (tU.then t)
    have hb' := (hbx.tn t (fun e => e) (fun e => e))
    refine (fit_raw (fb + 1) kn 3 0 u (by omega) (by omega) (by rw [hfb]; exact hb'.k) (by omega) hk'.k0 hk'.k1 hk'.k2 hk'.k3 hk'.kf).mono ?_
    rintro e w' ⟨rfl, sb, wb, nb, c1, c2, c3, q1, q2, q3⟩
    have tw := (tU.then t).any.trans q3 (fun _ _ e => e) (fun _ _ e => e)
    refine ⟨rfl, sb, wb, nb, c1, c2, c3, q1, ?_, h.keep tw n1 n2 (fun g hg => (n3 g hg).2), ?_, tw⟩
    · rw [hfb]; exact hb'.tn q3 (by show ¬ (_ = kn); omega) (by show ¬ (_ = kn); omega)
    · have := t.size; omega)
  subst hU
  subst hfb
  have hgl := h.g.lt
  have hbl := h.b.lt
  have HNEW : Hid (∀ w5 sb wb nb c1 c2 c3, NT w5 (w.heap.size + 1) kn sb wb nb 3 c1 c2 c3 0 (fun _ => 0) → BX2 w5 w.heap.size kn cv → GR w5 cv gp bb cap → w.heap.size + 2 ≤ sb → Tn (fun k => k = kn) w w5 →
      (∃ E, E = (((w5.setCell ⟨kn, 0, none⟩ (.int .i64 1)).alloc (.cells #[.int .i64 1] 3)).alloc (.cells #[.slice none 0 0] 149)).alloc (.cells #[.int .i64 0] 3) ∧ BX2 E w.heap.size kn cv) ∧
      ∀ p1 p2 p3 p4, Calls Tryz.prog 105 #[.pointer (some ⟨gp, 0, none⟩), .agg #[.string ⟨#[109, 97, 105, 110]⟩, .int .i64 0, .int .i64 3, .int .i64 0, cv], .func (.func 106) #[] #[.pointer (some ⟨w.heap.size + 1, 0, none⟩), p1, p2, p3, p4], .func (.func 108) #[] #[.pointer (some ⟨w.heap.size + 1, 0, none⟩)]] ((((w5.setCell ⟨kn, 0, none⟩ (.int .i64 1)).alloc (.cells #[.int .i64 1] 3)).alloc (.cells #[.slice none 0 0] 149)).alloc (.cells #[.int .i64 0] 3))
        fun e w' => e = .returned (.tuple #[]) ∧ BM w kn gp bb cap sb wb nb c1 c2 c3 cv 2 (Sp 1 lall) w5.heap.size w') := hid (fun w5 sb wb nb c1 c2 c3 a1 a2 a3 a4 a5 => by
    have hm := bm_new a1 a2 a3 a5 hkl n1 n2 n3 3 149 3
    have hsl := (a1.lt (by omega)).2.2.1
    exact ⟨⟨_, rfl, hm.bx⟩, fun p1 p2 p3 p4 => hm.first a4 hsl hkl hgl hbl n1 n2 n3 p1 p2 p3 p4⟩)
  clear hk hbx tU zU n3 h
  go_enter Tryz.func66, Tryz.ntmps66
  go_wp2_with (first
    | (go_at_call 105; refine (HU.out _ _ _ _).mono ?_; rintro e w7 ⟨rfl, hm⟩; have g0 := hm.bx.f0; have g1 := hm.bx.f1; have g2 := hm.bx.f2; have g3 := hm.bx.f3; have g4 := hm.bx.f4; have HM := hid hm; clear hm HU)
    | (go_at_call 105; refine (HM.out.second _).mono ?_; rintro e w8 ⟨rfl, hm⟩; have ho := hm.o; have HM8 := hid hm; clear hm)
    | (go_at_call 104; refine (HF.out _ (by repeat (first | exact Tn.refl _ _ | apply Tn.alloc | apply Tn.drew | apply Tn.drewN))).mono ?_; rintro e w5 ⟨rfl, sb, wb, nb, c1, c2, c3, hnt, hbx, hgr, hsb, htn⟩; obtain ⟨⟨E, hE, hEx⟩, hu⟩ := HNEW.out w5 sb wb nb c1 c2 c3 hnt hbx hgr hsb htn; subst hE; have e0 := hEx.f0; have e1 := hEx.f1; have e2 := hEx.f2; have e3 := hEx.f3; have e4 := hEx.f4; have HU := hid hu; have v1 := hnt.box; have v2 := hnt.time; have v3 := hnt.tf; clear hnt hbx hgr hsb htn hEx hu))
  go_ret
  exact ⟨rfl, HM8.out.tn⟩
end Go.Proofs.YtoidddfpekbliaaGreat
namespace Go.Proofs.YtoidddfpekbliaaGreat
set_option linter.unusedSimpArgs false
set_option linter.unusedVariables false
open Go.RowKit
attribute [local go_sem ↓] Go.wp_at_zero Go.wp_at_succ

theorem lcode_flat : Flat lcode := by
  refine ⟨by decide, by decide, ?_, ?_, ?_⟩
  · intro i hi
    have h1 : i = 0 ∨ i = 1 ∨ i = 2 ∨ i = 3 := by have : lcode.length = 4 := rfl; omega
    rcases h1 with rfl | rfl | rfl | rfl <;> exact ⟨by decide +revert, by decide +revert⟩
  · intro i hi
    have h1 : i = 0 ∨ i = 1 ∨ i = 2 := by have : lcode.length = 4 := rfl; omega
    rcases h1 with rfl | rfl | rfl <;> decide +revert
  · decide
theorem lcode_last : (!leavesF ((lcode[lcode.length - 1]?).map Wd.k |>.getD 0)) = false := by decide
theorem KN.kept {w w' : World} {kn : Nat} {F : Nat → Prop} (h : KN w kn) (t : Tn F w w') (n : ¬ F kn) : KN w' kn := by
  have hl := World.block_lt_of_cell? _ _ h.k0
  exact ⟨(t.cell hl n).trans h.k0, (t.cell hl n).trans h.k1, (t.cell hl n).trans h.k2, (t.cell hl n).trans h.k3, fun i => (t.frozen hl n).trans (h.kf i)⟩

set_option maxHeartbeats 4000000 in
set_option maxRecDepth 100000 in
theorem sfun_raw {w : World} {cv : Value} {kn : Nat} (hc : LD 11 eW w cv lcode) (hk : KN w kn) (n3 : ∀ g, cv.ownBlock = some g → g < w.heap.size ∧ g ≠ kn) :
    Calls Tryz.prog 36 #[.agg #[.string ⟨#[109, 97, 105, 110]⟩, .int .i64 0, .int .i64 3, .int .i64 0, cv], .pointer (some ⟨kn, 0, none⟩)] w fun e w' => e = .returned (.bool true) ∧ Tn (fun k => k = kn) w w' := by
  have hkl : kn < w.heap.size := World.block_lt_of_cell? _ _ hk.k0
  obtain ⟨fb, hfb⟩ : ∃ fb, fb = w.heap.size := ⟨_, rfl⟩
  have HU : Hid (∀ u, Tn No (w.alloc (.cells #[.string ⟨#[109, 97, 105, 110]⟩, .int .i64 0, .int .i64 3, .int .i64 0, cv] 76)) u → Tn No w u ∧ fb < u.heap.size ∧ u.cell? ⟨fb, 0, none⟩ = some (.string ⟨#[109, 97, 105, 110]⟩) ∧ u.cell? ⟨fb, 1, none⟩ = some (.int .i64 0) ∧ u.cell? ⟨fb, 2, none⟩ = some (.int .i64 3) ∧ u.cell? ⟨fb, 3, none⟩ = some (.int .i64 0) ∧ u.cell? ⟨fb, 4, none⟩ = some cv) := hid (fun u t => by
    have e1 : ∀ i, u.cell? ⟨fb, i, none⟩ = #[.string ⟨#[109, 97, 105, 110]⟩, .int .i64 0, .int .i64 3, .int .i64 0, cv][i]? := fun i => by
      rw [t.cell (by simp [hfb]) (fun e => e), hfb]
      exact World.cell?_alloc_mark _ _ _ _ i
    exact ⟨((Tn.refl No w).alloc _).then t, by have := t.size; simp at this; omega, e1 0, e1 1, e1 2, e1 3, e1 4⟩)
  have HNG : Hid (∀ u, Tn No w u → Calls Tryz.prog 64 #[cv] u fun e w' => ∃ gp bb cap, e = .returned (.pointer (some ⟨gp, 0, none⟩)) ∧ Tn No u w' ∧ u.heap.size ≤ gp ∧ u.heap.size ≤ bb ∧ bb ≠ gp ∧ CN w' gp 2 (gc cv bb cap) ∧ CN w' bb 11 (bk 0 4 false false)) := hid (fun u t => by
    refine (newGraph_raw cv lcode u (hc.no t) (fun x hx => ⟨none, 0, by obtain ⟨h1, h2, _⟩ := lf_words x hx; rw [h1, h2]; rfl⟩) lcode_flat).mono ?_
    rintro e w' ⟨bb, cap, rfl, q1, q2, q3, q4, q5⟩
    rw [lcode_last] at q2
    exact ⟨u.heap.size, bb, cap, rfl, q5, Nat.le_refl _, q3, q4, q1, q2⟩)
  have HRE : Hid (∀ u0 u gp bb cap, CN u gp 2 (gc cv bb cap) → CN u bb 11 (bk 0 4 false false) → bb ≠ gp → u0.heap.size ≤ gp → u0.heap.size ≤ bb → Tn No u0 u → Calls Tryz.prog 65 #[.pointer (some ⟨gp, 0, none⟩)] u fun e w' => e = .returned (.tuple #[]) ∧ CN w' gp 2 (gc cv bb cap) ∧ CN w' bb 11 (bk 0 4 false true) ∧ Tn No u0 w') := hid (fun u0 u gp bb cap a1 a2 a3 a4 a5 a6 => reach_raw cv gp bb cap 4 u0 u a1 a2 a3 a4 a5 a6)
  have HBA : Hid (∀ u gp bb cap, Tn No w u → CN u gp 2 (gc cv bb cap) → CN u bb 11 (bk 0 4 false true) → w.heap.size ≤ gp → w.heap.size ≤ bb → Calls Tryz.prog 66 #[.pointer (some ⟨gp, 0, none⟩), .agg #[.string ⟨#[109, 97, 105, 110]⟩, .int .i64 0, .int .i64 3, .int .i64 0, cv], .pointer (some ⟨kn, 0, none⟩)] u fun e w' => e = .returned (.slice none 0 0) ∧ Tn (fun k => k = kn) w w') := hid (fun u gp bb cap t a1 a2 a3 a4 => by
    refine (batches_raw ⟨hc.no t, a1, a2⟩ (hk.no t) (by omega) (by omega) (fun g hg => ⟨by have := (n3 g hg).1; have := t.size; omega, (n3 g hg).2⟩)).mono ?_
    rintro e w' ⟨rfl, q⟩
    exact ⟨rfl, t.any.trans q (fun _ _ e => e) (fun _ _ e => e)⟩)
  obtain ⟨y0, y1, y2, y3, y4, y5, y6⟩ := HU.out _ (Tn.refl _ _)
  subst hfb
  clear hc hk n3
  go_enter Tryz.func36, Tryz.ntmps36
  go_wp2_with (first
    | (go_at_call 64; refine (HNG.out _ (by repeat (first | exact Tn.refl _ _ | apply Tn.alloc | apply Tn.drew | apply Tn.drewN))).mono ?_; rintro e w2 ⟨gp, bb, cap, rfl, t2, hgp, hbb, hne, hg, hb⟩; have HG := hid hg; have HB := hid hb; have T2 := hid t2; have hgw := Nat.lt_of_lt_of_le y1 hgp; have hbw := Nat.lt_of_lt_of_le y1 hbb; have HGP := hid hgp; have HBB := hid hbb; clear hg hb t2 hgp hbb)
    | (go_at_call 65; refine (HRE.out _ w2 gp bb cap HG.out HB.out hne HGP.out HBB.out T2.out).mono ?_; rintro e w3 ⟨rfl, hg, hb, t3⟩; obtain ⟨x00, x0, x1, x2, x3, x4, x5⟩ := HU.out w3 t3; have HG3 := hid hg; have HB3 := hid hb; have T3 := hid x00; clear hg hb t3 x00)
    | (go_at_call 66; refine (HBA.out w3 gp bb cap T3.out HG3.out HB3.out (Nat.le_of_lt hgw) (Nat.le_of_lt hbw)).mono ?_; rintro e w4 ⟨rfl, t4⟩; have T4 := hid t4; clear t4))
  go_loopw [18] (fun i wr => i = .int .i64 0 ∧ Hid (Tn (fun k => k = kn) w wr)) (fun _ _ => 0)
  case atStart => exact ⟨rfl, T4⟩
  case round =>
    obtain ⟨rfl, T5⟩ := hrel
    go_wp2_with fail
    go_ret
    exact ⟨rfl, T5.out⟩

set_option maxHeartbeats 4000000 in
set_option maxRecDepth 100000 in
theorem strict_little (fv cv : Value) (w : World) (hp : PgA w (littleP fv cv)) : Calls Tryz.prog 11 #[(littleP fv cv).val] w fun e w' => e = .returned (.bool true) ∧ Tn No w w' := by
  obtain ⟨ca, cn, cc, rfl⟩ : ∃ ca cn cc, cv = .slice ca cn cc := by
    obtain ⟨a, c, e, _⟩ := (hp.each ⟨⟨#[109, 97, 105, 110]⟩, 0, 3, 0, cv, lcode⟩ (by simp [littleP])).code
    exact ⟨a, _, c, e⟩
  have HM : Hid (∀ u, Tn No w u → Calls Tryz.prog 32 #[(littleP fv (.slice ca cn cc)).val] u fun e w' => e = .returned (.bool true) ∧ Tn No u w') := hid (fun u t => by rw [← little_may fv (.slice ca cn cc)]; exact mayBe_raw _ u (hp.no t))
  obtain ⟨fa, fc, hfv, hfc, hfm, hfat⟩ := hp.funs
  obtain ⟨g, o, rfl, hg, hcell⟩ := hfat (by simp [littleP])
  have hfl : (littleP fv (.slice ca cn cc)).funs.length = 1 := rfl
  rw [hfl] at hfv hfc
  subst hfv
  have hF := hp.each ⟨⟨#[109, 97, 105, 110]⟩, 0, 3, 0, .slice ca cn cc, lcode⟩ (by simp [littleP])
  have hcd : LD 11 eW w (.slice ca cn cc) lcode := hF.code
  have hcv : ∀ g', (Value.slice ca cn cc).ownBlock = some g' → g' < w.heap.size := fun g' hg' => by
    obtain ⟨a, c, e, _, _, hat⟩ := hcd
    obtain ⟨g2, o2, e2, hg2, _⟩ := hat (by decide)
    rw [e, e2] at hg'
    simp [Value.ownBlock] at hg'
    omega
  have c0 : w.cell? ⟨g, o, none⟩ = some (.string ⟨#[109, 97, 105, 110]⟩) := hcell 0 (by simp [littleP]) 0 (by omega)
  have c1 : w.cell? ⟨g, o + 1, none⟩ = some (.int .i64 0) := hcell 0 (by simp [littleP]) 1 (by omega)
  have c2 : w.cell? ⟨g, o + 2, none⟩ = some (.int .i64 3) := hcell 0 (by simp [littleP]) 2 (by omega)
  have c3 : w.cell? ⟨g, o + 3, none⟩ = some (.int .i64 0) := hcell 0 (by simp [littleP]) 3 (by omega)
  have c4 : w.cell? ⟨g, o + 4, none⟩ = some (.slice ca cn cc) := hcell 0 (by simp [littleP]) 4 (by omega)
  have hval : (littleP (.slice (some ⟨g, o, none⟩) 1 fc) (.slice ca cn cc)).val = .agg #[.slice (some ⟨g, o, none⟩) 1 fc, .slice none 0 0, .int .i64 0] := rfl
  rw [hval] at HM ⊢
  have HU : Hid (∀ u, Tn No (w.alloc (.cells #[.slice (some ⟨g, o, none⟩) 1 fc, .slice none 0 0, .int .i64 0] 25)) u → Tn No w u ∧ u.cell? ⟨w.heap.size, 0, none⟩ = some (.slice (some ⟨g, o, none⟩) 1 fc) ∧ u.cell? ⟨w.heap.size, 1, none⟩ = some (.slice none 0 0) ∧ u.cell? ⟨w.heap.size, 2, none⟩ = some (.int .i64 0) ∧ w.heap.size < u.heap.size) := hid (fun u t => by
    have e1 : ∀ i, u.cell? ⟨w.heap.size, i, none⟩ = #[.slice (some ⟨g, o, none⟩) 1 fc, .slice none 0 0, .int .i64 0][i]? := fun i => by
      rw [t.cell (by simp) (fun e => e)]
      exact World.cell?_alloc_mark _ _ _ _ i
    exact ⟨((Tn.refl No w).alloc _).then t, e1 0, e1 1, e1 2, by have := t.size; simp at this; omega⟩)
  have HN : Hid (∀ u, Tn No w u → KN (u.alloc (.cells #[.int .i64 0, .slice none 0 0, .slice none 0 0, .slice none 0 0] 86)) u.heap.size) := hid (fun u t => by
    have hh := heap_alloc_new u (.cells #[.int .i64 0, .slice none 0 0, .slice none 0 0, .slice none 0 0] 86)
    have e1 : ∀ i, (u.alloc (.cells #[.int .i64 0, .slice none 0 0, .slice none 0 0, .slice none 0 0] 86)).cell? ⟨u.heap.size, i, none⟩ = #[.int .i64 0, .slice none 0 0, .slice none 0 0, .slice none 0 0][i]? := fun i => World.cell?_alloc_mark _ _ _ _ i
    exact ⟨e1 0, e1 1, e1 2, e1 3, fun i => by simp only [World.frozen?, hh]; simp⟩)
  have HS : Hid (∀ u kn, Tn No w u → w.heap.size ≤ kn → KN u kn → Calls Tryz.prog 36 #[.agg #[.string ⟨#[109, 97, 105, 110]⟩, .int .i64 0, .int .i64 3, .int .i64 0, .slice ca cn cc], .pointer (some ⟨kn, 0, none⟩)] u fun e w' => e = .returned (.bool true) ∧ Tn No w w') := hid (fun u kn t hk h => by
    refine (sfun_raw (hcd.no t) h (fun g' hg' => by have := hcv g' hg'; have := t.size; omega)).mono ?_
    rintro e w' ⟨rfl, q⟩
    exact ⟨rfl, t.trans q (fun _ _ e => e) (fun i hi e => by omega)⟩)
  have HC : Hid (∀ u, Tn No w u → u.cell? ⟨g, o, none⟩ = some (.string ⟨#[109, 97, 105, 110]⟩) ∧ u.cell? ⟨g, o + 1, none⟩ = some (.int .i64 0) ∧ u.cell? ⟨g, o + 2, none⟩ = some (.int .i64 3) ∧ u.cell? ⟨g, o + 3, none⟩ = some (.int .i64 0) ∧ u.cell? ⟨g, o + 4, none⟩ = some (.slice ca cn cc)) := hid (fun u t => ⟨(t.cell hg (fun e => e)).trans c0, (t.cell hg (fun e => e)).trans c1, (t.cell hg (fun e => e)).trans c2, (t.cell hg (fun e => e)).trans c3, (t.cell hg (fun e => e)).trans c4⟩)
  obtain ⟨y0, y1, y2, y3, y4⟩ := HU.out _ (Tn.refl _ _)
  clear hp hfat hcell hfl hF hcd hcv c0 c1 c2 c3 c4 hval y0 hfm
  go_enter Tryz.func11, Tryz.ntmps11
  go_wp2_with (first
    | (go_at_call 32; refine (HM.out _ (by repeat (first | exact Tn.refl _ _ | apply Tn.alloc | apply Tn.drew | apply Tn.drewN))).mono ?_; rintro e w2 ⟨rfl, t2⟩; obtain ⟨x0, x1, x2, x3, x4⟩ := HU.out w2 t2; have T2 := hid x0; clear t2 x0))
  have hkn := HN.out w2 T2.out
  have HKN := hid hkn
  have T3 := hid (T2.out.alloc (.cells #[.int .i64 0, .slice none 0 0, .slice none 0 0, .slice none 0 0] 86))
  clear hkn x1 x2 x3 y1 y2 y3 y4
  go_loopw [14] (fun i wr => Hid (Tn No w wr) ∧ ((i = .int .i64 0 ∧ Hid (KN wr w2.heap.size)) ∨ i = .int .i64 1)) (fun i _ => 1 - (intOf i).toNat)
  case atStart => exact ⟨T3, .inl ⟨rfl, HKN⟩⟩
  case round =>
    obtain ⟨T5, h5⟩ := hrel
    rcases h5 with ⟨rfl, HK5⟩ | rfl
    · obtain ⟨d0, d1, d2, d3, d4⟩ := HC.out wr T5.out
      go_wp2_with (first
        | (go_at_call 36; refine (HS.out _ w2.heap.size (T5.out.then (by repeat (first | exact Tn.refl _ _ | apply Tn.alloc | apply Tn.drew | apply Tn.drewN))) (Nat.le_of_lt x4) (HK5.out.no (by repeat (first | exact Tn.refl _ _ | apply Tn.alloc | apply Tn.drew | apply Tn.drewN)))).mono ?_; rintro e w6 ⟨rfl, t6⟩; have T6 := hid t6; clear t6))
      go_roundw
      case rel => exact ⟨T6, .inr rfl⟩
      case measure => simp [intOf]
    · go_wp2_with fail
      go_ret
      exact ⟨rfl, T5.out⟩
end Go.Proofs.YtoidddfpekbliaaGreat
