/-
  The texts' way out: digitsFromLeast of the program.
-/
import Derived.Test.YtonfnkchpicoiaaDivide
namespace Go.Proofs.Ytonfnkchpicoiaa
set_option linter.unusedSimpArgs false
set_option linter.unusedVariables false
open Go.RowKit
attribute [local go_sem ↓] Go.wp_at_zero Go.wp_at_succ

/-- bytes as cells -/
def bl (l : List Nat) : List Value := l.map fun x : Nat => Value.int .u8 (x : Int)
theorem bl_length (l : List Nat) : (bl l).length = l.length := by simp [bl]
theorem bl_append (l r : List Nat) : bl (l ++ r) = bl l ++ bl r := by simp [bl]
theorem bl_get (l : List Nat) (i : Nat) (h : i < l.length) : (bl l)[i]? = some (.int .u8 ((l.getD i 0 : Nat) : Int)) := by
  simp [bl, List.getD_eq_getElem?_getD, List.getElem?_eq_getElem h]
theorem bl_take (l : List Nat) (k : Nat) : (bl l).take k = bl (l.take k) := by simp [bl, List.map_take]

/-- the number that decimal digits say, the least first -/
def dvl : List Nat → Nat
  | [] => 0
  | x :: l => (x - 48) + 10 * dvl l
theorem dvl_snoc (l : List Nat) (x : Nat) : dvl (l ++ [x]) = dvl l + 10 ^ l.length * (x - 48) := by
  induction l with
  | nil => simp [dvl]
  | cons y l ih => simp only [List.cons_append, dvl, ih, List.length_cons, Nat.pow_succ]; grind
/-- each is a digit -/
def Dgs (l : List Nat) : Prop := ∀ x, x ∈ l → 48 ≤ x ∧ x ≤ 57
theorem dgs_snoc {l : List Nat} {x : Nat} (h : Dgs l) (hx : 48 ≤ x ∧ x ≤ 57) : Dgs (l ++ [x]) := by
  intro y hy
  rcases List.mem_append.1 hy with hy | hy
  · exact h y hy
  · simp at hy; omega
theorem dig_step {L p V g q d : Nat} (h : V + 10 ^ L * g = p) (e : g = q * 10 + d) : (V + 10 ^ L * d) + 10 ^ (L + 1) * q = p := by
  subst e
  rw [Nat.pow_succ]
  grind
theorem grp_gen {M v q r p V b : Nat} (h : M = v * p + V) (hv : v = q * b + r) : M = q * (p * b) + (V + p * r) := by
  subst hv
  rw [h]
  grind
theorem grp_step {M v q r L V X : Nat} (h : M = v * 10 ^ L + V) (hv : v = q * 1000000000 + r) (hX : X = V + 10 ^ L * r) : M = q * 10 ^ (L + 9) + X := by
  have e : (10 : Nat) ^ (L + 9) = 10 ^ L * 1000000000 := by rw [Nat.pow_add]
  rw [e, hX]
  exact grp_gen h hv
theorem pow_8_10 (k : Nat) : 2 ^ (3 * k) ≤ 10 ^ k := by
  rw [Nat.pow_mul]
  exact Nat.pow_le_pow_left (by decide) k
theorem B32_pow (n : Nat) : B32 ^ n = 2 ^ (32 * n) := by
  rw [Nat.pow_mul]
  rfl
theorem nd_bound {x : List Nat} {k : Nat} (hl : Lims x) (h : 10 ^ k ≤ val x) : k ≤ 11 * x.length := by
  have h1 := val_lt x hl
  rw [B32_pow] at h1
  have h2 := pow_8_10 k
  have h3 : 2 ^ (3 * k) < 2 ^ (32 * x.length) := by omega
  have h4 := (Nat.pow_lt_pow_iff_right (a := 2) (by omega)).1 h3
  omega

/-- the limbs that a slice at the head of a block reads as -/
def readSlice : Value → World → List Nat
  | .slice (some ⟨g, 0, none⟩) n _, w => (List.range n).map fun i => match w.cell? ⟨g, i, none⟩ with | some (.int _ z) => z.toNat | _ => 0
  | _, _ => []
theorem readSlice_row {w : World} {g n c : Nat} {l S : List Nat} (h : Row w g (l ++ S)) (hl : l.length = n) : readSlice (.slice (some ⟨g, 0, none⟩) n c) w = l := by
  unfold readSlice
  apply List.ext_getElem
  · simp [hl]
  · intro i h1 h2
    simp only [List.getElem_map, List.getElem_range]
    rw [h.pre.cell i h2, List.getD_eq_getElem?_getD, List.getElem?_eq_getElem h2]
    simp

theorem u8_info : (Try.prog.info? 5).map (fun i => (i.zero, i.size, i.bytes)) = some (some (.int .u8 0), 1, 1) := by kernel_rfl

/-- what digitsFromLeast answers: the digits, the least first, the greatest not 0 -/
def DigPost (w : World) (x : List Nat) (e : Ending) (w' : World) : Prop :=
  ∃ g n c D, e = .returned (.slice (some ⟨g, 0, none⟩) n c) ∧ w'.ownsRow w.heap.size 5 1 (.slice (some ⟨g, 0, none⟩) n c) n (bl D) ∧ Dgs D ∧ 0 < n ∧ D.getD (n - 1) 0 ≠ 48 ∧ dvl D = val x ∧ n ≤ 11 * x.length + 9 ∧ w.grownBy w' none

def sliceLen : Value → Nat | .slice _ n _ => n | _ => 0
theorem own_cap {w : World} {B g n c : Nat} {xs : List Value} (h : w.ownsRow B 5 1 (.slice (some ⟨g, 0, none⟩) n c) n xs) : n ≤ c ∧ c ≤ 9223372036854775807 := by
  rcases h.2 with ⟨hv, _⟩ | ⟨g', cap, cur, hv, hb, hg, hnc, hcm, hcs, ht⟩
  · cases hv
  · cases hv; exact ⟨hnc, hcm⟩
/-- an owned row, cut at its end -/
theorem own_short {w : World} {B B' g n c m : Nat} {D : List Nat} (h : w.ownsRow B 5 1 (.slice (some ⟨g, 0, none⟩) n c) n (bl D)) (hm : m ≤ n) (hB : B' ≤ B) : w.ownsRow B' 5 1 (.slice (some ⟨g, 0, none⟩) m c) m (bl (D.take m)) := by
  have hl : D.length = n := by have := h.1; simpa [bl] using this
  refine ⟨by rw [bl_length, List.length_take]; omega, ?_⟩
  rcases h.2 with ⟨hv, _⟩ | ⟨g', cap, cur, hv, hb, hg, hnc, hcm, hcs, ht⟩
  · cases hv
  · cases hv
    refine .inr ⟨g, c, cur, rfl, by omega, hg, by omega, hcm, hcs, ?_⟩
    rw [← bl_take, ← ht, List.take_take, Nat.min_eq_left (by omega), Nat.mul_one]

set_option maxHeartbeats 3200000 in
theorem digits_raw (a : Option Addr) (n c : Nat) (x : List Nat) (w : World) (hx : SL w a n c x) (nx : Nrm x) (hn : x ≠ []) (hb : n ≤ 1000000000000) :
    Calls Try.prog 63 #[.slice a n c] w (DigPost w x) := by
  obtain ⟨i0, hi, hz0, hz1, hz2⟩ := info_parts u8_info
  have hxl := hx.len
  have hxlim := hx.lim
  go_enter Try.func63, Try.ntmps63
  go_wp2_with (go_at_call 45; refine (clone_row' a n c x _ hx hn).mono ?_; rintro e w1 ⟨g, c1, rfl, hr1, hB1, hc1, hm1, hg1⟩)
  have hgl := hr1.lt
  go_loopw [3, 4] (fun lf dg wr => ∃ (al : Option Addr) (nl cl' : Nat) (l S : List Nat) (ad : Option Addr) (nd cd : Nat) (D : List Nat), lf = .slice al nl cl' ∧ (0 < nl → al = some ⟨g, 0, none⟩) ∧ Row wr g (l ++ S) ∧ l.length = nl ∧ Lims l ∧ nl ≤ cl' ∧ cl' ≤ 9223372036854775807 ∧ nl ≤ x.length ∧ Nrm l ∧
      dg = .slice ad nd cd ∧ wr.ownsRow w1.heap.size 5 1 (.slice ad nd cd) nd (bl D) ∧ Dgs D ∧ D.length = nd ∧ val x = val l * 10 ^ nd + dvl D ∧ nd ≤ 11 * x.length + 9 ∧ w.grownBy wr none ∧ w1.heap.size ≤ wr.heap.size)
    (fun lf _ wr => val (readSlice lf wr))
  case atStart => exact ⟨_, n, c1, x, [], none, 0, 0, [], rfl, fun _ => rfl, by simpa using hr1, hxl, hxlim, by omega, hm1, by omega, nx, rfl, World.ownsRow_nil _ _ _ _, (by intro y hy; cases hy), rfl, by simp [dvl], by omega, hg1, Nat.le_refl _⟩
  case round =>
    obtain ⟨al, nl, cl', l, S, ad, nd, cd, D, rfl, hal, hrow, hll, hlim, hlc, hclm, hlx, hnl, rfl, hown, hD, hDl, hv, hnd, hg, hsz⟩ := hrel
    have HV := hid hv
    clear hv
    by_cases h0 : nl = 0
    · have hn0 : ¬ (0 : Int) < (nl : Int) := by omega
      have hl0 : l = [] := List.length_eq_zero_iff.1 (by omega)
      have HX : Hid (val x = dvl D) := by
        have := HV.out
        rw [hl0] at this
        show _ = _
        simpa [val] using this
      have hxp : 1 ≤ val x := by
        have := nrm_pos nx hn
        have := Nat.pow_pos (n := x.length - 1) B32_pos
        omega
      have hDp : 0 < nd := by
        rcases Nat.eq_zero_or_pos nd with h | h
        · have hD0 : D = [] := List.length_eq_zero_iff.1 (by omega)
          have := HX.out
          rw [hD0] at this
          simp [dvl] at this
          omega
        · exact h
      have hform := hown.form hDp
      obtain ⟨gd, capd, hvd, hgd, hgd2⟩ := hform
      cases hvd
      obtain ⟨hcd1, hcd2⟩ := own_cap hown
      clear hrow hal
      go_wp2
      go_loop [4] (fun dg => ∃ m : Nat, m ≤ nd ∧ dg = .slice (some ⟨gd, 0, none⟩) m cd ∧ dvl (D.take m) = val x) (fun dg => sliceLen dg)
      case atStart => exact ⟨nd, Nat.le_refl _, rfl, by rw [List.take_of_length_le (by omega)]; exact HX.out.symm⟩
      case round =>
        obtain ⟨m, hm, rfl, hvm⟩ := hrel
        have hm0 : m ≠ 0 := by intro e; rw [e] at hvm; simp [dvl] at hvm; omega
        obtain ⟨q, rfl⟩ : ∃ q, m = q + 1 := ⟨m - 1, by omega⟩
        have HM := hid hvm
        clear hvm
        have hcell := hown.cellAt q (by omega)
        rw [bl_get D q (by omega)] at hcell
        have hdig : 48 ≤ D.getD q 0 ∧ D.getD q 0 ≤ 57 := hD _ (by rw [List.getD_eq_getElem?_getD, List.getElem?_eq_getElem (by omega)]; exact List.getElem_mem _)
        have HT : Hid (dvl (D.take (q + 1)) = dvl (D.take q) + 10 ^ q * (D.getD q 0 - 48)) := by
          have e : D.take (q + 1) = D.take q ++ [D.getD q 0] := take_snoc D q (by omega)
          show _ = _
          rw [e, dvl_snoc, List.length_take, Nat.min_eq_left (by omega)]
        have HQ : Hid (∃ y, D.getD q 0 = y) := ⟨_, rfl⟩
        by_cases hz : D.getD q 0 = 48
        · rw [hz] at hcell HT
          go_wp2
          go_round
          case rel => exact ⟨q, by omega, by go_num, by rw [← HM.out, HT.out]; simp⟩
          case measure => simp [sliceLen]
        · have hz' : (((D.getD q 0 : Nat) : Int) == 48) = false := by rw [beq_eq_false_iff_ne]; omega
          have HZ := hid hz
          clear hz hdig HT HQ
          generalize hy : D.getD q 0 = y at *
          have HY := hid hy
          clear hy
          go_wp2
          go_ret
          refine ⟨gd, q + 1, cd, D.take (q + 1), rfl, own_short hown hm hg1.size, ?_, by omega, ?_, HM.out, by omega, hg⟩
          · intro z hz
            exact hD z (List.mem_of_mem_take hz)
          · rw [Nat.add_sub_cancel, getD_take _ _ _ (by omega), HY.out]
            exact HZ.out
    · obtain rfl := hal (by omega)
      have hlpos : 1 ≤ nl := by omega
      have hvl : 1 ≤ val l := by
        have := nrm_pos hnl (by intro e; rw [e] at hll; simp at hll; omega)
        have := Nat.pow_pos (n := l.length - 1) B32_pos
        omega
      have hnd2 : nd ≤ 11 * x.length := by
        refine nd_bound hxlim ?_
        rw [HV.out]
        have : 1 * 10 ^ nd ≤ val l * 10 ^ nd := Nat.mul_le_mul_right _ hvl
        omega
      have hpos : decide (0 < nl) = true := decide_eq_true (by omega)
      go_wp2_with (first
        | (go_at_call 73; refine (divideBy_raw g nl cl' 1000000000 l S _ hrow hll hlim (by omega) hlc (by omega) (by omega)).mono ?_; rintro e w2 ⟨N, r, rfl, hr2, hN, hNl, hrd, hv2, hg2⟩; have HV2 := hid hv2; clear hv2)
        | (go_at_call 44; refine (trim_raw _ nl cl' N _ (by exact (OW.of_row (B := 0) hr2 (Nat.zero_le _) (by omega) hlc (by omega) hclm hNl).sl)).mono ?_; rintro e w3 ⟨a3, rfl, rfl, ha3⟩))
      have hgr2 : w.grownBy w3 none := gb_then hg hg2 (fun i e => by cases e; omega)
      have hrl := hr2.lt
      have hown2 : w3.ownsRow w1.heap.size 5 1 (.slice ad nd cd) nd (bl D) := hown.kept hg2 (by
        by_cases hb : (Value.slice ad nd cd).ownBlock = none
        · exact .inl hb
        · right
          intro e
          have := (hown.lt g e).1
          omega)
      have hsz3 : w1.heap.size ≤ w3.heap.size := Nat.le_trans hsz hg2.size
      have hrow0 := hrow
      clear hown hrow
      go_loopw [4, 5, 15] (fun dg gs i wr2 => ∃ (k gr : Nat) (ad' : Option Addr) (nd' cd' : Nat) (D' : List Nat), k ≤ 9 ∧ i = .int .i64 k ∧ gs = .int .u32 gr ∧ gr < 10 ^ (9 - k) ∧ dg = .slice ad' nd' cd' ∧ wr2.ownsRow w1.heap.size 5 1 (.slice ad' nd' cd') nd' (bl D') ∧ Dgs D' ∧ D'.length = nd' ∧ nd' = nd + k ∧
          dvl D' + 10 ^ nd' * gr = dvl D + 10 ^ nd * r ∧ Row wr2 g (N ++ S) ∧ w.grownBy wr2 none ∧ w1.heap.size ≤ wr2.heap.size) (fun _ _ i _ => 9 - (intOf i).toNat)
      case atStart => exact ⟨0, r, ad, nd, cd, D, by omega, rfl, rfl, by simpa using hrd, rfl, hown2, hD, hDl, rfl, rfl, hr2, hgr2, hsz3⟩
      case round =>
        obtain ⟨k, gr, ad', nd', cd', D', hk, rfl, rfl, hgr, rfl, hown4, hD', hDl', hnd', hv4, hrow4, hg4, hsz4⟩ := hrel
        have HV4 := hid hv4
        have HND := hid hnd'
        have hnb : nd' ≤ 11 * x.length + 9 := by omega
        clear hv4 hnd'
        have hgb : gr < 1000000000 := by
          have : (10 : Nat) ^ (9 - k) ≤ 10 ^ 9 := Nat.pow_le_pow_right (by omega) (by omega)
          have e : (10 : Nat) ^ 9 = 1000000000 := by decide
          omega
        have HGR := hid hgr
        clear hgr
        by_cases hlt : k < 9
        · go_wp2_with (at_builtin; refine wpList_append_lies _ rfl (.tmp 17) (.tmp 22) 61 rfl w1.heap.size 5 i0 (.int .u8 0) 1 1 Try.underlying61 hi hz0 hz1 hz2 rfl (by decide) (.slice ad' nd' cd') nd' (bl D') rfl (hown4.alloc _) ⟨wr.heap.size, 0, none⟩ 1 1 [.int .u8 (48 + (gr : Int) % 10)] rfl rfl (cell_one_new _ _ _) (by intro u hu; simp at hu; subst hu; rfl) (by omega) (by unfold maxLen; omega) (by omega) (by simp; omega) (wr.heap.size + 1) (by simp) ?_; intro g5 cap5 w5 hown5 hgrow5 hat5 hlt5)
          have hgr5 : w.grownBy w5 none := gb_then (gb_alloc hg4 _) hgrow5 (fun i e => by have := (hown4.lt i e).1; have := hg1.size; omega)
          have hrow5 : Row w5 g (N ++ S) := (hrow4.alloc _).kept hgrow5 (fun e => by have := (hown4.lt g e).1; omega)
          have hsz5 : w1.heap.size ≤ w5.heap.size := by have := hgrow5.size; simp at this; omega
          go_roundw
          case rel =>
            refine ⟨k + 1, gr / 10, _, nd' + 1, cap5, D' ++ [48 + gr % 10], by omega, by go_num, by go_num, ?_, rfl, ?_, dgs_snoc hD' (by omega), by simp; omega, by have := HND.out; omega, ?_, hrow5, hgr5, hsz5⟩
            · have e : 9 - k = (9 - (k + 1)) + 1 := by omega
              have h2 := HGR.out
              rw [e, Nat.pow_succ] at h2
              omega
            · have e : bl (D' ++ [48 + gr % 10]) = bl D' ++ [.int .u8 (48 + (gr : Int) % 10)] := by simp [bl]
              rw [e]
              exact hown5
            · rw [dvl_snoc, hDl', Nat.add_sub_cancel_left]
              exact dig_step HV4.out (by omega)
          case measure => simp [intOf]; omega
        · have hk9 : k = 9 := by omega
          subst hk9
          have hgr0 : gr = 0 := by have := HGR.out; simp at this; omega
          subst hgr0
          go_wp2
          have hv2 := HV2.out
          have hv4 := HV4.out
          rw [Nat.mul_zero, Nat.add_zero] at hv4
          have hnn := HND.out
          have htr : tr N ++ (N.drop (tr N).length ++ S) = N ++ S := by
            have e : tr N = N.take (tr N).length := by unfold tr; rw [List.length_take, Nat.min_eq_left (tl_le _ _)]
            rw [← List.append_assoc]
            congr 1
            conv => lhs; arg 1; rw [e]
            exact List.take_append_drop _ _
          have htl := tr_le N
          go_roundw
          case rel =>
            refine ⟨a3, (tr N).length, (tr N).length, tr N, N.drop (tr N).length ++ S, ad', nd', cd', D', rfl, ?_, by rw [htr]; exact hrow4, rfl, lims_tr hNl, Nat.le_refl _, by omega, by omega, nrm_tr N, rfl, hown4, hD', hDl', ?_, hnb, hg4, hsz4⟩
            · intro hp
              rcases ha3 with ha3 | ha3
              · rw [ha3.1] at hp; simp at hp
              · exact ha3.2
            · rw [val_tr, hnn]
              exact grp_step HV.out hv2 hv4
          case measure =>
            rw [readSlice_row hrow0 hll]
            have hlt2 : val N < val l := by
              rw [hv2]; omega
            rcases ha3 with ha3 | ha3
            · rw [ha3.2, ha3.1]
              show 0 < val l
              omega
            · rw [ha3.2, readSlice_row (l := tr N) (S := N.drop (tr N).length ++ S) (by rw [htr]; exact hrow4) rfl, val_tr]
              exact hlt2
end Go.Proofs.Ytonfnkchpicoiaa
