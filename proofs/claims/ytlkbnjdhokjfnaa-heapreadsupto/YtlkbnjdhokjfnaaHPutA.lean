/-
  heap: words behind bytes.
-/
import Derived.Test.YtlkbnjdhokjfnaaHSmA
namespace Go.Proofs.Ytlkbnjdhokjfnaa
set_option linter.unusedSimpArgs false
set_option linter.unusedVariables false
open Go.RowKit
attribute [local go_sem ↓] Go.wp_at_zero Go.wp_at_succ

/-- the slice v' is what became of v: nothing else that was there has turned -/
structure Ou (w : World) (v : Value) (w' : World) (v' : Value) : Prop where
  tn : Tn (fun k => v.ownBlock = some k) w w'
  own : ∀ g, v'.ownBlock = some g → v.ownBlock = some g ∨ w.heap.size ≤ g
theorem Ou.refl (w : World) (v : Value) : Ou w v w v := ⟨Tn.refl _ _, fun g h => .inl h⟩
theorem Ou.trans {w w1 w2 : World} {v v1 v2 : Value} (h : Ou w v w1 v1) (k : Ou w1 v1 w2 v2) : Ou w v w2 v2 := by
  refine ⟨h.tn.trans k.tn (fun _ _ e => e) (fun i hi e => ?_), fun g hg => ?_⟩
  · rcases h.own i e with e | e
    · exact e
    · omega
  · rcases k.own g hg with e | e
    · exact h.own g e
    · exact .inr (Nat.le_trans h.tn.size e)
theorem Ou.of {w w' : World} {v v' : Value} (h : w.grownBy w' v.ownBlock) (ho : v'.ownBlock = v.ownBlock ∨ v'.ownBlock = some w.heap.size) : Ou w v w' v' := by
  refine ⟨Tn.of_grown h, fun g hg => ?_⟩
  rcases ho with e | e
  · exact .inl (by rw [← e]; exact hg)
  · rw [e] at hg; cases hg; exact .inr (Nat.le_refl _)
theorem Ou.no {w w1 : World} (v : Value) (t : Tn No w w1) : Ou w v w1 v := ⟨t.any, fun g h => .inl h⟩
/-- what is new stays new -/
theorem Ou.fresh {w w1 w2 : World} {v v' : Value} (t : Tn No w w1) (hv : ∀ g, v.ownBlock = some g → w.heap.size ≤ g) (h : Ou w1 v w2 v') : Tn No w w2 ∧ ∀ g, v'.ownBlock = some g → w.heap.size ≤ g := by
  refine ⟨t.trans h.tn (fun _ _ e => e) (fun i hi e => ?_), fun g hg => ?_⟩
  · have := hv i e; omega
  · rcases h.own g hg with e | e
    · exact hv g e
    · exact Nat.le_trans t.size e

theorem le_snoc : ∀ (k x : Nat), Hp.le (k + 1) x = Hp.le k x ++ [UInt8.ofNat (x / 256 ^ k % 256)]
  | 0, x => by simp [Hp.le]
  | k + 1, x => by
    have := le_snoc k (x / 256)
    rw [Hp.le, this, Hp.le]
    simp only [List.cons_append, List.cons.injEq, true_and]
    rw [Nat.div_div_eq_div_mul, ← Nat.pow_succ']

def PutPost (w : World) (v : Value) (l : List UInt8) (e : Ending) (w' : World) : Prop := ∃ v', e = .returned v' ∧ BR w' v' l ∧ Ou w v w' v'

theorem br_push {w : World} {v : Value} {l : List UInt8} (h : BR w v l) (y : UInt8) (b : Nat) (x : Int) (hx : x = (y.toNat : Int)) (hb : w.cell? ⟨b, 0, none⟩ = some (.int .u8 x)) (hl : l.length + 1 ≤ 4294967296) :
    ∃ v' w', (Builtin.append_ #[40, 40] 40 #[v, .slice (some ⟨b, 0, none⟩) 1 1]).run Try.prog w = .ok v' w' ∧ BR w' v' (l ++ [y]) ∧ Ou w v w' v' := by
  subst hx
  obtain ⟨v', w', h1, h2, h3, h4⟩ := lr_push (size := 1) Try.underlying40 u8_info rfl (by omega) h.lr y rfl (by intro u hu; simp [eB] at hu; subst hu; rfl) b (fun j u hu => by
    cases j with
    | zero => simp [eB] at hu; subst hu; exact hb
    | succ j => simp [eB] at hu) (by unfold maxLen; omega) (by omega) 40
  exact ⟨v', w', h1, h2.br, Ou.of h3 h4⟩

set_option maxHeartbeats 2000000 in
set_option maxRecDepth 100000 in
theorem putWord_raw (v : Value) (l : List UInt8) (x : Nat) (w : World) (h : BR w v l) (hl : l.length ≤ 4294967000) : Calls Try.prog 65 #[v, .int .u64 (x : Int)] w (PutPost w v (l ++ Hp.le 8 x)) := by
  have H := hid h
  clear h
  go_enter Try.func65, Try.ntmps65
  go_wp2_with fail
  go_loopw [0, 1, 5] (fun b y i wr => ∃ k : Nat, k ≤ 8 ∧ i = .int .i64 (k : Int) ∧ y = .int .u64 ((x / 256 ^ k : Nat) : Int) ∧ BR wr b (l ++ Hp.le k x) ∧ Ou w v wr b) (fun _ _ i _ => 8 - (intOf i).toNat)
  case atStart => exact ⟨0, by omega, rfl, by simp, by simpa [Hp.le] using H.out, Ou.refl _ _⟩
  case round =>
    obtain ⟨k, hk, rfl, rfl, hbr, hou⟩ := hrel
    clear H
    by_cases hlt : k < 8
    · obtain ⟨q, hq⟩ : ∃ q, x / 256 ^ k = q := ⟨_, rfl⟩
      have hq2 : x / 256 ^ (k + 1) = q / 256 := by rw [Nat.pow_succ, ← Nat.div_div_eq_div_mul, hq]
      have hsn := le_snoc k x
      rw [hq] at hsn
      rw [hq]
      have hll : (l ++ Hp.le k x).length + 1 ≤ 4294967296 := by simp [Hp.le_length]; omega
      have tn1 : Tn No wr (wr.alloc (.cells #[.int .u8 ((q : Int) % 256)] 5)) := (by repeat (first | exact Tn.refl _ _ | apply Tn.drew | apply Tn.drewN | apply Tn.alloc | (refine Tn.then ?_ (by assumption)) | (refine Tn.thenNo ?_ (by assumption))))
      obtain ⟨v', w', hr, hbr', hou'⟩ := br_push (hbr.no tn1) (UInt8.ofNat (q % 256)) wr.heap.size ((q : Int) % 256) (by rw [UInt8.toNat_ofNat']; omega) (by rw [World.cell?_alloc_new]; rfl) hll
      have HR := hid hr
      rw [List.append_assoc, ← hsn] at hbr'
      have HREL := hid (And.intro hbr' ((hou.trans (Ou.no _ tn1)).trans hou'))
      have HQ := hid hq2
      clear hr hbr' hou' hbr hou hsn hll tn1 hq hq2
      have hki : (k : Int) < 8 := by omega
      go_wp2_with (at_builtin; refine wpList_app _ rfl _ _ _ _ rfl _ _ rfl rfl v' w' HR.out ?_)
      go_roundw
      case rel => exact ⟨k + 1, by omega, by go_num, by rw [HQ.out]; go_num, HREL.out⟩
      case measure => simp [intOf]; omega
    · obtain rfl : k = 8 := by omega
      have HB := hid hbr
      have HO := hid hou
      clear hbr hou
      go_wp2
      go_ret
      exact ⟨_, rfl, HB.out, HO.out⟩
end Go.Proofs.Ytlkbnjdhokjfnaa
namespace Go.Proofs.Ytlkbnjdhokjfnaa
set_option linter.unusedSimpArgs false
set_option linter.unusedVariables false
open Go.RowKit
attribute [local go_sem ↓] Go.wp_at_zero Go.wp_at_succ

def fitsR (n : Nat) (r : Rf) : Bool := decide ((r.1 = 1 ∧ -4611686018427387904 ≤ r.2 ∧ r.2 ≤ 4611686018427387903) ∨ (r.1 = 2 ∧ 0 ≤ r.2 ∧ r.2 < (n : Int)))

theorem all_take_succ {α : Type} {p : α → Bool} {l : List α} {k : Nat} (hk : k < l.length) (h : (l.take k).all p = true) (hp : p l[k] = true) : (l.take (k + 1)).all p = true := by
  rw [List.take_add_one, List.getElem?_eq_getElem hk, List.all_append, h]
  simp [hp]
theorem all_false {α : Type} {p : α → Bool} {l : List α} {k : Nat} (hk : k < l.length) (hp : p l[k] = false) : l.all p = false := by
  rw [List.all_eq_false]
  exact ⟨l[k], List.getElem_mem hk, by simp [hp]⟩

set_option maxHeartbeats 4000000 in
set_option maxRecDepth 100000 in
theorem values_raw (v : Value) (l : List Rf) (n : Nat) (w : World) (h : LD 2 eR w v l) (hl : l.length ≤ 1073741824) (hn : n ≤ 1073741824) :
    Calls Try.prog 56 #[v, .int .i64 (n : Int)] w fun e w' => e = .returned (.bool (l.all (fitsR n))) ∧ Tn No w w' := by
  obtain ⟨a, c, rfl, hc, hcm, hat⟩ := h
  have HAT := hid hat
  obtain ⟨m, hm⟩ : ∃ m, l.length = m := ⟨_, rfl⟩
  have HM := hid hm
  rw [hm] at hc hl
  rw [hm]
  clear hat hm
  go_enter Try.func56, Try.ntmps56
  go_wp2_with fail
  go_loopw [9] (fun i wr => ∃ k : Nat, k ≤ m ∧ i = .int .i64 (k : Int) ∧ (l.take k).all (fitsR n) = true ∧ Tn No w wr) (fun i _ => m - (intOf i).toNat)
  case atStart => exact ⟨0, by omega, rfl, rfl, Tn.refl _ _⟩
  case round =>
    obtain ⟨k, hk, rfl, hall, ht⟩ := hrel
    by_cases hlt : k < m
    · have hkl : k < l.length := by have := HM.out; omega
      obtain ⟨g, o, rfl, hg, hcell⟩ := HAT.out (by omega)
      have q0 := hcell k hkl 0 (by omega)
      have q1 := hcell k hkl 1 (by omega)
      obtain ⟨x, y, hxy⟩ : ∃ x y, l[k] = (x, y) := ⟨_, _, rfl⟩
      rw [hxy] at q0 q1
      simp only [eR, List.getElem?_cons_zero, List.getElem?_cons_succ, Nat.add_zero] at q0 q1
      rw [← ht.cell hg (fun e => e)] at q0 q1
      rw [← Nat.add_assoc] at q1
      have HT : Hid (∀ o, Tn No w (wr.alloc o)) := hid (fun o => ht.alloc o)
      have HY : Hid (fitsR n (x, y) = true → (l.take (k + 1)).all (fitsR n) = true) := hid (fun e => all_take_succ hkl hall (by rw [hxy]; exact e))
      have HF : Hid (fitsR n (x, y) = false → l.all (fitsR n) = false) := hid (fun e => all_false hkl (by rw [hxy]; exact e))
      have hki : (k : Int) < (m : Int) := by omega
      clear hcell HAT hall hxy hkl hg ht
      go_wp2
      all_goals first
        | (go_roundw
           case rel => exact ⟨k + 1, by omega, by go_num, HY.out (by simp [fitsR]; simp at *; omega), HT.out _⟩
           case measure => simp [intOf]; omega)
        | (go_ret
           exact ⟨ret_bool (HF.out (by simp [fitsR]; simp at *; omega)).symm, HT.out _⟩)
    · obtain rfl : k = m := by omega
      have HT := hid ht
      have HY := hid hall
      clear ht hall
      go_wp2
      go_ret
      refine ⟨ret_bool ?_, HT.out⟩
      have := HY.out
      rw [List.take_of_length_le (by have := HM.out; omega)] at this
      exact this.symm

/-- may a thing of a graph of n things be? -/
def mayTh (n : Nat) (t : Th) : Bool := mayT t && t.refs.all (fitsR n)
def mayG (ts : List Th) (rs : List Rf) : Bool := rs.all (fitsR ts.length) && ts.all (mayTh ts.length)

theorem TA.form {w : World} {t : Th} (h : TA w t) : ∃ a c, t.rv = .slice a t.refs.length c := by
  obtain ⟨a, c, e, _⟩ := h.refs
  exact ⟨a, c, e⟩
theorem tmb_t {t : Th} {w0 : World} (h : TA w0 t) (w : World) : Calls Try.prog 29 #[t.val] w fun e w' => e = .returned (.bool (mayT t)) ∧ Tn No w w' := by
  obtain ⟨a, c, e⟩ := h.form
  unfold Th.val
  rw [e]
  exact tmb_raw t.kind t.tag t.bytes a t.refs.length c w h.bytes

/-- cells of a thing in a list -/
theorem thing_cells {w : World} {g o : Nat} {ts : List Th} (h : ∀ i (hi : i < ts.length) j, j < 4 → w.cell? ⟨g, o + (i * 4 + j), none⟩ = (eT ts[i])[j]?) (k : Nat) (hk : k < ts.length) :
    w.cell? ⟨g, o + k * 4, none⟩ = some (.int .i64 ts[k].kind) ∧ w.cell? ⟨g, o + k * 4 + 1, none⟩ = some (.int .i64 ts[k].tag) ∧ w.cell? ⟨g, o + k * 4 + 2, none⟩ = some (.string ts[k].bytes) ∧ w.cell? ⟨g, o + k * 4 + 3, none⟩ = some ts[k].rv := by
  have h0 := h k hk 0 (by omega)
  have h1 := h k hk 1 (by omega)
  have h2 := h k hk 2 (by omega)
  have h3 := h k hk 3 (by omega)
  simp only [eT, List.getElem?_cons_zero, List.getElem?_cons_succ, Nat.add_zero, ← Nat.add_assoc] at h0 h1 h2 h3
  exact ⟨h0, h1, h2, h3⟩

set_option maxHeartbeats 4000000 in
set_option maxRecDepth 100000 in
theorem mayBe_raw (tv rv : Value) (ts : List Th) (rs : List Rf) (w : World) (h : GA w tv rv ts rs) :
    Calls Try.prog 35 #[.agg #[tv, rv]] w fun e w' => e = .returned (.bool (mayG ts rs)) ∧ Tn No w w' := by
  obtain ⟨m, hm⟩ : ∃ m, ts.length = m := ⟨_, rfl⟩
  have htl := h.tlen
  rw [hm] at htl
  have HV : Hid (∀ u, Tn No w u → Calls Try.prog 56 #[rv, .int .i64 (m : Int)] u fun e w' => e = .returned (.bool (rs.all (fitsR m))) ∧ Tn No u w') := hid (fun u t => values_raw rv rs m u (h.roots.no t) h.rlen htl)
  have HW : Hid (∀ t ∈ ts, ∀ u, Tn No w u → Calls Try.prog 56 #[t.rv, .int .i64 (m : Int)] u fun e w' => e = .returned (.bool (t.refs.all (fitsR m))) ∧ Tn No u w') :=
    hid (fun t ht u tn => values_raw _ _ m u ((h.each t ht).no tn).refs (h.each t ht).len htl)
  have HTB : Hid (∀ t ∈ ts, ∀ u, Calls Try.prog 29 #[t.val] u fun e w' => e = .returned (.bool (mayT t)) ∧ Tn No u w') := hid (fun t ht u => tmb_t (h.each t ht) u)
  have HF : Hid (∀ t ∈ ts, ∃ a c, t.rv = .slice a t.refs.length c) := hid (fun t ht => (h.each t ht).form)
  obtain ⟨ra, rc, hrv, hrr⟩ := h.roots
  clear hrr
  obtain ⟨a, c, htv, hc, hcm, hat⟩ := h.things
  rw [hm] at htv
  rw [hrv] at HV ⊢
  rw [htv]
  have HAT := hid hat
  obtain ⟨W1, hW1⟩ : ∃ W1, w.alloc (.cells #[.slice a m c, .slice ra rs.length rc] 27) = W1 := ⟨_, rfl⟩
  have t1 : Tn No w W1 := by rw [← hW1]; exact (Tn.refl No w).alloc _
  have z1 : w.heap.size < W1.heap.size := by rw [← hW1]; simp
  have b0 : W1.cell? ⟨w.heap.size, 0, none⟩ = some (.slice a m c) := by rw [← hW1, World.cell?_alloc_new]; rfl
  have b1 : W1.cell? ⟨w.heap.size, 1, none⟩ = some (.slice ra rs.length rc) := by rw [← hW1, World.cell?_alloc_new]; rfl
  have HT1 := hid t1
  have HB : Hid (∀ u, Tn No W1 u → u.cell? ⟨w.heap.size, 0, none⟩ = some (.slice a m c) ∧ u.cell? ⟨w.heap.size, 1, none⟩ = some (.slice ra rs.length rc)) := hid (fun u t => ⟨by rw [t.cell z1 (fun e => e), b0], by rw [t.cell z1 (fun e => e), b1]⟩)
  have HE : Hid (mayG ts rs = (rs.all (fitsR m) && ts.all (mayTh m))) := hid (by rw [mayG, hm])
  have HM := hid hm
  rw [HE.out]
  have hTN : Hid (∀ u, Tn No W1 u → Tn No w u) := hid (fun u t => t1.then t)
  have HV1 := hid (HV.out W1 t1)
  obtain ⟨bo, hbo⟩ : ∃ bo, rs.all (fitsR m) = bo := ⟨_, rfl⟩
  rw [hbo] at HV1 ⊢
  clear h hat HV hm HE hbo htv hrv b0 b1 t1
  generalize rs.length = rn at *
  subst hW1
  cases bo with
  | false =>
    go_enter Try.func35, Try.ntmps35
    go_wp2_with (go_at_call 56; refine HV1.out.mono ?_; rintro e w' ⟨rfl, t2⟩; have HT2 := hid t2; clear t2)
    go_ret
    exact ⟨rfl, hTN.out _ HT2.out⟩
  | true =>
    rw [Bool.true_and]
    go_enter Try.func35, Try.ntmps35
    go_wp2_with (go_at_call 56; refine HV1.out.mono ?_; rintro e w2 ⟨rfl, t2⟩; obtain ⟨q0, q1⟩ := HB.out _ t2; have z2 := Nat.lt_of_lt_of_le z1 t2.size; have HT2 := hid t2; clear t2)
    go_loopw [15] (fun i wr => ∃ k : Nat, k ≤ m ∧ i = .int .i64 (k : Int) ∧ (ts.take k).all (mayTh m) = true ∧ Tn No (w.alloc (.cells #[.slice a m c, .slice ra rn rc] 27)) wr) (fun i _ => m - (intOf i).toNat)
    case atStart => exact ⟨0, by omega, rfl, rfl, HT2.out⟩
    case round =>
      obtain ⟨k, hk, rfl, hall, ht⟩ := hrel
      clear HV1 HT2 q0 q1 z2
      by_cases hlt : k < m
      · have hkl : k < ts.length := by have := HM.out; omega
        obtain ⟨g, o, rfl, hg, hcell⟩ := HAT.out (by omega)
        obtain ⟨q0, q1, q2, q3⟩ := thing_cells hcell k hkl
        have hmem : ts[k] ∈ ts := List.getElem_mem hkl
        obtain ⟨xa, xc, hx⟩ := HF.out _ hmem
        have hc1 := HTB.out _ hmem
        have hc2 := HW.out _ hmem
        have hwr := hTN.out _ ht
        have HY : Hid (mayTh m ts[k] = true → (ts.take (k + 1)).all (mayTh m) = true) := hid (fun e => all_take_succ hkl hall e)
        have HN : Hid (mayTh m ts[k] = false → ts.all (mayTh m) = false) := hid (fun e => all_false hkl e)
        rw [← hwr.cell hg (fun e => e)] at q0 q1 q2 q3
        unfold Th.val at hc1
        rw [hx] at q3 hc1 hc2
        have HD : Hid (mayTh m ts[k] = (mayT ts[k] && ts[k].refs.all (fitsR m))) := hid rfl
        obtain ⟨th, hth⟩ : ∃ th, ts[k] = th := ⟨_, rfl⟩
        rw [hth] at q0 q1 q2 q3 hc1 hc2 HY HN HD
        clear hcell hx hmem hall hth hkl
        obtain ⟨kind, tag, bytes, rv', refs⟩ := th
        simp only at q0 q1 q2 q3 hc1 hc2 HD
        generalize refs.length = rm at *
        have hki : (k : Int) < (m : Int) := by omega
        have HT : Hid (∀ u, Tn No wr u → Tn No (w.alloc (.cells #[.slice (some ⟨g, o, none⟩) m c, .slice ra rn rc] 27)) u) := hid (fun u t => ht.then t)
        have zr := Nat.lt_of_lt_of_le z1 ht.size
        have HQ := hid (fun u (t : Tn No wr u) => HB.out u (ht.then t))
        have hwr2 := hid (fun u (t : Tn No wr u) => hwr.then t)
        obtain ⟨p0, _⟩ := HB.out wr ht
        obtain ⟨b1, hb1⟩ : ∃ b, mayT ⟨kind, tag, bytes, rv', refs⟩ = b := ⟨_, rfl⟩
        obtain ⟨b2, hb2⟩ : ∃ b, refs.all (fitsR m) = b := ⟨_, rfl⟩
        rw [hb1] at hc1 HD
        rw [hb2] at hc2 HD
        have HC1 := hid hc1
        have HC3 : Hid (∀ u, Tn No (wr.alloc (.cells #[.int .i64 kind, .int .i64 tag, .string bytes, .slice xa rm xc] 24)) u → u.cell? ⟨w.heap.size, 0, none⟩ = some (.slice (some ⟨g, o, none⟩) m c) ∧ u.cell? ⟨wr.heap.size, 3, none⟩ = some (.slice xa rm xc) ∧ w.heap.size < u.heap.size ∧ wr.heap.size < u.heap.size ∧ Tn No wr u) := hid (fun u t => by
          have t4 := ((Tn.refl No wr).alloc _).then t
          have zz : wr.heap.size < u.heap.size := by have := t.size; simp at this; omega
          refine ⟨(HQ.out _ t4).1, ?_, by omega, zz, t4⟩
          rw [t.cell (by simp) (fun e => e), World.cell?_alloc_new]; rfl)
        have HC2 := hid hc2
        clear hc1 hc2 hb1 hb2 HAT HF HTB HW hwr ht HB
        cases b1
        · go_wp2_with (first
            | (go_at_call 29; refine (HC1.out _).mono ?_; rintro e w3 ⟨rfl, t3⟩; have HT3 := hid t3; clear t3))
          go_ret
          exact ⟨ret_bool (HN.out HD.out).symm, hTN.out _ (HT.out _ (((Tn.refl No wr).alloc _).then HT3.out))⟩
        · cases b2
          · go_wp2_with (first
              | (go_at_call 29; refine (HC1.out _).mono ?_; rintro e w3 ⟨rfl, t3⟩; obtain ⟨p0', c3, z3, z4, t4⟩ := HC3.out _ t3; have HT3 := hid t4; clear t3 t4)
              | (go_at_call 56; refine (HC2.out _ (hwr2.out _ HT3.out)).mono ?_; rintro e w4 ⟨rfl, t5⟩; have HT5 := hid t5; clear t5))
            go_ret
            exact ⟨ret_bool (HN.out HD.out).symm, hTN.out _ (HT.out _ (HT3.out.then HT5.out))⟩
          · go_wp2_with (first
              | (go_at_call 29; refine (HC1.out _).mono ?_; rintro e w3 ⟨rfl, t3⟩; obtain ⟨p0', c3, z3, z4, t4⟩ := HC3.out _ t3; have HT3 := hid t4; clear t3 t4)
              | (go_at_call 56; refine (HC2.out _ (hwr2.out _ HT3.out)).mono ?_; rintro e w4 ⟨rfl, t5⟩; have HT5 := hid t5; clear t5))
            go_roundw
            case rel => exact ⟨k + 1, by omega, by go_num, HY.out HD.out, HT.out _ (HT3.out.then HT5.out)⟩
            case measure => simp [intOf]; omega
      · obtain rfl : k = m := by omega
        have HT := hid ht
        have HY := hid hall
        clear ht hall
        go_wp2
        go_ret
        refine ⟨ret_bool ?_, hTN.out _ HT.out⟩
        have := HY.out
        rw [List.take_of_length_le (by have := HM.out; omega)] at this
        exact this.symm
end Go.Proofs.Ytlkbnjdhokjfnaa
namespace Go.Proofs.Ytlkbnjdhokjfnaa
set_option linter.unusedSimpArgs false
set_option linter.unusedVariables false
open Go.RowKit
attribute [local go_sem ↓] Go.wp_at_zero Go.wp_at_succ

theorem new_cells {F : Nat → Prop} {w w' : World} {C : Array Value} {T : TypeId} (t : Tn F (w.alloc (.cells C T)) w') (hF : ¬ F w.heap.size) (j : Nat) : w'.cell? ⟨w.heap.size, j, none⟩ = C[j]? := by
  rw [t.cell (by simp) hF, World.cell?_alloc_new]

set_option maxRecDepth 100000 in
theorem check_raw (tv rv : Value) (ts : List Th) (rs : List Rf) (w : World) (h : GA w tv rv ts rs) :
    Calls Try.prog 13 #[.agg #[tv, rv]] w fun e w' => e = .returned (.int .i64 (cond (mayG ts rs) 0 141)) ∧ Tn No w w' := by
  have HM : Hid (∀ o, Calls Try.prog 35 #[.agg #[tv, rv]] (w.alloc o) fun e w' => e = .returned (.bool (mayG ts rs)) ∧ Tn No (w.alloc o) w') := hid (fun o => mayBe_raw tv rv ts rs _ (h.no ((Tn.refl No w).alloc o)))
  obtain ⟨ra, rc, rfl, _⟩ := h.roots
  obtain ⟨a, c, rfl, _⟩ := h.things
  have hTN : Hid (∀ o u, Tn No (w.alloc o) u → Tn No w u) := hid (fun o u t => ((Tn.refl No w).alloc o).then t)
  clear h
  generalize mayG ts rs = b at *
  cases b
  all_goals
    go_enter Try.func13, Try.ntmps13
    go_wp2_with (go_at_call 35; refine (HM.out _).mono ?_; rintro e w2 ⟨rfl, t2⟩; have HT2 := hid t2; clear t2)
    go_ret
    exact ⟨rfl, hTN.out _ _ HT2.out⟩

set_option maxRecDepth 100000 in
theorem Size_raw (k tag : Int) (s : ByteArray) (a : Option Addr) (n c : Nat) (w : World) (hs : s.size ≤ 1073741824) (hn : n ≤ 1073741824) :
    Calls Try.prog 9 #[.agg #[.int .i64 k, .int .i64 tag, .string s, .slice a n c]] w fun e w' => e = .returned (.int .i64 (cond (mayR k tag s n) (sizeR k s n : Int) 0)) ∧ Tn No w w' := by
  have HM := hid (fun u => tmb_raw k tag s a n c u hs)
  have HS := hid (fun u => size_raw k tag s a n c u hs hn)
  have hTN : Hid (∀ o u, Tn No (w.alloc o) u → Tn No w u) := hid (fun o u t => ((Tn.refl No w).alloc o).then t)
  have HC3 : Hid (∀ u, Tn No (w.alloc (.cells #[.int .i64 k, .int .i64 tag, .string s, .slice a n c] 24)) u → u.cell? ⟨w.heap.size, 0, none⟩ = some (.int .i64 k) ∧ u.cell? ⟨w.heap.size, 1, none⟩ = some (.int .i64 tag) ∧ u.cell? ⟨w.heap.size, 2, none⟩ = some (.string s) ∧ u.cell? ⟨w.heap.size, 3, none⟩ = some (.slice a n c) ∧ w.heap.size < u.heap.size) := hid (fun u t => by
    refine ⟨?_, ?_, ?_, ?_, by have := t.size; simp at this; omega⟩ <;> (rw [t.cell (by simp) (fun e => e), World.cell?_alloc_new]; rfl))
  generalize mayR k tag s n = b at *
  cases b
  · go_enter Try.func9, Try.ntmps9
    go_wp2_with (go_at_call 29; refine (HM.out _).mono ?_; rintro e w2 ⟨rfl, t2⟩; have HT2 := hid t2; clear t2)
    go_ret
    exact ⟨rfl, hTN.out _ _ HT2.out⟩
  · go_enter Try.func9, Try.ntmps9
    go_wp2_with (first
      | (go_at_call 29; refine (HM.out _).mono ?_; rintro e w2 ⟨rfl, t2⟩; obtain ⟨p0, p1, p2, p3, z2⟩ := HC3.out _ t2; have HT2 := hid t2; clear t2)
      | (go_at_call 30; refine (HS.out _).mono ?_; rintro e w3 ⟨rfl, t3⟩; have HT3 := hid t3; clear t3))
    go_ret
    exact ⟨rfl, hTN.out _ _ (HT2.out.then HT3.out)⟩

set_option maxRecDepth 100000 in
theorem Header_raw (k tag : Int) (s : ByteArray) (a : Option Addr) (n c : Nat) (w : World) (hs : s.size ≤ 1073741824) (hn : n ≤ 1073741824) :
    Calls Try.prog 11 #[.agg #[.int .i64 k, .int .i64 tag, .string s, .slice a n c]] w fun e w' => e = .returned (.int .u64 (cond (mayR k tag s n) (headR k tag s n : Int) 0)) ∧ Tn No w w' := by
  have HM := hid (fun u => tmb_raw k tag s a n c u hs)
  have HS : Hid (mayR k tag s n = true → ∀ u, Calls Try.prog 34 #[.agg #[.int .i64 k, .int .i64 tag, .string s, .slice a n c]] u fun e w' => e = .returned (.int .u64 (headR k tag s n : Int)) ∧ Tn No u w') := hid (fun h u => header_raw k tag s a n c u hs hn h)
  have hTN : Hid (∀ o u, Tn No (w.alloc o) u → Tn No w u) := hid (fun o u t => ((Tn.refl No w).alloc o).then t)
  have HC3 : Hid (∀ u, Tn No (w.alloc (.cells #[.int .i64 k, .int .i64 tag, .string s, .slice a n c] 24)) u → u.cell? ⟨w.heap.size, 0, none⟩ = some (.int .i64 k) ∧ u.cell? ⟨w.heap.size, 1, none⟩ = some (.int .i64 tag) ∧ u.cell? ⟨w.heap.size, 2, none⟩ = some (.string s) ∧ u.cell? ⟨w.heap.size, 3, none⟩ = some (.slice a n c) ∧ w.heap.size < u.heap.size) := hid (fun u t => by
    refine ⟨?_, ?_, ?_, ?_, by have := t.size; simp at this; omega⟩ <;> (rw [t.cell (by simp) (fun e => e), World.cell?_alloc_new]; rfl))
  generalize mayR k tag s n = b at *
  cases b
  · go_enter Try.func11, Try.ntmps11
    go_wp2_with (go_at_call 29; refine (HM.out _).mono ?_; rintro e w2 ⟨rfl, t2⟩; have HT2 := hid t2; clear t2)
    go_ret
    exact ⟨rfl, hTN.out _ _ HT2.out⟩
  · have HS2 := hid (HS.out rfl)
    clear HS
    go_enter Try.func11, Try.ntmps11
    go_wp2_with (first
      | (go_at_call 29; refine (HM.out _).mono ?_; rintro e w2 ⟨rfl, t2⟩; obtain ⟨p0, p1, p2, p3, z2⟩ := HC3.out _ t2; have HT2 := hid t2; clear t2)
      | (go_at_call 34; refine (HS2.out _).mono ?_; rintro e w3 ⟨rfl, t3⟩; have HT3 := hid t3; clear t3))
    go_ret
    exact ⟨rfl, hTN.out _ _ (HT2.out.then HT3.out)⟩

def Th.size (t : Th) : Nat := sizeR t.kind t.bytes t.refs.length
def totR (ts : List Th) : Nat := (ts.map Th.size).sum
/-- where things lie -/
def placesR (at_ : Int) (ts : List Th) : List Int := (List.range ts.length).map (fun i => IntKind.u64.wrap (at_ + (totR (ts.take i) : Int)))

theorem totR_succ {ts : List Th} {k : Nat} (hk : k < ts.length) : totR (ts.take (k + 1)) = totR (ts.take k) + ts[k].size := by
  rw [List.take_add_one, List.getElem?_eq_getElem hk]
  simp only [totR, List.map_append, List.sum_append, Option.toList, List.map_cons, List.map_nil, List.sum_cons, List.sum_nil, Nat.add_zero]
theorem totR_le {ts : List Th} (k : Nat) : totR (ts.take k) ≤ totR ts := by
  conv => rhs; rw [← List.take_append_drop k ts]
  simp only [totR, List.map_append, List.sum_append]
  omega
theorem placesR_length (at_ : Int) (ts : List Th) : (placesR at_ ts).length = ts.length := by simp [placesR]
theorem placesR_succ {at_ : Int} {ts : List Th} {k : Nat} (hk : k < ts.length) : (placesR at_ ts).take (k + 1) = (placesR at_ ts).take k ++ [IntKind.u64.wrap (at_ + (totR (ts.take k) : Int))] := by
  rw [List.take_add_one, List.getElem?_eq_getElem (by rw [placesR_length]; exact hk)]
  simp [placesR]

/-- what is left behind a list that is made -/
structure Mk {α : Type} (size : Nat) (en : α → List Value) (w : World) (v : Value) (l : List α) (w' : World) : Prop where
  lr : LR size en w' v l
  tn : Tn No w w'
  own : ∀ g, v.ownBlock = some g → w.heap.size ≤ g
theorem Mk.step {α : Type} {size : Nat} {en : α → List Value} {w w1 w2 : World} {v v' : Value} {l l' : List α} (h : Mk size en w v l w1) (h2 : LR size en w2 v' l') (o : Ou w1 v w2 v') : Mk size en w v' l' w2 := by
  obtain ⟨a, b⟩ := Ou.fresh h.tn h.own o
  exact ⟨h2, a, b⟩
theorem Mk.no {α : Type} {size : Nat} {en : α → List Value} {w w1 w2 : World} {v : Value} {l : List α} (h : Mk size en w v l w1) (t : Tn No w1 w2) : Mk size en w v l w2 := ⟨h.lr.no t, h.tn.then t, h.own⟩

theorem lu_push {w : World} {v : Value} {l : List Int} (h : LR 1 eU w v l) (x : Int) (b : Nat) (hb : w.cell? ⟨b, 0, none⟩ = some (.int .u64 x)) (hl : l.length + 1 ≤ 4294967296) :
    ∃ v' w', (Builtin.append_ #[41, 41] 41 #[v, .slice (some ⟨b, 0, none⟩) 1 1]).run Try.prog w = .ok v' w' ∧ LR 1 eU w' v' (l ++ [x]) ∧ Ou w v w' v' := by
  obtain ⟨v', w', h1, h2, h3, h4⟩ := lr_push (size := 1) Try.underlying41 u64_info rfl (by omega) h x rfl (by intro u hu; simp [eU] at hu; subst hu; rfl) b (fun j u hu => by
    cases j with
    | zero => simp [eU] at hu; subst hu; exact hb
    | succ j => simp [eU] at hu) (by unfold maxLen; omega) (by omega) 41
  exact ⟨v', w', h1, h2, Ou.of h3 h4⟩

/-- things that can be read -/
structure TL (w : World) (tv : Value) (ts : List Th) : Prop where
  things : LD 4 eT w tv ts
  each : ∀ t ∈ ts, TA w t
  tlen : ts.length ≤ 1073741824
theorem TL.no {w w' : World} {tv : Value} {ts : List Th} (h : TL w tv ts) (t : Tn No w w') : TL w' tv ts := ⟨h.things.no t, fun x hx => (h.each x hx).no t, h.tlen⟩
theorem GA.tl {w : World} {tv rv : Value} {ts : List Th} {rs : List Rf} (h : GA w tv rv ts rs) : TL w tv ts := ⟨h.things, h.each, h.tlen⟩
theorem size_t {t : Th} {w0 : World} (h : TA w0 t) (w : World) : Calls Try.prog 30 #[t.val] w fun e w' => e = .returned (.int .i64 (t.size : Int)) ∧ Tn No w w' := by
  obtain ⟨a, c, e⟩ := h.form
  unfold Th.val
  rw [e]
  exact size_raw t.kind t.tag t.bytes a t.refs.length c w h.bytes h.len

set_option maxHeartbeats 4000000 in
set_option maxRecDepth 100000 in
theorem places_raw (at_ : Int) (tv : Value) (ts : List Th) (w : World) (h : TL w tv ts) (hat : 0 ≤ at_) (hat2 : at_ ≤ 18446744073709551615) (htot : totR ts ≤ 1099511627776) :
    Calls Try.prog 45 #[.int .u64 at_, tv] w fun e w' => ∃ v, e = .returned (.tuple #[v, .int .u64 (totR ts : Int)]) ∧ Mk 1 eU w v (placesR at_ ts) w' := by
  obtain ⟨m, hm⟩ : ∃ m, ts.length = m := ⟨_, rfl⟩
  have htl := h.tlen
  rw [hm] at htl
  have HS : Hid (∀ t ∈ ts, ∀ u, Calls Try.prog 30 #[t.val] u fun e w' => e = .returned (.int .i64 (t.size : Int)) ∧ Tn No u w') := hid (fun t ht u => size_t (h.each t ht) u)
  have HF : Hid (∀ t ∈ ts, ∃ a c, t.rv = .slice a t.refs.length c) := hid (fun t ht => (h.each t ht).form)
  obtain ⟨a, c, htv, hc, hcm, hats⟩ := h.things
  rw [hm] at htv
  rw [htv]
  have HAT := hid hats
  have HM := hid hm
  have HRM := hid (fun u => room_u m (by omega) u)
  have HTOT := hid htot
  clear h hats hm htv htot
  go_enter Try.func45, Try.ntmps45
  go_wp2_with (go_at_call 63; refine (HRM.out _).mono ?_; rintro e w1 ⟨v1, rfl, l1, t1, o1⟩; have HMK : Hid (Mk 1 eU w v1 [] w1) := hid ⟨l1, t1, o1⟩; clear l1 t1 o1)
  go_loopw [6, 7, 15] (fun v al i wr => ∃ k : Nat, k ≤ m ∧ i = .int .i64 (k : Int) ∧ al = .int .u64 (totR (ts.take k) : Int) ∧ Mk 1 eU w v ((placesR at_ ts).take k) wr) (fun _ _ i _ => m - (intOf i).toNat)
  case atStart => exact ⟨0, by omega, rfl, rfl, HMK.out⟩
  case round =>
    obtain ⟨k, hk, rfl, rfl, hmk⟩ := hrel
    clear HMK
    by_cases hlt : k < m
    · have hkl : k < ts.length := by have := HM.out; omega
      obtain ⟨g, o, rfl, hg, hcell⟩ := HAT.out (by omega)
      obtain ⟨q0, q1, q2, q3⟩ := thing_cells hcell k hkl
      have hmem : ts[k] ∈ ts := List.getElem_mem hkl
      obtain ⟨xa, xc, hx⟩ := HF.out _ hmem
      have hc1 := HS.out _ hmem
      rw [← hmk.tn.cell hg (fun e => e)] at q0 q1 q2 q3
      unfold Th.val at hc1
      have hsuc := totR_succ hkl
      have hle := totR_le (ts := ts) (k + 1)
      have hto := HTOT.out
      have hps := placesR_succ (at_ := at_) hkl
      rw [hx] at q3 hc1
      obtain ⟨th, hth⟩ : ∃ th, ts[k] = th := ⟨_, rfl⟩
      rw [hth] at q0 q1 q2 q3 hc1 hsuc
      obtain ⟨sz, hsz⟩ : ∃ sz, th.size = sz := ⟨_, rfl⟩
      rw [hsz] at hc1 hsuc
      obtain ⟨tt, htt⟩ : ∃ tt, totR (ts.take k) = tt := ⟨_, rfl⟩
      rw [htt] at hsuc hps
      rw [htt]
      obtain ⟨kind, tag, bytes, rv', refs⟩ := th
      simp only at q0 q1 q2 q3 hc1
      have z0 : ∀ g, u6.ownBlock = some g → g < wr.heap.size := hmk.lr.rw.lt
      have t1 : Tn No wr ((wr.alloc (.cells #[.int .i64 kind, .int .i64 tag, .string bytes, .slice xa refs.length xc] 24)).alloc (.cells #[.int .u64 (IntKind.u64.wrap (at_ + (tt : Int)))] 29)) := (by repeat (first | exact Tn.refl _ _ | apply Tn.drew | apply Tn.drewN | apply Tn.alloc | (refine Tn.then ?_ (by assumption)) | (refine Tn.thenNo ?_ (by assumption))))
      have hpl : ((placesR at_ ts).take k).length + 1 ≤ 4294967296 := by simp [placesR_length]; omega
      obtain ⟨v', w', hr, hlr, hou⟩ := lu_push (hmk.lr.no t1) (IntKind.u64.wrap (at_ + (tt : Int))) (wr.heap.size + 1) (by rw [World.cell?_alloc_at _ _ _ _ (by simp)]; rfl) hpl
      rw [← hps] at hlr
      have hmk' := (hmk.no t1).step hlr hou
      have hcl : ∀ j, w'.cell? ⟨wr.heap.size, j, none⟩ = (#[Value.int .i64 kind, .int .i64 tag, .string bytes, .slice xa refs.length xc])[j]? := new_cells (((Tn.refl _ _).alloc _).then hou.tn) (fun e => by have := z0 _ e; omega)
      have p0 := hcl 0
      have p1 := hcl 1
      have p2 := hcl 2
      have p3 := hcl 3
      have zz : wr.heap.size < w'.heap.size := by have := hou.tn.size; simp at this; omega
      simp only [List.getElem?_toArray, List.getElem?_cons_zero, List.getElem?_cons_succ] at p0 p1 p2 p3
      have HR := hid hr
      have HMK := hid hmk'
      have HC := hid hc1
      have HSU := hid hsuc
      have i1 : (tt : Int) + (sz : Int) ≤ 1099511627776 := by omega
      have hki : (k : Int) < (m : Int) := by omega
      clear hcl hr hmk' hlr hou hpl t1 z0 hc1 hmk hps hsuc hle hto hcell hx hmem hkl hth hsz htt HAT HF HS HTOT HRM HM
      generalize refs.length = rm at *
      go_wp2_with (first
        | (at_builtin; refine wpList_app _ rfl _ _ _ _ rfl _ _ rfl rfl v' w' HR.out ?_)
        | (go_at_call 30; refine (HC.out _).mono ?_; rintro e w3 ⟨rfl, t3⟩; have HMK3 := hid (HMK.out.no t3); clear t3))
      go_roundw
      case rel => exact ⟨k + 1, by omega, by go_num, by rw [HSU.out]; go_num, HMK3.out⟩
      case measure => simp [intOf]; omega
    · obtain rfl : k = m := by omega
      have HMK := hid hmk
      clear hmk
      go_wp2
      go_ret2
      have e1 : ts.take k = ts := List.take_of_length_le (by have := HM.out; omega)
      have e2 : (placesR at_ ts).take k = placesR at_ ts := List.take_of_length_le (by rw [placesR_length]; have := HM.out; omega)
      have := HMK.out
      rw [e2] at this
      rw [e1]
      exact ⟨_, rfl, this⟩
end Go.Proofs.Ytlkbnjdhokjfnaa
