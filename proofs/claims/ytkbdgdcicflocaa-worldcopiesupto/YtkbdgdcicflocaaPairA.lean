/-
  The reference's Files.
-/
import Derived.Test.YtkbdgdcicflocaaRef25
import Derived.Test.YtkbdgdcicflocaaToldA
namespace Go.Proofs.Ytkbdgdcicflocaa
set_option linter.unusedSimpArgs false
set_option linter.unusedVariables false
open Go.RowKit
attribute [local go_sem ↓] Go.wp_at_zero Go.wp_at_succ

/-- a list of files that was told -/
structure FV (w : World) (v : Value) (l : List (ByteArray × List UInt8)) : Prop where
  rw : RW w 2 v l.length
  at' : ∀ i f, l[i]? = some f → vc w v (2 * i) = some (.string f.1) ∧ vc w v (2 * i + 1) = some (.string (str f.2))
theorem FV.kept {w w' : World} {v : Value} {l : List (ByteArray × List UInt8)} (h : FV w v l) (hk : ∀ g, v.ownBlock = some g → w'.heap[g]? = w.heap[g]?) : FV w' v l :=
  ⟨h.rw.kept hk, fun i e he => by
    obtain ⟨a, b⟩ := h.at' i e he
    exact ⟨(vc_kept hk _).trans a, (vc_kept hk _).trans b⟩⟩
theorem FV.no {w w' : World} {v : Value} {l : List (ByteArray × List UInt8)} (h : FV w v l) (t : Tn No w w') : FV w' v l := h.kept (fun g hg => t.block g (h.rw.lt g hg) (fun e => e))

theorem afi_info : (Try.prog.info? 32).map (fun i => (i.zero, i.size, i.bytes)) = some (some (.agg #[.string ⟨#[]⟩, .string ⟨#[]⟩]), 2, 32) := by kernel_rfl

/-- a file goes on the list that is told -/
theorem fv_append {w : World} {v : Value} {l : List (ByteArray × List UInt8)} (h : FV w v l) (f : ByteArray × List UInt8) (b : Nat) (hb : ∀ j u, ([.string f.1, .string (str f.2)] : List Value)[j]? = some u → w.cell? ⟨b, j, none⟩ = some u) (hN : l.length + 1 ≤ 2199023255552) :
    ∃ v' w', (Builtin.append_ #[22, 22] 22 #[v, .slice (some ⟨b, 0, none⟩) 1 1]).run Try.prog w = .ok v' w' ∧ FV w' v' (l ++ [f]) ∧ w.grownBy w' v.ownBlock ∧ (v'.ownBlock = v.ownBlock ∨ v'.ownBlock = some w.heap.size) := by
  obtain ⟨i, hi, hz0, hz1, hz2⟩ := info_parts afi_info
  have hsrc : Src Try.prog 2 22 (.slice (some ⟨b, 0, none⟩) 1 1) 1 [.string f.1, .string (str f.2)] w :=
    Src.ofSlice _ Try.underlying22 _ 1 1 _ rfl (fun j u hu => by rw [addr_add]; exact hb j u hu) (fun u hu => by simp at hu; rcases hu with rfl | rfl <;> rfl)
  obtain ⟨v', w', hr, hrw, hold, hnew, hgr, hown⟩ := rw_append 22 32 i _ 2 32 Try.underlying22 hi hz0 hz1 hz2 rfl h.rw hsrc (by unfold maxLen; omega) (by omega) (by omega)
  refine ⟨v', w', hr, ⟨by rw [List.length_append]; exact hrw, fun j e' he' => ?_⟩, hgr, hown⟩
  by_cases hj : j < l.length
  · rw [List.getElem?_append_left hj] at he'
    obtain ⟨x, y⟩ := h.at' j e' he'
    exact ⟨by rw [hold _ (by omega)]; exact x, by rw [hold _ (by omega)]; exact y⟩
  · have hj2 : j = l.length := by
      have := (List.getElem?_eq_some_iff.1 he').1
      simp at this
      omega
    subst hj2
    have : e' = f := by simpa using he'.symm
    subst this
    refine ⟨?_, ?_⟩
    · rw [show 2 * l.length = l.length * 2 + 0 by omega, hnew 0 (by simp)]; rfl
    · rw [show 2 * l.length + 1 = l.length * 2 + 1 by omega, hnew 1 (by simp)]; rfl

theorem wp_app {ops : Array Oper} {o : Oper} {a : Act} {W : World} {K : Act → World → Prop} {Q : Exit → Act → World → Prop} {E : Prop} (hg : o.guard = none) (s x : Operand) (t tx : TypeId) (ho : o.op = .call { callee := .builtin .append, args := #[s, x], argTypes := #[t, tx] })
    (v xv : Value) (hs : a.eval s = v) (hx : a.eval x = xv) (v' : Value) (w' : World) (hrun : (Builtin.append_ #[t, tx] o.type #[v, xv]).run Try.prog W = .ok v' w') (hK : K (a.put o.dst v') w') :
    if Region.wanted o (yielded ops a.tmps) = true then Oper.wp Try.prog o a W K Q else E := by
  have hw : Region.wanted o (yielded ops a.tmps) = true := by simp [Region.wanted, hg]
  rw [if_pos hw]
  unfold Oper.wp
  simp [execOp, ho, resolve, invoke, builtin, hs, hx, hrun, Result.andThen]
  exact hK

def FilesPost (w : World) (l : List (ByteArray × List UInt8)) (e : Ending) (w' : World) : Prop :=
  ∃ v, e = .returned v ∧ FV w' v l ∧ (∀ g, v.ownBlock = some g → w.heap.size ≤ g) ∧ Tn No w w'

set_option maxHeartbeats 2000000 in
set_option maxRecDepth 100000 in
theorem rfiles_raw (w : World) (q : Nat) (L : Nat → Option Lab) (N : Nat) (S : St) (fl : List (ByteArray × List UInt8)) (d : Dk) (lv tv : Value) (bv : Nat → Value) (hx : RX w q L N S fl d lv tv bv) (hN : N ≤ 1099511627776) :
    Calls Try.prog 48 #[.pointer (some ⟨q, 0, none⟩)] w (FilesPost w fl) := by
  have k0 := hx.c0
  have plt := hx.qlt
  obtain ⟨a, cap, htv, hlc, hcm, hnil, hsome⟩ := hx.row.form
  have hlen := hx.len
  rw [htv] at k0
  have HX := hid hx
  have HTV := hid htv
  obtain ⟨n, hn⟩ : ∃ n, fl.length = n := ⟨_, rfl⟩
  rw [hn] at k0 hlc hnil hlen
  have HN := hid hn
  have hn63 : n ≤ 1099511627776 := by omega
  have HSOME := hid hsome
  have HNIL := hid hnil
  clear hx htv hn hN hlen hcm hsome hnil
  go_enter Try.func48, Try.ntmps48
  go_wp2
  go_loopw [3, 4] (fun v i wr => ∃ k : Nat, k ≤ n ∧ i = .int .i64 k ∧ FV wr v (fl.take k) ∧ (∀ g, v.ownBlock = some g → w.heap.size ≤ g) ∧ Tn No w wr) (fun _ i _ => n - (intOf i).toNat)
  case atStart => exact ⟨0, by omega, rfl, ⟨by simpa using RW.nil w 2, fun i e he => by simp at he⟩, fun g hg => (by cases hg), (by repeat (first | exact Tn.refl _ _ | apply Tn.drew | apply Tn.drewN | apply Tn.alloc | (refine Tn.then ?_ (by assumption)) | (refine Tn.thenNo ?_ (by assumption))))⟩
  case round =>
    obtain ⟨k, hk, rfl, htv, hob, ht⟩ := hrel
    have p0 := (ht.cell plt (fun e => e)).trans k0
    have plr : q < wr.heap.size := Nat.lt_of_lt_of_le plt ht.size
    by_cases hlt : k < n
    · cases a with
      | none => have := (HNIL.out rfl).1; omega
      | some x =>
      obtain ⟨hxe, hxl⟩ := HSOME.out x rfl
      obtain ⟨g, o, sp⟩ := x
      cases hxe
      have hkl : k < fl.length := by have := HN.out; omega
      obtain ⟨e1, e2, ebr, _⟩ := HX.out.lc k hkl
      have he : fl[k]? = some fl[k] := List.getElem?_eq_getElem hkl
      obtain ⟨f, hf⟩ : ∃ f, fl[k] = f := ⟨_, rfl⟩
      rw [hf] at e1 ebr he
      rw [HTV.out, Nat.mul_comm 2 k] at e1 e2
      obtain ⟨av, cv, hvs, _⟩ := ebr.rw.form
      rw [hvs] at e2 ebr
      obtain ⟨nv, hnv⟩ : ∃ nv, f.2.length = nv := ⟨_, rfl⟩
      rw [hnv] at e2 ebr
      clear hvs hnv hf
      have q1 : wr.cell? ⟨g, k * 2, none⟩ = some (.string f.1) := (ht.cell hxl (fun e => e)).trans e1
      have q2 : wr.cell? ⟨g, k * 2 + 1, none⟩ = some ((.slice av nv cv)) := (ht.cell hxl (fun e => e)).trans e2
      have hcv : (convert 64 9 ((.slice av nv cv))).run Try.prog wr.drew = .ok (.string (str f.2)) wr.drew := br_string (w := wr.drew) (ebr.no ht.drew)
      have htk : fl.take (k + 1) = fl.take k ++ [f] := by rw [List.take_add_one, he]; rfl
      have hlk : (fl.take k).length = k := by have := HN.out; simp; omega
      have t1 : Tn No wr (wr.drew.alloc (.cells #[.string f.1, .string (str f.2)] 32)) := Tn.alloc (Tn.refl _ _).drew _
      obtain ⟨v', w', hr, htv', hgr', hown'⟩ := fv_append (htv.no t1) f wr.heap.size (fun j u hu => by rw [World.cell?_alloc_at _ _ _ _ (by simp)]; simpa using hu) (by omega)
      have hob' : ∀ g, v'.ownBlock = some g → w.heap.size ≤ g := fun g hg => by
        rcases hown' with e | e
        · exact hob g (by rw [← e]; exact hg)
        · rw [e] at hg; cases hg; have := ht.size; have := t1.size; omega
      have ht' : Tn No w w' := (ht.then t1).grown hgr' (fun i hi hlt => by have := hob i hi; omega)
      rw [← htk] at htv'
      have HR := hid hr
      have HREL := hid (And.intro htv' (And.intro hob' ht'))
      have hgl : g < wr.heap.size := Nat.lt_of_lt_of_le hxl ht.size
      have hki : (k : Int) < (n : Int) := by omega
      clear HSOME HNIL e1 e2 ebr htv he htk hlk hob hr htv' hgr' hown' hob' ht' t1
      go_wp2_with fail
      go_region_law (refine wp_app rfl _ _ _ _ rfl _ _ rfl rfl v' w' HR.out ?_)
      all_goals go_wp2_with fail
      all_goals exact ⟨⟨k + 1, by omega, by go_num, HREL.out⟩, by simp [intOf]; omega⟩
    · obtain rfl : k = n := by omega
      go_wp2
      go_ret
      have e : fl.take k = fl := List.take_of_length_le (by have := HN.out; omega)
      rw [e] at htv
      exact ⟨_, rfl, htv, hob, ht⟩
end Go.Proofs.Ytkbdgdcicflocaa
namespace Go.Proofs.Ytkbdgdcicflocaa
set_option linter.unusedSimpArgs false
set_option linter.unusedVariables false
open Go.RowKit
attribute [local go_sem ↓] Go.wp_at_zero Go.wp_at_succ

set_option maxHeartbeats 2000000 in
set_option maxRecDepth 100000 in
theorem same_raw (w : World) (va vb : Value) (tr : List Ev) (ha : TV w va tr) (hb : TV w vb tr) (hN : tr.length ≤ 1099511627776) :
    Calls Try.prog 46 #[va, vb] w fun e w' => e = .returned (.bool true) ∧ Tn No w w' := by
  obtain ⟨a, ca, rfl, ha1, ha2, hanil, hasome⟩ := ha.rw.form
  obtain ⟨b, cb, rfl, hb1, hb2, hbnil, hbsome⟩ := hb.rw.form
  obtain ⟨n, hn⟩ : ∃ n, tr.length = n := ⟨_, rfl⟩
  rw [hn] at ha1 hb1 hanil hbnil hN ⊢
  have HA := hid ha
  have HB := hid hb
  have HN := hid hn
  rw [hn] at HA HB
  have HAN := hid hanil
  have HBN := hid hbnil
  have HAS := hid hasome
  have HBS := hid hbsome
  clear ha hb hn hanil hbnil hasome hbsome ha2 hb2
  go_enter Try.func46, Try.ntmps46
  go_wp2
  go_loopw [5] (fun i wr => ∃ k : Nat, k ≤ n ∧ i = .int .i64 (k : Int) ∧ Tn No w wr) (fun i _ => n - (intOf i).toNat)
  case atStart => exact ⟨0, by omega, rfl, Tn.refl No w⟩
  case round =>
    obtain ⟨k, hk, rfl, ht⟩ := hrel
    by_cases hlt : k < n
    · cases a with
      | none => have := (HAN.out rfl).1; omega
      | some x =>
      cases b with
      | none => have := (HBN.out rfl).1; omega
      | some y =>
      obtain ⟨hxe, hxl⟩ := HAS.out x rfl
      obtain ⟨hye, hyl⟩ := HBS.out y rfl
      obtain ⟨g, o, sp⟩ := x
      obtain ⟨g', o', sp'⟩ := y
      cases hxe
      cases hye
      obtain ⟨e, he⟩ : ∃ e, tr[k]? = some e := ⟨_, List.getElem?_eq_getElem (by have := HN.out; omega)⟩
      obtain ⟨x0, x1, x2⟩ := HA.out.ev k e he
      obtain ⟨y0, y1, y2⟩ := HB.out.ev k e he
      rw [Nat.mul_comm 3 k] at x0 x1 x2 y0 y1 y2
      have x0 : wr.cell? ⟨g, k * 3, none⟩ = _ := (ht.cell hxl (fun e => e)).trans x0
      have x1 : wr.cell? ⟨g, k * 3 + 1, none⟩ = _ := (ht.cell hxl (fun e => e)).trans x1
      have x2 : wr.cell? ⟨g, k * 3 + 2, none⟩ = _ := (ht.cell hxl (fun e => e)).trans x2
      have y0 : wr.cell? ⟨g', k * 3, none⟩ = _ := (ht.cell hyl (fun e => e)).trans y0
      have y1 : wr.cell? ⟨g', k * 3 + 1, none⟩ = _ := (ht.cell hyl (fun e => e)).trans y1
      have y2 : wr.cell? ⟨g', k * 3 + 2, none⟩ = _ := (ht.cell hyl (fun e => e)).trans y2
      have hki : (k : Int) < (n : Int) := by omega
      have hgl : g < wr.heap.size := Nat.lt_of_lt_of_le hxl ht.size
      have hgl' : g' < wr.heap.size := Nat.lt_of_lt_of_le hyl ht.size
      clear he HA HB HAN HBN HAS HBS
      go_wp2_with fail
      go_quiet (fail)
      go_wp2_with fail
      exact ⟨⟨k + 1, by omega, by go_num, ht.drewN _⟩, by simp [intOf]; omega⟩
    · obtain rfl : k = n := by omega
      go_wp2
      go_ret
      exact ⟨rfl, ht⟩
set_option maxHeartbeats 2000000 in
set_option maxRecDepth 100000 in
theorem lfiles_raw (w : World) (va vb : Value) (tr : List (ByteArray × List UInt8)) (ha : FV w va tr) (hb : FV w vb tr) (hN : tr.length ≤ 1099511627776) :
    Calls Try.prog 47 #[va, vb] w fun e w' => e = .returned (.bool true) ∧ Tn No w w' := by
  obtain ⟨a, ca, rfl, ha1, ha2, hanil, hasome⟩ := ha.rw.form
  obtain ⟨b, cb, rfl, hb1, hb2, hbnil, hbsome⟩ := hb.rw.form
  obtain ⟨n, hn⟩ : ∃ n, tr.length = n := ⟨_, rfl⟩
  rw [hn] at ha1 hb1 hanil hbnil hN ⊢
  have HA := hid ha
  have HB := hid hb
  have HN := hid hn
  rw [hn] at HA HB
  have HAN := hid hanil
  have HBN := hid hbnil
  have HAS := hid hasome
  have HBS := hid hbsome
  clear ha hb hn hanil hbnil hasome hbsome ha2 hb2
  go_enter Try.func47, Try.ntmps47
  go_wp2
  go_loopw [5] (fun i wr => ∃ k : Nat, k ≤ n ∧ i = .int .i64 (k : Int) ∧ Tn No w wr) (fun i _ => n - (intOf i).toNat)
  case atStart => exact ⟨0, by omega, rfl, Tn.refl No w⟩
  case round =>
    obtain ⟨k, hk, rfl, ht⟩ := hrel
    by_cases hlt : k < n
    · cases a with
      | none => have := (HAN.out rfl).1; omega
      | some x =>
      cases b with
      | none => have := (HBN.out rfl).1; omega
      | some y =>
      obtain ⟨hxe, hxl⟩ := HAS.out x rfl
      obtain ⟨hye, hyl⟩ := HBS.out y rfl
      obtain ⟨g, o, sp⟩ := x
      obtain ⟨g', o', sp'⟩ := y
      cases hxe
      cases hye
      obtain ⟨e, he⟩ : ∃ e, tr[k]? = some e := ⟨_, List.getElem?_eq_getElem (by have := HN.out; omega)⟩
      obtain ⟨x0, x1⟩ := HA.out.at' k e he
      obtain ⟨y0, y1⟩ := HB.out.at' k e he
      rw [Nat.mul_comm 2 k] at x0 x1 y0 y1
      have x0 : wr.cell? ⟨g, k * 2, none⟩ = _ := (ht.cell hxl (fun e => e)).trans x0
      have x1 : wr.cell? ⟨g, k * 2 + 1, none⟩ = _ := (ht.cell hxl (fun e => e)).trans x1
      have y0 : wr.cell? ⟨g', k * 2, none⟩ = _ := (ht.cell hyl (fun e => e)).trans y0
      have y1 : wr.cell? ⟨g', k * 2 + 1, none⟩ = _ := (ht.cell hyl (fun e => e)).trans y1
      have hki : (k : Int) < (n : Int) := by omega
      have hgl : g < wr.heap.size := Nat.lt_of_lt_of_le hxl ht.size
      have hgl' : g' < wr.heap.size := Nat.lt_of_lt_of_le hyl ht.size
      clear he HA HB HAN HBN HAS HBS
      go_wp2_with fail
      go_quiet (fail)
      go_wp2_with fail
      exact ⟨⟨k + 1, by omega, by go_num, ht.drewN _⟩, by simp [intOf]; omega⟩
    · obtain rfl : k = n := by omega
      go_wp2
      go_ret
      exact ⟨rfl, ht⟩
end Go.Proofs.Ytkbdgdcicflocaa
namespace Go.Proofs.Ytkbdgdcicflocaa
set_option linter.unusedSimpArgs false
set_option linter.unusedVariables false
open Go.RowKit
attribute [local go_sem ↓] Go.wp_at_zero Go.wp_at_succ

/-- a step, as the law holds it -/
structure Stp where
  kind : Int
  fd : Int
  n : Nat
  name : ByteArray
  text : ByteArray
def Stp.val (x : Stp) : Value := .agg #[.int .i64 x.kind, .int .i64 x.fd, .int .u64 (x.n : Int), .string x.name, .string x.text]
structure Stp.ok (x : Stp) : Prop where
  k0 : -9223372036854775808 ≤ x.kind
  k1 : x.kind ≤ 9223372036854775807
  f0 : -9223372036854775808 ≤ x.fd
  f1 : x.fd ≤ 9223372036854775807
  n1 : x.n ≤ 18446744073709551615
  nm : x.name.size ≤ maxLen
def Stp.fdv (x : Stp) : Int := if pk (x.kind.tdiv 16) 8 = 7 then x.fd else if x.fd < 0 then (-(x.fd + 1)) % 6 else x.fd % 6
theorem Stp.ok.fdv {x : Stp} (h : x.ok) : -9223372036854775808 ≤ x.fdv ∧ x.fdv ≤ 9223372036854775807 := by
  have := h.f0
  have := h.f1
  unfold Stp.fdv
  split
  · omega
  · split <;> omega

theorem tdiv_bd (k m : Int) (hm : 1 ≤ m) (h0 : -9223372036854775808 ≤ k) (h1 : k ≤ 9223372036854775807) : -9223372036854775808 ≤ k.tdiv m ∧ k.tdiv m ≤ 9223372036854775807 := by
  rcases Int.le_total 0 k with h | h
  · rw [Int.tdiv_eq_ediv_of_nonneg h]
    have a := Int.ediv_le_self m h
    have b := Int.ediv_nonneg h (show 0 ≤ m by omega)
    omega
  · have e : k.tdiv m = -((-k) / m) := by
      rw [← Int.tdiv_eq_ediv_of_nonneg (show 0 ≤ -k by omega), Int.neg_tdiv, Int.neg_neg]
    rw [e]
    have a := Int.ediv_le_self m (show 0 ≤ -k by omega)
    have b := Int.ediv_nonneg (show 0 ≤ -k by omega) (show 0 ≤ m by omega)
    omega

set_option maxHeartbeats 1000000 in
set_option maxRecDepth 100000 in
theorem fd_raw (x : Stp) (w : World) (h : x.ok) : Calls Try.prog 35 #[x.val] w fun e w' => e = .returned (.int .i64 x.fdv) ∧ Tn No w w' := by
  obtain ⟨kd, fd, n, nm, tx⟩ := x
  have h0 := h.k0
  have h1 := h.k1
  have f0 := h.f0
  have f1 := h.f1
  simp only at h0 h1 f0 f1
  obtain ⟨hq0, hq1⟩ := tdiv_bd kd 16 (by omega) h0 h1
  have HPK := hid (fun u => pick_raw (kd.tdiv 16) 8 u hq0 hq1 (by omega) (by omega))
  have hu : Stp.fdv ⟨kd, fd, n, nm, tx⟩ = if pk (kd.tdiv 16) 8 = 7 then fd else if fd < 0 then (-(fd + 1)) % 6 else fd % 6 := rfl
  rw [hu]
  unfold Stp.val
  obtain ⟨r, hr⟩ : ∃ r, pk (kd.tdiv 16) 8 = r := ⟨_, rfl⟩
  rw [hr] at HPK ⊢
  clear hr hu h
  by_cases hr : r = 7
  · subst hr
    rw [if_pos rfl]
    go_enter Try.func35, Try.ntmps35
    go_wp2_with (go_at_call 16; refine (HPK.out _).mono ?_; rintro e w5 ⟨rfl, rfl⟩)
    go_ret
    exact ⟨rfl, (by repeat (first | exact Tn.refl _ _ | apply Tn.drew | apply Tn.drewN | apply Tn.alloc | (refine Tn.then ?_ (by assumption)) | (refine Tn.thenNo ?_ (by assumption))))⟩
  · rw [if_neg hr]
    by_cases hf : fd < 0
    · rw [if_pos hf]
      have hb : 0 ≤ -(fd + 1) := by omega
      have hb2 : -(fd + 1) ≤ 9223372036854775807 := by omega
      go_enter Try.func35, Try.ntmps35
      go_wp2_with (go_at_call 16; refine (HPK.out _).mono ?_; rintro e w5 ⟨rfl, rfl⟩)
      go_ret
      exact ⟨ret_int (by rw [← Int.neg_tmod, Int.tmod_eq_emod_of_nonneg hb]), (by repeat (first | exact Tn.refl _ _ | apply Tn.drew | apply Tn.drewN | apply Tn.alloc | (refine Tn.then ?_ (by assumption)) | (refine Tn.thenNo ?_ (by assumption))))⟩
    · rw [if_neg hf]
      have hb : 0 ≤ fd := by omega
      go_enter Try.func35, Try.ntmps35
      go_wp2_with (go_at_call 16; refine (HPK.out _).mono ?_; rintro e w5 ⟨rfl, rfl⟩)
      go_ret
      exact ⟨rfl, (by repeat (first | exact Tn.refl _ _ | apply Tn.drew | apply Tn.drewN | apply Tn.alloc | (refine Tn.then ?_ (by assumption)) | (refine Tn.thenNo ?_ (by assumption))))⟩

def Stp.flv (x : Stp) : Int := if pk (x.kind.tdiv 128) 8 < 3 then 0 else if pk (x.kind.tdiv 128) 8 < 7 then 577 else x.fd

set_option maxHeartbeats 1000000 in
set_option maxRecDepth 100000 in
theorem flags_raw (x : Stp) (w : World) (h : x.ok) : Calls Try.prog 33 #[x.val] w fun e w' => e = .returned (.int .i64 x.flv) ∧ Tn No w w' := by
  obtain ⟨kd, fd, n, nm, tx⟩ := x
  have h0 := h.k0
  have h1 := h.k1
  simp only at h0 h1
  obtain ⟨hq0, hq1⟩ := tdiv_bd kd 128 (by omega) h0 h1
  have HPK := hid (fun u => pick_raw (kd.tdiv 128) 8 u hq0 hq1 (by omega) (by omega))
  have hu : Stp.flv ⟨kd, fd, n, nm, tx⟩ = if pk (kd.tdiv 128) 8 < 3 then 0 else if pk (kd.tdiv 128) 8 < 7 then 577 else fd := rfl
  rw [hu]
  unfold Stp.val
  have hr0 : 0 ≤ pk (kd.tdiv 128) 8 ∧ pk (kd.tdiv 128) 8 < 8 := by unfold pk; omega
  obtain ⟨r, hr⟩ : ∃ r, pk (kd.tdiv 128) 8 = r := ⟨_, rfl⟩
  rw [hr] at HPK hr0 ⊢
  clear hr hu h
  rcases (by omega : r = 0 ∨ r = 1 ∨ r = 2 ∨ r = 3 ∨ r = 4 ∨ r = 5 ∨ r = 6 ∨ r = 7) with rfl | rfl | rfl | rfl | rfl | rfl | rfl | rfl
  all_goals
    go_enter Try.func33, Try.ntmps33
    go_wp2_with (go_at_call 16; refine (HPK.out _).mono ?_; rintro e w5 ⟨rfl, rfl⟩)
    go_ret
    exact ⟨rfl, (by repeat (first | exact Tn.refl _ _ | apply Tn.drew | apply Tn.drewN | apply Tn.alloc | (refine Tn.then ?_ (by assumption)) | (refine Tn.thenNo ?_ (by assumption))))⟩
end Go.Proofs.Ytkbdgdcicflocaa
namespace Go.Proofs.Ytkbdgdcicflocaa
set_option linter.unusedSimpArgs false
set_option linter.unusedVariables false
open Go.RowKit
attribute [local go_sem ↓] Go.wp_at_zero Go.wp_at_succ

def PP (u : World) (p q N : Nat) (S : St) (N2 : Nat) (S2 : St) (X : Nat → Prop) : Prop :=
  ∃ L L', PW u p L N S ∧ PR u q L' N2 S2 ∧ (∀ k, L k ≠ none → X k) ∧ (∀ k, L' k ≠ none → X k) ∧ ∀ k, L k ≠ none → L' k = none
/-- what is left behind calls on them -/
def PL (u : World) (p q : Nat) (X : Nat → Prop) (u' : World) (N : Nat) (S : St) (N2 : Nat) (S2 : St) : Prop :=
  ∃ X', PP u' p q N S N2 S2 X' ∧ Tn X u u' ∧ ∀ k, k < u.heap.size → ¬ X k → ¬ X' k

theorem PL.refl {u : World} {p q N N2 : Nat} {S S2 : St} {X : Nat → Prop} (h : PP u p q N S N2 S2 X) : PL u p q X u N S N2 S2 := ⟨X, h, Tn.refl _ _, fun _ _ e => e⟩
theorem PP.no {u u' : World} {p q N N2 : Nat} {S S2 : St} {X : Nat → Prop} (h : PP u p q N S N2 S2 X) (t : Tn No u u') : PP u' p q N S N2 S2 X := by
  obtain ⟨L, L', a, b, r⟩ := h
  exact ⟨L, L', a.no t, b.no t, r⟩
theorem PL.no {u u' u2 : World} {p q N N2 : Nat} {S S2 : St} {X : Nat → Prop} (h : PL u p q X u' N S N2 S2) (t : Tn No u' u2) : PL u p q X u2 N S N2 S2 := by
  obtain ⟨X', a, b, c⟩ := h
  exact ⟨X', a.no t, b.thenNo t, c⟩
theorem PL.trans {u u1 u2 : World} {p q N N2 M M2 : Nat} {S S2 R R2 : St} {X : Nat → Prop} (h : PL u p q X u1 N S N2 S2) (k : ∀ X', PP u1 p q N S N2 S2 X' → PL u1 p q X' u2 M R M2 R2) : PL u p q X u2 M R M2 R2 := by
  obtain ⟨X1, a, b, c⟩ := h
  obtain ⟨X2, a2, b2, c2⟩ := k X1 a
  exact ⟨X2, a2, b.trans b2 (fun _ _ e => e) (fun i hi e => Classical.byContradiction (fun h => c i hi h e)), fun i hi e => c2 i (Nat.lt_of_lt_of_le hi b.size) (c i hi e)⟩
/-- the program takes a step -/
theorem PP.left {u u' : World} {p q N2 N' : Nat} {S2 S' : St} {X : Nat → Prop} {L L' : Nat → Option Lab} (b : PR u q L' N2 S2) (c : ∀ k, L k ≠ none → X k) (d : ∀ k, L' k ≠ none → X k) (e : ∀ k, L k ≠ none → L' k = none) (hs : Lft u p L u' N' S') : PL u p q X u' N' S' N2 S2 := by
  obtain ⟨L1, a1, t, hl⟩ := hs
  obtain ⟨fl, dd, lv, tv, bv, hx⟩ := b
  have hx' := hx.kept t.size (fun k hk => t.block k (hx.lt k hk) (fun hn => hk (e k hn)))
  refine ⟨fun k => L1 k ≠ none ∨ L' k ≠ none, ⟨L1, L', a1, ⟨_, _, _, _, _, hx'⟩, fun k => .inl, fun k => .inr, fun k hk => ?_⟩, t.mono (fun k _ hk => c k hk), fun k hk hX hc => ?_⟩
  · rcases Nat.lt_or_ge k u.heap.size with hlt | hge
    · exact e k (fun h0 => hk (hl k hlt h0))
    · exact Classical.byContradiction (fun hn => by have := hx.lt k hn; omega)
  · rcases hc with hc | hc
    · exact hc (hl k hk (Classical.byContradiction (fun hn => hX (c k hn))))
    · exact hX (d k hc)
/-- the reference takes a step -/
theorem PP.right {u u' : World} {p q N N' : Nat} {S S' : St} {X : Nat → Prop} {L L' : Nat → Option Lab} (a : PW u p L N S) (c : ∀ k, L k ≠ none → X k) (d : ∀ k, L' k ≠ none → X k) (e : ∀ k, L k ≠ none → L' k = none) (hs : RLft u q L' u' N' S') : PL u p q X u' N S N' S' := by
  obtain ⟨L1, b1, t, hl⟩ := hs
  have e' : ∀ k, L' k ≠ none → L k = none := fun k hk => Classical.byContradiction (fun hn => hk (e k hn))
  obtain ⟨cc, mo, iv, tv, vs, hx⟩ := a
  have hx' := hx.kept t.size (fun k hk => t.block k (hx.lt k hk) (fun hn => hk (e' k hn)))
  refine ⟨fun k => L k ≠ none ∨ L1 k ≠ none, ⟨L, L1, ⟨_, _, _, _, _, hx'⟩, b1, fun k => .inl, fun k => .inr, fun k hk => ?_⟩, t.mono (fun k _ hk => d k hk), fun k hk hX hc => ?_⟩
  · rcases Nat.lt_or_ge k u.heap.size with hlt | hge
    · exact hl k hlt (e k hk)
    · have := hx.lt k hk; omega
  · rcases hc with hc | hc
    · exact hX (c k hc)
    · exact hc (hl k hk (Classical.byContradiction (fun hn => hX (d k hn))))

/-- a call of the program's, as a step of the pair -/
theorem PP.callL {f : FuncId} {args : Array Value} {E : Ending → Prop} {u : World} {p q N N2 N' : Nat} {S S2 S' : St} {X : Nat → Prop} (h : PP u p q N S N2 S2 X) (hc : ∀ L, PW u p L N S → Calls Try.prog f args u (fun e u' => E e ∧ Lft u p L u' N' S')) : Calls Try.prog f args u (fun e u' => E e ∧ PL u p q X u' N' S' N2 S2) := by
  obtain ⟨L, L', a, b, c, d, e⟩ := h
  exact (hc L a).mono (fun _ _ ⟨h1, h2⟩ => ⟨h1, PP.left b c d e h2⟩)
/-- a call of the reference's, as a step of the pair -/
theorem PP.callR {f : FuncId} {args : Array Value} {E : Ending → Prop} {u : World} {p q N N2 N' : Nat} {S S2 S' : St} {X : Nat → Prop} (h : PP u p q N S N2 S2 X) (hc : ∀ L, PR u q L N2 S2 → Calls Try.prog f args u (fun e u' => E e ∧ RLft u q L u' N' S')) : Calls Try.prog f args u (fun e u' => E e ∧ PL u p q X u' N S N' S') := by
  obtain ⟨L, L', a, b, c, d, e⟩ := h
  exact (hc L' b).mono (fun _ _ ⟨h1, h2⟩ => ⟨h1, PP.right a c d e h2⟩)
/-- .. behind others -/
theorem PL.callL {f : FuncId} {args : Array Value} {E : Ending → Prop} {u0 u : World} {p q N N2 N' : Nat} {S S2 S' : St} {X : Nat → Prop} (h : PL u0 p q X u N S N2 S2) (hc : ∀ L, PW u p L N S → Calls Try.prog f args u (fun e u' => E e ∧ Lft u p L u' N' S')) : Calls Try.prog f args u (fun e u' => E e ∧ PL u0 p q X u' N' S' N2 S2) := by
  obtain ⟨X1, a, b, c⟩ := h
  exact (a.callL hc).mono (fun _ _ ⟨h1, h2⟩ => ⟨h1, by
    obtain ⟨X2, a2, b2, c2⟩ := h2
    exact ⟨X2, a2, b.trans b2 (fun _ _ e => e) (fun i hi e => Classical.byContradiction (fun h => c i hi h e)), fun i hi e => c2 i (Nat.lt_of_lt_of_le hi b.size) (c i hi e)⟩⟩)
theorem PL.callR {f : FuncId} {args : Array Value} {E : Ending → Prop} {u0 u : World} {p q N N2 N' : Nat} {S S2 S' : St} {X : Nat → Prop} (h : PL u0 p q X u N S N2 S2) (hc : ∀ L, PR u q L N2 S2 → Calls Try.prog f args u (fun e u' => E e ∧ RLft u q L u' N' S')) : Calls Try.prog f args u (fun e u' => E e ∧ PL u0 p q X u' N S N' S') := by
  obtain ⟨X1, a, b, c⟩ := h
  exact (a.callR hc).mono (fun _ _ ⟨h1, h2⟩ => ⟨h1, by
    obtain ⟨X2, a2, b2, c2⟩ := h2
    exact ⟨X2, a2, b.trans b2 (fun _ _ e => e) (fun i hi e => Classical.byContradiction (fun h => c i hi h e)), fun i hi e => c2 i (Nat.lt_of_lt_of_le hi b.size) (c i hi e)⟩⟩)
end Go.Proofs.Ytkbdgdcicflocaa
