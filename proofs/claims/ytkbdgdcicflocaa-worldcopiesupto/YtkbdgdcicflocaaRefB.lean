/-
  The reference's say.
-/
import Derived.Test.YtkbdgdcicflocaaRefA
namespace Go.Proofs.Ytkbdgdcicflocaa
set_option linter.unusedSimpArgs false
set_option linter.unusedVariables false
open Go.RowKit
attribute [local go_sem ↓] Go.wp_at_zero Go.wp_at_succ

theorem RW.set {w : World} {size g n cap : Nat} (h : RW w size (.slice (some ⟨g, 0, none⟩) n cap) n) (j : Nat) (x : Value) : RW (w.setCell ⟨g, j, none⟩ x) size (.slice (some ⟨g, 0, none⟩) n cap) n := by
  rcases h with ⟨e, _⟩ | ⟨g', cap', e, hg, h1, h2, h3⟩
  · cases e
  · simp only [Value.slice.injEq, Option.some.injEq] at e
    obtain ⟨e1, _, e3⟩ := e
    cases e1
    subst e3
    refine .inr ⟨g, cap, rfl, by simpa using hg, h1, h2, fun k hk => ⟨?_, by rw [World.frozen?_setCell]; exact (h3 k hk).2⟩⟩
    obtain ⟨u, hu⟩ := Option.isSome_iff_exists.1 (h3 k hk).1
    by_cases e : k = j
    · subst e
      rw [World.cell?_setCell_same _ _ _ hu]
      rfl
    · rw [World.cell?_setCell_other _ _ _ _ (by intro e'; cases e'; exact e rfl), hu]
      rfl

/-- a text goes on the reference's trace -/
theorem RX.setTx {w : World} {q : Nat} {L : Nat → Option Lab} {N : Nat} {S : St} {fl : List (ByteArray × List UInt8)} {d : Dk} {lv : Value} {bv : Nat → Value} {g n cap : Nat} (h : RX w q L N S fl d lv (.slice (some ⟨g, 0, none⟩) n cap) bv) (i : Nat) (hi : i < S.tr.length) (t : List UInt8) :
    RLft w q L (w.setCell ⟨g, i * 3 + 2, none⟩ (.string (str ((S.tr[i]'hi).text ++ t)))) (N + t.length) (S.addTx i t) := by
  have hLg : L g = some .tr := h.labt g rfl
  have hks : ∀ k, k ≠ g → (w.setCell ⟨g, i * 3 + 2, none⟩ (.string (str ((S.tr[i]'hi).text ++ t)))).heap[k]? = w.heap[k]? := fun k hk => Below.heap_setCell _ _ _ _ hk
  have hqg : q ≠ g := fun e => by rw [← e, h.labs] at hLg; cases hLg
  have cq : ∀ j, (w.setCell ⟨g, i * 3 + 2, none⟩ (.string (str ((S.tr[i]'hi).text ++ t)))).cell? ⟨q, j, none⟩ = w.cell? ⟨q, j, none⟩ := fun j => World.cell?_of_block (w := w) (a := ⟨q, j, none⟩) (hks q hqg)
  have hn : n = S.tr.length := by
    obtain ⟨_, _, e, _⟩ := h.tr.rw.form
    simp only [Value.slice.injEq] at e
    exact e.2.1
  subst hn
  have hlen := h.tlen
  refine ⟨L, ⟨fl, d, lv, _, bv, h.withT (Nat.le_add_right N t.length) (by simp) (fun k h1 h2 h3 => hks k (fun e => h2 (by rw [e]; exact hLg))) (fun j _ => cq j) ((cq 3).trans h.c3) (fun j => by rw [World.frozen?_setCell]; exact h.fz j) (fun _ _ e => e) (fun k hk => by simpa using h.lt k hk) ⟨?_, fun j e he => ?_⟩ h.labt ⟨by simp; omega, fun e he => ?_⟩⟩, (Tn.refl _ w).set _ _ (fun _ => by show L g ≠ none; rw [hLg]; simp), fun _ _ e => e⟩
  · have := h.tr.rw.set (i * 3 + 2) (.string (str ((S.tr[i]'hi).text ++ t)))
    rw [List.length_modify]
    exact this
  · have o : ∀ x, x ≠ i * 3 + 2 → vc (w.setCell ⟨g, i * 3 + 2, none⟩ (.string (str ((S.tr[i]'hi).text ++ t)))) (.slice (some ⟨g, 0, none⟩) S.tr.length cap) x = vc w (.slice (some ⟨g, 0, none⟩) S.tr.length cap) x := fun x hx => by
      unfold vc
      exact World.cell?_setCell_other _ _ _ _ (by intro e; cases e; exact hx rfl)
    rw [List.getElem?_modify] at he
    obtain ⟨e0, he0⟩ : ∃ e0, S.tr[j]? = some e0 := by
      cases hh : S.tr[j]? with
      | none => rw [hh] at he; simp at he
      | some x => exact ⟨x, rfl⟩
    obtain ⟨a, b, c⟩ := h.tr.ev j e0 he0
    rw [he0] at he
    by_cases hij : i = j
    · subst hij
      simp at he
      subst he
      refine ⟨by rw [o _ (by omega)]; exact a, by rw [o _ (by omega)]; exact b, ?_⟩
      have hee : S.tr[i]'hi = e0 := by
        rw [List.getElem?_eq_getElem hi] at he0
        exact Option.some.inj he0
      rw [hee]
      have c' : w.cell? ⟨g, i * 3 + 2, none⟩ = some (.string (str e0.text)) := by rw [Nat.mul_comm i 3]; exact c
      have := World.cell?_setCell_same w _ (.string (str (e0.text ++ t))) c'
      show World.cell? _ ⟨g, 3 * i + 2, none⟩ = _
      rw [Nat.mul_comm 3 i]
      exact this
    · simp [hij] at he
      subst he
      exact ⟨by rw [o _ (by omega)]; exact a, by rw [o _ (by omega)]; exact b, by rw [o _ (by omega)]; exact c⟩
  · obtain ⟨j, hje⟩ := List.mem_iff_getElem?.1 he
    rw [List.getElem?_modify] at hje
    cases hh : S.tr[j]? with
    | none => rw [hh] at hje; simp at hje
    | some x =>
      have := hlen.2 x (List.mem_of_getElem? hh)
      rw [hh] at hje
      by_cases hij : i = j
      · simp [hij] at hje
        subst hje
        simp
        omega
      · simp [hij] at hje
        subst hje
        omega

theorem rsay_nil (S : St) (k : Int) (nm : ByteArray) : S.say k nm [] = S := by unfold St.say; rw [if_pos rfl]
theorem rsay_more (S : St) (k : Int) (nm : ByteArray) (t : List UInt8) (ht : ¬ t = []) (e : Ev) (he : S.tr.getLast? = some e) (h1 : e.kind = k) (h2 : e.name = nm) : S.say k nm t = S.addTx (S.tr.length - 1) t := by
  unfold St.say
  rw [if_neg ht, he]
  simp only [h1, h2, and_self, if_true]
theorem rsay_new (S : St) (k : Int) (nm : ByteArray) (t : List UInt8) (ht : ¬ t = []) (h : ∀ e, S.tr.getLast? = some e → ¬ (e.kind = k ∧ e.name = nm)) : S.say k nm t = { S with tr := S.tr ++ [⟨k, nm, t⟩] } := by
  have e1 : (S.addEv ⟨k, nm, []⟩).addTx S.tr.length t = { S with tr := S.tr ++ [⟨k, nm, t⟩] } := by
    have := modify_last (fun e => { e with text := e.text ++ t }) ⟨k, nm, []⟩ S.tr
    simp only [St.addTx, St.addEv, this]
    rfl
  unfold St.say
  rw [if_neg ht]
  cases hl : S.tr.getLast? with
  | none => exact e1
  | some e => simp only [if_neg (h e hl)]; exact e1

theorem RX.mono {w : World} {q : Nat} {L : Nat → Option Lab} {N N' : Nat} {S : St} {fl : List (ByteArray × List UInt8)} {d : Dk} {lv tv : Value} {bv : Nat → Value} (h : RX w q L N S fl d lv tv bv) (hN : N ≤ N') : RX w q L N' S fl d lv tv bv := by
  refine { h with pl := fun i hi => ⟨Nat.le_trans (h.pl i hi).1 hN, (h.pl i hi).2⟩, tlen := ⟨Nat.le_trans h.tlen.1 hN, fun e he => Nat.le_trans (h.tlen.2 e he) hN⟩, len := Nat.le_trans h.len hN, lc := fun i hi => ?_ }
  obtain ⟨a, b, c, e, f, g⟩ := h.lc i hi
  exact ⟨a, b, c, e, Nat.le_trans f hN, g⟩
theorem RLft.no {w w' w2 : World} {q : Nat} {L : Nat → Option Lab} {N : Nat} {S : St} (h : RLft w q L w' N S) (t : Tn No w' w2) : RLft w q L w2 N S := by
  obtain ⟨L', h1, t1, h2⟩ := h
  exact ⟨L', h1.no t, t1.thenNo t, h2⟩
theorem RLft.mono {w w' : World} {q : Nat} {L : Nat → Option Lab} {N N' : Nat} {S : St} (h : RLft w q L w' N S) (hN : N ≤ N') : RLft w q L w' N' S := by
  obtain ⟨L', ⟨fl, d, lv, tv, bv, hx⟩, r⟩ := h
  exact ⟨L', ⟨fl, d, lv, tv, bv, hx.mono hN⟩, r⟩

set_option maxHeartbeats 2000000 in
set_option maxRecDepth 100000 in
theorem rsay_raw (w : World) (q : Nat) (L : Nat → Option Lab) (N : Nat) (S : St) (h : PR w q L N S) (k : Int) (nm s : ByteArray) (hN : N + s.size + 1 ≤ 1099511627776) :
    Calls Try.prog 60 #[.pointer (some ⟨q, 0, none⟩), .int .i64 k, .string nm, .string s] w fun e w' => e = .returned (.tuple #[]) ∧ RLft w q L w' (N + s.size + 1) (S.say k nm s.data.toList) := by
  obtain ⟨fl, d, lv, tv, bv, hx⟩ := h
  have k3 := hx.c3
  have f3 := hx.fz 3
  have hql := hx.qlt
  obtain ⟨a, cap, rfl, hlc, hcm, hnil, hsome⟩ := hx.tr.rw.form
  obtain ⟨n, hn⟩ : ∃ n, S.tr.length = n := ⟨_, rfl⟩
  have hlen := hx.tlen.1
  have HX := hid hx
  have HN := hid hn
  rw [hn] at k3 hlc hnil hlen
  have HNIL := hid hnil
  have HSOME := hid hsome
  clear hx hn hnil hsome
  by_cases hs : s.size = 0
  · have he : s.toList.isEmpty = true := by rw [toList_isEmpty]; simpa using hs
    have hs0 : s.data.toList = [] := by apply List.eq_nil_of_length_eq_zero; simpa using hs
    have HS0 := hid hs0
    clear hs hs0
    go_enter Try.func60, Try.ntmps60
    go_wp2
    ((try simp only [Exit.inBlock, Exit.then]); refine bodyPost_ret (results_none rfl _ _ _) rfl ?_)
    refine ⟨rfl, ?_⟩
    rw [HS0.out, rsay_nil]
    exact (PR.same ⟨_, _, _, _, _, HX.out⟩ (by repeat (first | exact Tn.refl _ _ | apply Tn.drew | apply Tn.drewN | apply Tn.alloc | (refine Tn.then ?_ (by assumption)) | (refine Tn.thenNo ?_ (by assumption))))).mono (by omega)
  · have he : s.toList.isEmpty = false := by rw [toList_isEmpty]; simpa using hs
    have hs0 : ¬ s.data.toList = [] := fun e => hs (by have : s.data.toList.length = s.size := by simp
                                                       rw [e] at this; exact this.symm)
    have HS0 := hid hs0
    have hsl : s.data.toList.length = s.size := by simp
    have HSL := hid hsl
    have hstr : str s.data.toList = s := rfl
    clear hs0 hsl
    by_cases hsame : ∃ e, S.tr.getLast? = some e ∧ e.kind = k ∧ e.name = nm
    · obtain ⟨e, hel, rfl, rfl⟩ := hsame
      have hnp : 0 < n := by
        rw [← HN.out]
        cases hh : S.tr with
        | nil => rw [hh] at hel; simp at hel
        | cons x r => simp
      obtain ⟨j, rfl⟩ : ∃ j, n = j + 1 := ⟨n - 1, by omega⟩
      have hjl : j < S.tr.length := by rw [HN.out]; omega
      have hje : S.tr[j]'hjl = e := by
        rw [List.getLast?_eq_getElem?, HN.out, Nat.add_sub_cancel, List.getElem?_eq_getElem hjl] at hel
        exact Option.some.inj hel
      cases a with
      | none => have := (HNIL.out rfl).1; omega
      | some x =>
      obtain ⟨hxe, hxl⟩ := HSOME.out x rfl
      obtain ⟨g, o, sp⟩ := x
      cases hxe
      obtain ⟨c0, c1, c2⟩ := HX.out.tr.ev j e (by rw [List.getElem?_eq_getElem hjl, hje])
      rw [Nat.mul_comm 3 j] at c0 c1 c2
      have q0 : w.cell? ⟨g, j * 3, none⟩ = some (.int .i64 e.kind) := c0
      have q1 : w.cell? ⟨g, j * 3 + 1, none⟩ = some (.string e.name) := c1
      have q2 : w.cell? ⟨g, j * 3 + 2, none⟩ = some (.string (str e.text)) := c2
      have htl : e.text.length ≤ 1099511627776 := by have := HX.out.tlen.2 e (by rw [← hje]; exact List.getElem_mem _); omega
      have d2 : (str e.text).size ≤ 1099511627776 := by rw [str_size]; exact htl
      have hset := HX.out.setTx j hjl s.data.toList
      rw [hje, ← str_append, hstr] at hset
      have hsay := rsay_more S e.kind e.name _ HS0.out e hel rfl rfl
      rw [HN.out, Nat.add_sub_cancel] at hsay
      rw [← hsay, HSL.out] at hset
      have HSET := hid hset
      have f2 : w.frozen? ⟨g, j * 3 + 2, none⟩ = false := by
        obtain ⟨g', cap', e', _, _, _, hf⟩ := HX.out.tr.rw.pos (by rw [HN.out]; omega)
        simp only [Value.slice.injEq, Option.some.injEq] at e'
        obtain ⟨e1, _, _⟩ := e'
        cases e1
        exact hf _ (by rw [HN.out]; omega)
      clear hset hsay c0 c1 c2 hel hje HX HN HNIL HSOME htl
      go_enter Try.func60, Try.ntmps60
      go_wp2
      go_region
      all_goals go_wp2
      all_goals ((try simp only [Exit.inBlock, Exit.then]); refine bodyPost_ret (results_none rfl _ _ _) rfl ?_)
      all_goals exact ⟨rfl, (HSET.out.no (by repeat (first | exact Tn.refl _ _ | apply Tn.drew | apply Tn.drewN | apply Tn.alloc | (refine Tn.then ?_ (by assumption)) | (refine Tn.thenNo ?_ (by assumption))))).mono (by omega)⟩
    · have hdiff : ∀ e, S.tr.getLast? = some e → ¬ (e.kind = k ∧ e.name = nm) := fun e h1 h2 => hsame ⟨e, h1, h2.1, h2.2⟩
      have hsay := rsay_new S k nm _ HS0.out hdiff
      have hadd : ∀ u, Tn No w u → _ := fun u t => (HX.out.no t).addEv (by omega) k nm s.data.toList
      rw [hstr, ← hsay, HSL.out] at hadd
      have HADD := hid hadd
      clear hadd hsay hsame
      obtain ⟨v', w4, hr, ⟨a4, n4, c4, rfl⟩, k34, f34, q34, hfin⟩ := HADD.out w (Tn.refl _ _)
      have HAPP := hid hr
      have HFIN := hid hfin
      clear HADD hr hfin
      rcases Nat.eq_zero_or_pos n with hn0 | hnp
      · subst hn0
        rw [HN.out] at HAPP k34
        clear hdiff HX HNIL HSOME
        go_enter Try.func60, Try.ntmps60
        go_wp2_with (at_builtin; refine wpList_app _ rfl _ _ _ _ rfl _ _ rfl rfl _ w4 HAPP.out ?_)
        go_end0
        exact ⟨rfl, HFIN.out⟩
      · obtain ⟨j, rfl⟩ : ∃ j, n = j + 1 := ⟨n - 1, by omega⟩
        have hjl : j < S.tr.length := by rw [HN.out]; omega
        obtain ⟨e, hje⟩ : ∃ e, S.tr[j]'hjl = e := ⟨_, rfl⟩
        have hel : S.tr.getLast? = some e := by rw [List.getLast?_eq_getElem?, HN.out, Nat.add_sub_cancel, List.getElem?_eq_getElem hjl, hje]
        have hdf := hdiff e hel
        cases a with
        | none => have := (HNIL.out rfl).1; omega
        | some x =>
        obtain ⟨hxe, hxl⟩ := HSOME.out x rfl
        obtain ⟨g, o, sp⟩ := x
        cases hxe
        obtain ⟨c0, c1, c2⟩ := HX.out.tr.ev j e (by rw [List.getElem?_eq_getElem hjl, hje])
        rw [Nat.mul_comm 3 j] at c0 c1
        have q0 : w.cell? ⟨g, j * 3, none⟩ = some (.int .i64 e.kind) := c0
        have q1 : w.cell? ⟨g, j * 3 + 1, none⟩ = some (.string e.name) := c1
        rw [HN.out] at HAPP k34
        clear hdiff HX HNIL HSOME c0 c1 c2 hel hje
        by_cases hk : e.kind = k
        · have hd1 : (e.kind == k) = true := by simpa using hk
          have hd2 : (e.name.toList == nm.toList) = false := by
            rw [beq_eq_false_iff_ne]
            intro h
            apply hdf
            refine ⟨hk, ?_⟩
            rw [ByteArray.toList_eq, ByteArray.toList_eq] at h
            exact ByteArray.ext (Array.ext' h)
          clear hk hdf
          go_enter Try.func60, Try.ntmps60
          go_wp2_with (at_builtin; refine wpList_app _ rfl _ _ _ _ rfl _ _ rfl rfl _ w4 HAPP.out ?_)
          go_end0
          exact ⟨rfl, HFIN.out⟩
        · have hd1 : (e.kind == k) = false := by simpa using hk
          clear hk hdf
          go_enter Try.func60, Try.ntmps60
          go_wp2_with (at_builtin; refine wpList_app _ rfl _ _ _ _ rfl _ _ rfl rfl _ w4 HAPP.out ?_)
          go_end0
          exact ⟨rfl, HFIN.out⟩
end Go.Proofs.Ytkbdgdcicflocaa
namespace Go.Proofs.Ytkbdgdcicflocaa
set_option linter.unusedSimpArgs false
set_option linter.unusedVariables false
open Go.RowKit
attribute [local go_sem ↓] Go.wp_at_zero Go.wp_at_succ

def RReadPost (w : World) (q : Nat) (L : Nat → Option Lab) (N : Nat) (S : St) (fd : Int) (n : Nat) (e : Ending) (w' : World) : Prop :=
  e = .returned (.tuple #[.string (str (readTx S fd n)), .int .i64 (readRes S fd n)]) ∧ RLft w q L w' N (S.sread fd n)

set_option maxHeartbeats 1000000 in
set_option maxRecDepth 100000 in
theorem rread_no (w : World) (q : Nat) (L : Nat → Option Lab) (N : Nat) (S : St) (h : PR w q L N S) (fd : Int) (n : Nat) (h0 : -9223372036854775808 ≤ fd) (h1 : fd ≤ 9223372036854775807) (hk : ¬ (S.at fd).kind = 1) (hk4 : ¬ (S.at fd).kind = 4) :
    Calls Try.prog 36 #[.pointer (some ⟨q, 0, none⟩), .int .i64 fd, .int .u64 (n : Int)] w (RReadPost w q L N S fd n) := by
  have HK := hid (kind_raw w q L N S h fd h0 h1)
  have hend : ∀ u, Tn No w u → RReadPost w q L N S fd n (.returned (.tuple #[.string ⟨#[]⟩, .int .i64 (-9)])) u := fun u t => by
    have e1 : readTx S fd n = [] := by unfold readTx; rw [if_neg hk, if_neg hk4]
    refine ⟨by unfold readRes; rw [if_neg (by simp [hk, hk4]), e1]; rfl, ?_⟩
    unfold St.sread
    rw [if_neg hk, if_neg hk4]
    exact h.same t
  have HE := hid hend
  obtain ⟨k, hkk⟩ : ∃ k, (S.at fd).kind = k := ⟨_, rfl⟩
  rw [hkk] at HK hk hk4
  have d2 : (k == 1) = false := by simpa using hk
  have d3 : (k == 4) = false := by simpa using hk4
  have d4 : (k != 4) = true := by simpa using hk4
  clear hend hkk h hk hk4 h0 h1
  go_enter Try.func36, Try.ntmps36
  go_wp2_with (go_at_call 59; refine HK.out.mono ?_; rintro e w1 ⟨rfl, rfl⟩)
  go_ret2
  exact HE.out _ (by repeat (first | exact Tn.refl _ _ | apply Tn.drew | apply Tn.drewN | apply Tn.alloc | (refine Tn.then ?_ (by assumption)) | (refine Tn.thenNo ?_ (by assumption))))

set_option maxHeartbeats 2000000 in
set_option maxRecDepth 100000 in
theorem rread_in (w : World) (q : Nat) (L : Nat → Option Lab) (N : Nat) (S : St) (h : PR w q L N S) (fd : Int) (n : Nat) (h0 : -9223372036854775808 ≤ fd) (h1 : fd ≤ 9223372036854775807) (hn : n ≤ 18446744073709551615) (hin : S.inp.length ≤ 9223372036854775806) (hk : (S.at fd).kind = 1) :
    Calls Try.prog 36 #[.pointer (some ⟨q, 0, none⟩), .int .i64 fd, .int .u64 (n : Int)] w (RReadPost w q L N S fd n) := by
  have HK := hid (kind_raw w q L N S h fd h0 h1)
  rw [hk] at HK
  obtain ⟨fl, d, lv, tv, bv, hx⟩ := h
  have k1 := hx.c1
  have f1 := hx.fz 1
  have hql := hx.qlt
  obtain ⟨st, hst⟩ : ∃ st, str (S.inp.drop S.rd) = st := ⟨_, rfl⟩
  rw [hst] at k1
  have hlen : (S.inp.drop S.rd).length = st.size := by rw [← hst, str_size]
  have hm : st.size ≤ 9223372036854775806 := by rw [← hlen]; simp; omega
  have hend : ∀ r x, r = min n st.size → x = st.extract r st.size → RReadPost w q L N S fd n (.returned (.tuple #[.string (st.extract 0 r), .int .i64 (r : Int)])) (w.setCell ⟨q, 1, none⟩ (.string x)) := fun r x hr hxx => by
    have e0 : readTx S fd n = (S.inp.drop S.rd).take n := by unfold readTx; rw [if_pos hk]; rfl
    have e1 : (S.inp.drop S.rd).take n = (S.inp.drop S.rd).take r := by
      rw [List.take_eq_take_iff, hlen]; omega
    have e2 : (readTx S fd n).length = r := by rw [e0, List.length_take, hlen]; omega
    refine ⟨?_, ?_⟩
    · unfold readRes
      rw [if_pos (.inl hk), e2, e0, e1, ← hst, str_extract]
      rfl
    · unfold St.sread
      rw [if_pos hk, e2]
      have e : x = str (S.inp.drop (S.rd + r)) := by
        rw [hxx, ← hlen, ← hst, str_extract, List.take_length, List.drop_drop]
      rw [e]
      have hrd := hx.rd
      have hl : (S.inp.drop S.rd).length = S.inp.length - S.rd := by simp
      exact ⟨L, ⟨_, _, _, _, _, hx.setRd (S.rd + r) (by omega)⟩, (Tn.refl _ _).own hx.labs 1 _, fun _ _ e => e⟩
  have HE := hid hend
  clear hend hx hst hlen hk h0 h1 hin
  by_cases hlt : n < st.size
  · have hli : (n : Int) < (st.size : Int) := by omega
    have hrn : n = min n st.size := by omega
    have HR := hid hrn
    clear hrn
    go_enter Try.func36, Try.ntmps36
    go_wp2_with (go_at_call 59; refine HK.out.mono ?_; rintro e w1 ⟨rfl, rfl⟩)
    all_goals go_ret2
    all_goals exact HE.out n _ HR.out rfl
  · have hli : (st.size : Int) ≤ (n : Int) := by omega
    have hrn : st.size = min n st.size := by omega
    have HR := hid hrn
    clear hrn
    go_enter Try.func36, Try.ntmps36
    go_wp2_with (go_at_call 59; refine HK.out.mono ?_; rintro e w1 ⟨rfl, rfl⟩)
    all_goals go_ret2
    all_goals exact (by have h := HE.out st.size ByteArray.empty HR.out (by simp); rw [ByteArray.extract_zero_size] at h; exact h)
end Go.Proofs.Ytkbdgdcicflocaa
namespace Go.Proofs.Ytkbdgdcicflocaa
set_option linter.unusedSimpArgs false
set_option linter.unusedVariables false
open Go.RowKit
attribute [local go_sem ↓] Go.wp_at_zero Go.wp_at_succ

def RWritePost (w : World) (q : Nat) (L : Nat → Option Lab) (N : Nat) (S : St) (fd : Int) (s : ByteArray) (e : Ending) (w' : World) : Prop :=
  e = .returned (.int .i64 (writeRes S fd s)) ∧ RLft w q L w' (N + 2 * s.size + 2) (S.write fd s)

set_option maxHeartbeats 1000000 in
set_option maxRecDepth 100000 in
theorem rwrite_out (w : World) (q : Nat) (L : Nat → Option Lab) (N : Nat) (S : St) (h : PR w q L N S) (fd : Int) (s : ByteArray) (h0 : -9223372036854775808 ≤ fd) (h1 : fd ≤ 9223372036854775807) (hN : N + s.size + 1 ≤ 1099511627776) (hk : (S.at fd).kind = 2 ∨ (S.at fd).kind = 3) :
    Calls Try.prog 37 #[.pointer (some ⟨q, 0, none⟩), .int .i64 fd, .string s] w (RWritePost w q L N S fd s) := by
  have HK := hid (kind_raw w q L N S h fd h0 h1)
  have hs63 : (s.size : Int) ≤ 1099511627776 := by omega
  rcases hk with hk | hk
  · have hsay := fun u (t : Tn No w u) => rsay_raw u q L N S (h.no t) 1 noName s hN
    have hend : ∀ u u', Tn No w u → RLft u q L u' (N + s.size + 1) (S.say 1 noName s.data.toList) → RWritePost w q L N S fd s (.returned (.int .i64 (s.size : Int))) u' := fun u u' t hl => by
      refine ⟨by unfold writeRes; rw [if_pos (.inl hk)], ?_⟩
      unfold St.write
      rw [if_pos hk]
      obtain ⟨L', a, b, c⟩ := hl.mono (N' := N + 2 * s.size + 2) (by omega)
      exact ⟨L', a, t.any.trans b (fun _ _ e => e) (fun _ _ e => e), fun k hk' e => c k (Nat.lt_of_lt_of_le hk' t.size) e⟩
    have HS := hid hsay
    have HE := hid hend
    rw [hk] at HK
    clear hsay hend h hk h0 h1
    unfold noName at HS HE
    go_enter Try.func37, Try.ntmps37
    go_wp2_with (first
      | (go_at_call 59; refine HK.out.mono ?_; rintro e w1 ⟨rfl, rfl⟩)
      | (go_at_call 60; refine (HS.out _ (by repeat (first | exact Tn.refl _ _ | apply Tn.drew | apply Tn.drewN | apply Tn.alloc | (refine Tn.then ?_ (by assumption)) | (refine Tn.thenNo ?_ (by assumption))))).mono ?_; rintro e w2 ⟨rfl, hl2⟩))
    go_ret
    exact HE.out _ _ (by repeat (first | exact Tn.refl _ _ | apply Tn.drew | apply Tn.drewN | apply Tn.alloc | (refine Tn.then ?_ (by assumption)) | (refine Tn.thenNo ?_ (by assumption)))) hl2
  · have hsay := fun u (t : Tn No w u) => rsay_raw u q L N S (h.no t) 2 noName s hN
    have hend : ∀ u u', Tn No w u → RLft u q L u' (N + s.size + 1) (S.say 2 noName s.data.toList) → RWritePost w q L N S fd s (.returned (.int .i64 (s.size : Int))) u' := fun u u' t hl => by
      refine ⟨by unfold writeRes; rw [if_pos (.inr (.inl hk))], ?_⟩
      unfold St.write
      rw [if_neg (by rw [hk]; omega), if_pos hk]
      obtain ⟨L', a, b, c⟩ := hl.mono (N' := N + 2 * s.size + 2) (by omega)
      exact ⟨L', a, t.any.trans b (fun _ _ e => e) (fun _ _ e => e), fun k hk' e => c k (Nat.lt_of_lt_of_le hk' t.size) e⟩
    have HS := hid hsay
    have HE := hid hend
    rw [hk] at HK
    clear hsay hend h hk h0 h1
    unfold noName at HS HE
    go_enter Try.func37, Try.ntmps37
    go_wp2_with (first
      | (go_at_call 59; refine HK.out.mono ?_; rintro e w1 ⟨rfl, rfl⟩)
      | (go_at_call 60; refine (HS.out _ (by repeat (first | exact Tn.refl _ _ | apply Tn.drew | apply Tn.drewN | apply Tn.alloc | (refine Tn.then ?_ (by assumption)) | (refine Tn.thenNo ?_ (by assumption))))).mono ?_; rintro e w2 ⟨rfl, hl2⟩))
    go_ret
    exact HE.out _ _ (by repeat (first | exact Tn.refl _ _ | apply Tn.drew | apply Tn.drewN | apply Tn.alloc | (refine Tn.then ?_ (by assumption)) | (refine Tn.thenNo ?_ (by assumption)))) hl2

set_option maxHeartbeats 1000000 in
set_option maxRecDepth 100000 in
theorem rwrite_no (w : World) (q : Nat) (L : Nat → Option Lab) (N : Nat) (S : St) (h : PR w q L N S) (fd : Int) (s : ByteArray) (h0 : -9223372036854775808 ≤ fd) (h1 : fd ≤ 9223372036854775807) (h2 : ¬ (S.at fd).kind = 2) (h3 : ¬ (S.at fd).kind = 3) (h5 : ¬ (S.at fd).kind = 5) :
    Calls Try.prog 37 #[.pointer (some ⟨q, 0, none⟩), .int .i64 fd, .string s] w (RWritePost w q L N S fd s) := by
  have HK := hid (kind_raw w q L N S h fd h0 h1)
  have hend : ∀ u, Tn No w u → RWritePost w q L N S fd s (.returned (.int .i64 (-9))) u := fun u t => by
    refine ⟨by unfold writeRes; rw [if_neg (by simp [h2, h3, h5])], ?_⟩
    unfold St.write
    rw [if_neg h2, if_neg h3, if_neg h5]
    exact (h.same t).mono (by omega)
  have HE := hid hend
  obtain ⟨k, hkk⟩ : ∃ k, (S.at fd).kind = k := ⟨_, rfl⟩
  rw [hkk] at HK h2 h3 h5
  have d2 : (k == 2) = false := by simpa using h2
  have d3 : (k == 3) = false := by simpa using h3
  have d5 : (k == 5) = false := by simpa using h5
  clear hend hkk h h2 h3 h5 h0 h1
  go_enter Try.func37, Try.ntmps37
  go_wp2_with (go_at_call 59; refine HK.out.mono ?_; rintro e w1 ⟨rfl, rfl⟩)
  go_ret
  exact HE.out _ (by repeat (first | exact Tn.refl _ _ | apply Tn.drew | apply Tn.drewN | apply Tn.alloc | (refine Tn.then ?_ (by assumption)) | (refine Tn.thenNo ?_ (by assumption))))
end Go.Proofs.Ytkbdgdcicflocaa
namespace Go.Proofs.Ytkbdgdcicflocaa
set_option linter.unusedSimpArgs false
set_option linter.unusedVariables false
open Go.RowKit
attribute [local go_sem ↓] Go.wp_at_zero Go.wp_at_succ

theorem findAt_has {fl : List (ByteArray × List UInt8)} {S : St} (h : S.fs = fsOf fl) (nm : ByteArray) : (findAt fl nm < 0) ↔ S.has nm = false := by
  unfold St.has findAt
  rw [h]
  unfold fsOf
  rw [Option.isSome_map]
  have e : ∀ f : ByteArray × List UInt8, decide (f.1.data.toList = nm.data.toList) = decide (f.1 = nm) := fun f => by
    apply decide_eq_decide.2
    constructor
    · intro h; exact ByteArray.ext (Array.ext' h)
    · intro h; rw [h]
  simp only [e]
  cases hh : fl.findIdx? (fun f => decide (f.1 = nm)) with
  | none =>
    rw [List.findIdx?_eq_none_iff] at hh
    simp only []
    have : fl.find? (fun f => decide (f.1 = nm)) = none := by
      rw [List.find?_eq_none]
      intro x hx
      rw [hh x hx]
      simp
    rw [this]
    simp
  | some i =>
    rw [List.findIdx?_eq_some_iff_getElem] at hh
    obtain ⟨hi, h1, _⟩ := hh
    have : (fl.find? (fun f => decide (f.1 = nm))).isSome = true := by
      rw [List.find?_isSome]
      exact ⟨fl[i], List.getElem_mem _, h1⟩
    rw [this]
    simp

def ROpenPost (w : World) (q : Nat) (L : Nat → Option Lab) (N : Nat) (S : St) (nm : ByteArray) (fl : Int) (e : Ending) (w' : World) : Prop :=
  e = .returned (.int .i64 (openRes S nm fl)) ∧ RLft w q L w' (N + 2) (openSt S nm fl)

end Go.Proofs.Ytkbdgdcicflocaa
