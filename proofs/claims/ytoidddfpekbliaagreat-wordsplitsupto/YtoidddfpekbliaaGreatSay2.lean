/-
  say: the walk.
-/
import Derived.Test.YtoidddfpekbliaaGreatWJ04
import Derived.Deep.CutRange
import Derived.Deep.RegionLaw
import Derived.Deep.DeepCutAuto
namespace Go.Proofs.YtoidddfpekbliaaGreat
set_option linter.unusedSimpArgs false
set_option linter.unusedVariables false
open Go.RowKit
attribute [local go_sem ↓] Go.wp_at_zero Go.wp_at_succ

def St.say (S : St) (k : Int) (nm : ByteArray) (t : List UInt8) : St :=
  if t = [] then S else match S.tr.getLast? with
    | some e => if e.kind = k ∧ e.name = nm then S.addTx (S.tr.length - 1) t else (S.addEv ⟨k, nm, []⟩).addTx S.tr.length t
    | none => (S.addEv ⟨k, nm, []⟩).addTx S.tr.length t

/-- a text's append, as a step of a region that draws -/
theorem step_addTx {ops : Array Oper} {o : Oper} {a : Act} {w : World} {K : Act → World → Prop} {Q : Exit → Act → World → Prop} {E : Prop} (hg : o.guard = none) (sx xx : Operand) (hop : o.op = .call { callee := .builtin .append, args := #[sx, xx], argTypes := #[23, 9] }) (hty : o.type = 23)
    (p : Nat) (L : Nat → Option Lab) (N : Nat) (S : St) (c : Nat → Value) (mo : Option Nat) (iv tv : Value) (vs : Nat → Value) (h : PX w p L N S c mo iv tv vs) (i : Nat) (hi : i < S.tr.length) (s : ByteArray) (hN : N + s.size ≤ 1099511627776) (hs : a.eval sx = vs i) (hx : a.eval xx = .string s) (g n cap : Nat) (htv : tv = .slice (some ⟨g, 0, none⟩) n cap)
    (hK : ∀ a' n' cp' w', w'.cell? ⟨g, i * 3 + 2, none⟩ = some (vs i) → w'.frozen? ⟨g, i * 3 + 2, none⟩ = false → w'.cell? ⟨p, 60, none⟩ = some tv → g < w'.heap.size → p < w'.heap.size →
      Lft w p L (w'.setCell ⟨g, i * 3 + 2, none⟩ (.slice a' n' cp')) (N + s.size) (S.addTx i s.data.toList) → K (a.put o.dst (.slice a' n' cp')) w') :
    if Region.wanted o (yielded ops a.tmps) = true then Oper.wp Tryz.prog o a w K Q else E := by
  have hw : Region.wanted o (yielded ops a.tmps) = true := by simp [Region.wanted, hg]
  rw [if_pos hw]
  obtain ⟨g2, cap2, v', w', htv2, _, _, hg', hr, ⟨a', n', cp', rfl⟩, hc, hc', hf', hc60, hl1, hl2, L', hpx, ht, hll⟩ := h.addTx i hi s hN
  obtain rfl : g2 = g := by
    rw [htv] at htv2
    simp only [Value.slice.injEq, Option.some.injEq, Addr.mk.injEq] at htv2
    exact htv2.1.1.symm
  rw [Nat.mul_comm 3 i] at hc hc' hf' hpx ht
  have hk := hK a' n' cp' w' hc' hf' hc60 hl1 hl2 ⟨L', ⟨_, _, _, _, _, hpx⟩, ht, hll⟩
  unfold Oper.wp
  simp [execOp, hop, hty, resolve, invoke, builtin, hs, hx, hr, Result.andThen]
  exact hk

def SayPost (w : World) (p : Nat) (L : Nat → Option Lab) (N : Nat) (S : St) (k : Int) (nm s : ByteArray) (e : Ending) (w' : World) : Prop :=
  e = .returned (.tuple #[]) ∧ Lft w p L w' (N + s.size + 1) (S.say k nm s.data.toList)

set_option maxHeartbeats 1000000 in
set_option maxRecDepth 100000 in
theorem say_nil (p : Nat) (L : Nat → Option Lab) (N : Nat) (S : St) (k : Int) (nm s : ByteArray) (w : World) (h : PW w p L N S) (hs : s.size = 0) :
    Calls Tryz.prog 168 #[.pointer (some ⟨p, 0, none⟩), .int .i64 k, .string nm, .string s] w (SayPost w p L N S k nm s) := by
  have he : s.toList.isEmpty = true := by rw [toList_isEmpty]; simpa using hs
  have hd : s.data.toList = [] := by rw [← ByteArray.toList_eq]; exact (toList_nil s).2 hs
  have hend : SayPost w p L N S k nm s (.returned (.tuple #[])) w := ⟨rfl, by unfold St.say; rw [if_pos hd]; exact (h.same (Tn.refl _ _)).mono (by omega)⟩
  have HE := hid hend
  clear h hs hd hend
  go_enter Tryz.func168, Tryz.ntmps168
  go_wp2
  go_end0
  exact HE.out

set_option maxHeartbeats 2000000 in
set_option maxRecDepth 100000 in
theorem say_on (p : Nat) (L : Nat → Option Lab) (N : Nat) (S : St) (s : ByteArray) (i : Nat) (e : Ev) (w : World) (h : PW w p L N S) (hs : ¬ s.size = 0) (hN : N + s.size ≤ 1099511627776) (hl : S.tr.length = i + 1) (he : S.tr[i]? = some e) :
    Calls Tryz.prog 168 #[.pointer (some ⟨p, 0, none⟩), .int .i64 e.kind, .string e.name, .string s] w (SayPost w p L N S e.kind e.name s) := by
  have hem : s.toList.isEmpty = false := by rw [toList_isEmpty]; simpa using hs
  have hd : ¬ s.data.toList = [] := by rw [← ByteArray.toList_eq, toList_nil]; exact hs
  have hsay : S.say e.kind e.name s.data.toList = S.addTx i s.data.toList := by
    unfold St.say
    have : S.tr.getLast? = some e := by rw [List.getLast?_eq_getElem?, hl]; exact he
    rw [if_neg hd, this]
    simp [hl]
  obtain ⟨c, mo, iv, tv, vs, hx⟩ := h
  obtain ⟨g, cap, htv, hg, hlc, hcm, hfz⟩ := hx.ew.rw.pos (by omega)
  obtain ⟨e0, e1, e2, _⟩ := hx.ew.ev i e he
  have k60 := hx.sc.cell 60 (by omega)
  rw [hx.c60, htv, hl] at k60
  rw [htv] at e0 e1 e2
  rw [Nat.mul_comm 3 i] at e0 e1 e2
  have q0 : w.cell? ⟨g, i * 3, none⟩ = some (.int .i64 e.kind) := e0
  have q1 : w.cell? ⟨g, i * 3 + 1, none⟩ = some (.string e.name) := e1
  have q2 : w.cell? ⟨g, i * 3 + 2, none⟩ = some (vs i) := e2
  have plt := hx.sc.lt
  have HS := hid hsay
  have HX := hid hx
  have HT := hid htv
  have HL := hid hl
  rw [hl] at hlc
  have hi63 : (i : Int) + 1 ≤ 9223372036854775807 := by omega
  have hb1 : (0 : Int) ≤ (i : Int) := by omega
  have hdn : decide ((i : Int) < 0) = false := by simp
  have hkk : (e.kind != e.kind) = false := by simp
  have hb2 : (i : Int) < (i : Int) + 1 := by omega
  have HN := hid hN
  clear hs hd hsay e0 e1 e2 hx htv hl he hfz hN hcm hlc
  go_enter Tryz.func168, Tryz.ntmps168
  go_upto_region 2 with fail
  clear hi63
  go_upto_region 5 with fail
  go_region_law (refine step_addTx rfl _ _ rfl rfl p L N S c mo iv tv vs (HX.out.no (by repeat (first | exact Tn.refl _ _ | apply Tn.drew | apply Tn.drewN | apply Tn.alloc | (refine Tn.then ?_ (by assumption)) | (refine Tn.thenNo ?_ (by assumption))))) i (by have := HL.out; omega) s HN.out rfl rfl g _ cap HT.out ?_; intro a2 n2 cp2 w2 k1 k2 k3 k4 k5 hend; rw [HT.out, HL.out] at k3)
  all_goals go_wp2
  all_goals go_end0
  all_goals exact ⟨rfl, by rw [HS.out]; exact (hend.trans (by repeat (first | exact Tn.refl _ _ | apply Tn.drew | apply Tn.drewN | apply Tn.alloc | (refine Tn.then ?_ (by assumption)) | (refine Tn.thenNo ?_ (by assumption)))) (fun _ _ e => e)).mono (by omega)⟩

theorem PX.addEv2 {w : World} {p : Nat} {L : Nat → Option Lab} {N : Nat} {S : St} {c : Nat → Value} {mo : Option Nat} {iv tv : Value} {vs : Nat → Value} (h : PX w p L N S c mo iv tv vs) (hN : N + 1 ≤ 1099511627776) (k : Int) (s : ByteArray) :
    ∃ g' cap' w', (Builtin.append_ #[94, 94] 94 #[tv, .slice (some ⟨w.heap.size, 0, none⟩) 1 1]).run Tryz.prog (w.alloc (.cells #[.int .i64 k, .string s, .slice none 0 0] 141)) = .ok (.slice (some ⟨g', 0, none⟩) (S.tr.length + 1) cap') w' ∧
      w'.cell? ⟨p, 60, none⟩ = some tv ∧ w'.frozen? ⟨p, 60, none⟩ = false ∧ p < w'.heap.size ∧ ¬ g' = p ∧ g' < w'.heap.size ∧ w'.cell? ⟨g', S.tr.length * 3 + 2, none⟩ = some (.slice none 0 0) ∧
      ∃ L', PX (w'.setCell ⟨p, 60, none⟩ (.slice (some ⟨g', 0, none⟩) (S.tr.length + 1) cap')) p L' (N + 1) (S.addEv ⟨k, s, []⟩) (upd c 60 (.slice (some ⟨g', 0, none⟩) (S.tr.length + 1) cap')) mo iv (.slice (some ⟨g', 0, none⟩) (S.tr.length + 1) cap') (upd vs S.tr.length nilV) ∧ Tn (fun k => L k ≠ none) w (w'.setCell ⟨p, 60, none⟩ (.slice (some ⟨g', 0, none⟩) (S.tr.length + 1) cap')) ∧ (∀ k, k < w.heap.size → L k = none → L' k = none) := by
  obtain ⟨v', w', hr, hc, hfz, hlt, L', hpx, ht', hl'⟩ := h.addEv hN k s
  have hlen : (S.addEv ⟨k, s, []⟩).tr.length = S.tr.length + 1 := by simp [St.addEv]
  obtain ⟨g', cap', hv, hg', _⟩ := hpx.ew.rw.pos (by omega)
  rw [hlen] at hv
  subst hv
  have hne : ¬ g' = p := by
    rintro rfl
    have := hpx.ew.lab g' rfl
    rw [hpx.labs] at this
    cases this
  have he := (hpx.ew.ev S.tr.length ⟨k, s, []⟩ (by simp [St.addEv])).2.2.1
  rw [upd_same, Nat.mul_comm] at he
  have he' : (w'.setCell ⟨p, 60, none⟩ (.slice (some ⟨g', 0, none⟩) (S.tr.length + 1) cap')).cell? ⟨g', S.tr.length * 3 + 2, none⟩ = some (.slice none 0 0) := he
  rw [World.cell?_setCell_other _ _ _ _ (fun e => hne (congrArg Addr.block e).symm)] at he'
  exact ⟨g', cap', w', hr, hc, hfz, hlt, hne, by simpa using hg', he', L', hpx, ht', hl'⟩

set_option maxHeartbeats 4000000 in
set_option maxRecDepth 100000 in
theorem say_new (p : Nat) (L : Nat → Option Lab) (N : Nat) (S : St) (k : Int) (nm s : ByteArray) (w : World) (h : PW w p L N S) (hs : ¬ s.size = 0) (hN : N + s.size + 1 ≤ 1099511627776)
    (hl : S.tr.length = 0 ∨ ∃ i e, S.tr.length = i + 1 ∧ S.tr[i]? = some e ∧ ¬ (e.kind = k ∧ e.name = nm)) :
    Calls Tryz.prog 168 #[.pointer (some ⟨p, 0, none⟩), .int .i64 k, .string nm, .string s] w (SayPost w p L N S k nm s) := by
  have hem : s.toList.isEmpty = false := by rw [toList_isEmpty]; simpa using hs
  have hd : ¬ s.data.toList = [] := by rw [← ByteArray.toList_eq, toList_nil]; exact hs
  have hsay : S.say k nm s.data.toList = (S.addEv ⟨k, nm, []⟩).addTx S.tr.length s.data.toList := by
    unfold St.say
    rw [if_neg hd]
    rcases hl with hl | ⟨i, e, hl, he, hne⟩
    · rw [List.length_eq_zero_iff.1 hl]; rfl
    · have : S.tr.getLast? = some e := by rw [List.getLast?_eq_getElem?, hl]; exact he
      rw [this]
      simp only [if_neg hne]
  obtain ⟨c, mo, iv, tv, vs, hx⟩ := h
  obtain ⟨g', cap', w4, hr, k61, f61, p61, hne, hg4, q4, L', hpx, ht, hll⟩ := hx.addEv2 (by omega) k nm
  obtain ⟨a, cap, htv, hlc, hcm, hnil, hsome⟩ := hx.ew.rw.form
  have htr := hx.ew.len
  have hfin : ∀ u u', Tn No (w4.setCell ⟨p, 60, none⟩ (.slice (some ⟨g', 0, none⟩) (S.tr.length + 1) cap')) u → Lft u p L' u' (N + 1 + s.size) ((S.addEv ⟨k, nm, []⟩).addTx S.tr.length s.data.toList) → SayPost w p L N S k nm s (.returned (.tuple #[])) u' := fun u u' t hl => by
    refine ⟨rfl, ?_⟩
    rw [hsay]
    exact (hl.trans (L := L) (ht.thenNo t) hll).mono (by omega)
  have HF := hid hfin
  have HPX := hid hpx
  have HR := hid hr
  have HTV := hid htv
  have HN := hid hN
  have HXX := hid hx
  have k60 := hx.sc.cell 60 (by omega)
  rw [hx.c60] at k60
  have plt := hx.sc.lt
  have hlen1 : (S.addEv ⟨k, nm, []⟩).tr.length = S.tr.length + 1 := by simp [St.addEv]
  have HLEN := hid hlen1
  obtain ⟨n, hn⟩ : ∃ n, S.tr.length = n := ⟨_, rfl⟩
  have hn63 : (n : Int) + 1 ≤ 9223372036854775807 := by omega
  have hb1 : (0 : Int) ≤ (n : Int) := by omega
  have hb2 : (n : Int) < (n : Int) + 1 := by omega
  rw [htv] at k60 k61 HR
  have kA : (w4.setCell ⟨p, 60, none⟩ (.slice (some ⟨g', 0, none⟩) (S.tr.length + 1) cap')).cell? ⟨p, 60, none⟩ = some (.slice (some ⟨g', 0, none⟩) (S.tr.length + 1) cap') := World.cell?_setCell_same _ _ _ k61
  have kB : (w4.setCell ⟨p, 60, none⟩ (.slice (some ⟨g', 0, none⟩) (S.tr.length + 1) cap')).cell? ⟨g', S.tr.length * 3 + 2, none⟩ = some (.slice none 0 0) := by
    rw [World.cell?_setCell_other _ _ _ _ (fun e => hne (congrArg Addr.block e).symm)]; exact q4
  have kC : g' < (w4.setCell ⟨p, 60, none⟩ (.slice (some ⟨g', 0, none⟩) (S.tr.length + 1) cap')).heap.size := by simpa using hg4
  have kD : p < (w4.setCell ⟨p, 60, none⟩ (.slice (some ⟨g', 0, none⟩) (S.tr.length + 1) cap')).heap.size := by simpa using p61
  rw [hn] at k60 k61 q4 HF HPX HR hl HLEN kA kB kC kD
  have HHN := hid hn
  clear hs hd hsay hx hpx ht hr htr hfin hlen1 hN hll hcm hn
  rcases hl with hl | ⟨i, e, hl, he, hno⟩
  · subst hl
    simp only [Nat.zero_add, Nat.zero_mul] at kA kB kC kD HPX HF HR HLEN q4
    go_enter Tryz.func168, Tryz.ntmps168
    go_upto_region 5 with (at_builtin; refine wpList_app _ rfl _ _ _ _ rfl _ _ rfl rfl _ w4 HR.out ?_)
    generalize w4.setCell ⟨p, 60, none⟩ (.slice (some ⟨g', 0, none⟩) 1 cap') = w3 at kA kB kC kD HPX HF ⊢
    go_region_law (refine step_addTx rfl _ _ rfl rfl p L' (N + 1) _ _ mo iv _ (upd vs 0 nilV) (HPX.out.no (by repeat (first | exact Tn.refl _ _ | apply Tn.drew | apply Tn.drewN | apply Tn.alloc | (refine Tn.then ?_ (by assumption)) | (refine Tn.thenNo ?_ (by assumption))))) 0 (by have := HLEN.out; omega) s (by have := HN.out; omega) (by rw [upd_same]; rfl) rfl g' _ cap' rfl ?_; intro a2 n2 cp2 w2 m1 m2 m3 m4 m5 hend; rw [Nat.zero_mul, Nat.zero_add] at m1 m2 hend; rw [upd_same] at m1; clear q4 k60 k61 kA kB kC kD f61 p61 hg4)
    all_goals go_wp2
    all_goals go_end0
    all_goals exact HF.out _ _ (by repeat (first | exact Tn.refl _ _ | apply Tn.drew | apply Tn.drewN | apply Tn.alloc | (refine Tn.then ?_ (by assumption)) | (refine Tn.thenNo ?_ (by assumption)))) hend
  · subst hl
    cases a with
    | none => have := (hnil rfl).1; have := HHN.out; omega
    | some x =>
    obtain ⟨hxe, hxl⟩ := hsome x rfl
    obtain ⟨g, o, sp⟩ := x
    cases hxe
    obtain ⟨e0, e1, _⟩ := HXX.out.ew.ev i e he
    rw [HTV.out] at e0 e1
    rw [Nat.mul_comm 3 i] at e0 e1
    have q0 : w.cell? ⟨g, i * 3, none⟩ = some (.int .i64 e.kind) := e0
    have q1 : w.cell? ⟨g, i * 3 + 1, none⟩ = some (.string e.name) := e1
    have ec : ((i + 1 : Nat) : Int) = (i : Int) + 1 := by omega
    rw [ec] at hn63 hb1 hb2
    have hdn : decide ((i : Int) < 0) = false := by simp
    have hb3 : (0 : Int) ≤ (i : Int) := by omega
    have hb4 : (i : Int) < (i : Int) + 1 := by omega
    clear e0 e1 hnil hsome htv hlc he ec
    by_cases hk : e.kind = k
    · have hkn : ¬ e.name = nm := fun h => hno ⟨hk, h⟩
      have hd1 : (e.kind != k) = false := by simpa using hk
      have hd2 : (e.name.toList == nm.toList) = false := by
        rw [beq_eq_false_iff_ne]
        intro h
        rw [ByteArray.toList_eq, ByteArray.toList_eq] at h
        exact hkn (ByteArray.ext (Array.toList_inj.1 h))
      clear hno hk hkn
      go_enter Tryz.func168, Tryz.ntmps168
      go_upto_region 5 with (at_builtin; refine wpList_app _ rfl _ _ _ _ rfl _ _ rfl rfl _ w4 HR.out ?_)
      generalize w4.setCell ⟨p, 60, none⟩ (.slice (some ⟨g', 0, none⟩) (i + 1 + 1) cap') = w3 at kA kB kC kD HPX HF ⊢
      clear q4 k60 k61 f61 p61 hg4 q0 q1
      go_region_law (refine step_addTx rfl _ _ rfl rfl p L' (N + 1) _ _ mo iv _ (upd vs (i + 1) nilV) (HPX.out.no (by repeat (first | exact Tn.refl _ _ | apply Tn.drew | apply Tn.drewN | apply Tn.alloc | (refine Tn.then ?_ (by assumption)) | (refine Tn.thenNo ?_ (by assumption))))) (i + 1) (by have := HLEN.out; omega) s (by have := HN.out; omega) (by rw [upd_same]; rfl) rfl g' _ cap' rfl ?_; intro a2 n2 cp2 w2 m1 m2 m3 m4 m5 hend; rw [upd_same] at m1; clear kA kB kC kD)
      all_goals go_wp2
      all_goals go_end0
      all_goals exact HF.out _ _ (by repeat (first | exact Tn.refl _ _ | apply Tn.drew | apply Tn.drewN | apply Tn.alloc | (refine Tn.then ?_ (by assumption)) | (refine Tn.thenNo ?_ (by assumption)))) hend
    · have hd1 : (e.kind != k) = true := by simpa using hk
      clear hno hk
      go_enter Tryz.func168, Tryz.ntmps168
      go_upto_region 5 with (at_builtin; refine wpList_app _ rfl _ _ _ _ rfl _ _ rfl rfl _ w4 HR.out ?_)
      generalize w4.setCell ⟨p, 60, none⟩ (.slice (some ⟨g', 0, none⟩) (i + 1 + 1) cap') = w3 at kA kB kC kD HPX HF ⊢
      clear q4 k60 k61 f61 p61 hg4 q0 q1
      go_region_law (refine step_addTx rfl _ _ rfl rfl p L' (N + 1) _ _ mo iv _ (upd vs (i + 1) nilV) (HPX.out.no (by repeat (first | exact Tn.refl _ _ | apply Tn.drew | apply Tn.drewN | apply Tn.alloc | (refine Tn.then ?_ (by assumption)) | (refine Tn.thenNo ?_ (by assumption))))) (i + 1) (by have := HLEN.out; omega) s (by have := HN.out; omega) (by rw [upd_same]; rfl) rfl g' _ cap' rfl ?_; intro a2 n2 cp2 w2 m1 m2 m3 m4 m5 hend; rw [upd_same] at m1; clear kA kB kC kD)
      all_goals go_wp2
      all_goals go_end0
      all_goals exact HF.out _ _ (by repeat (first | exact Tn.refl _ _ | apply Tn.drew | apply Tn.drewN | apply Tn.alloc | (refine Tn.then ?_ (by assumption)) | (refine Tn.thenNo ?_ (by assumption)))) hend

theorem say_raw (p : Nat) (L : Nat → Option Lab) (N : Nat) (S : St) (k : Int) (nm s : ByteArray) (w : World) (h : PW w p L N S) (hN : N + s.size + 1 ≤ 1099511627776) :
    Calls Tryz.prog 168 #[.pointer (some ⟨p, 0, none⟩), .int .i64 k, .string nm, .string s] w (SayPost w p L N S k nm s) := by
  by_cases hs : s.size = 0
  · exact say_nil p L N S k nm s w h hs
  rcases Nat.eq_zero_or_pos S.tr.length with hl | hl
  · exact say_new p L N S k nm s w h hs hN (.inl hl)
  · obtain ⟨i, hi⟩ : ∃ i, S.tr.length = i + 1 := ⟨S.tr.length - 1, by omega⟩
    obtain ⟨e, he⟩ : ∃ e, S.tr[i]? = some e := ⟨_, List.getElem?_eq_getElem (by omega)⟩
    by_cases hk : e.kind = k ∧ e.name = nm
    · obtain ⟨rfl, rfl⟩ := hk
      exact say_on p L N S s i e w h hs (by omega) hi he
    · exact say_new p L N S k nm s w h hs hN (.inr ⟨i, e, hi, he, hk⟩)
end Go.Proofs.YtoidddfpekbliaaGreat
