/-
  SysClose, SysOpen.
-/
import Derived.Test.YtkbdgdcicflocaaActs
namespace Go.Proofs.Ytkbdgdcicflocaa
set_option linter.unusedSimpArgs false
set_option linter.unusedVariables false
open Go.RowKit
attribute [local go_sem ↓] Go.wp_at_zero Go.wp_at_succ

/-- append, at the operation -/
theorem wpList_app (w : World) {ops : Array Oper} {rest : List Oper} {o : Oper} {a : Act} {Q : Exit → Act → World → Prop} (hg : o.guard = none) (s x : Operand) (t tx : TypeId) (ho : o.op = .call { callee := .builtin .append, args := #[s, x], argTypes := #[t, tx] })
    (v xv : Value) (hs : a.eval s = v) (hx : a.eval x = xv) (v' : Value) (w' : World) (hrun : (Builtin.append_ #[t, tx] o.type #[v, xv]).run Try.prog w = .ok v' w')
    (hK : wpList Try.prog ops Q rest (a.put o.dst v') w') : wpList Try.prog ops Q (o :: rest) a w := by
  refine wpList_plain hg fun K' hK' => ?_
  unfold Oper.wp
  simp [execOp, ho, resolve, invoke, builtin, hs, hx, hrun, Result.andThen]
  exact hK' _ _ hK

/-- three cells of a descriptor are written -/
def set3 (w : World) (p i : Nat) (d : De) : World := ((w.setCell ⟨p, 3 + i * 3, none⟩ (.int .i64 d.kind)).setCell ⟨p, 3 + i * 3 + 1, none⟩ (.string d.name)).setCell ⟨p, 3 + i * 3 + 2, none⟩ (.int .i64 (d.place : Int))
def St.setDe (S : St) (i : Nat) (d : De) : St := { S with ds := upd S.ds i d }

theorem PX.setDe {w : World} {p : Nat} {L : Nat → Option Lab} {N : Nat} {S : St} {c : Nat → Value} {mo : Option Nat} {iv tv : Value} {vs : Nat → Value} (h : PX w p L N S c mo iv tv vs) (i : Nat) (hi : i < 19) (d : De) (hd : d.place ≤ N) (hn : d.name.size ≤ 255) :
    ∃ c', PX (set3 w p i d) p L N (S.setDe i d) c' mo iv tv vs := by
  have hk : ∀ k, L k ≠ some .st → (set3 w p i d).heap[k]? = w.heap[k]? := fun k hk => by
    have : k ≠ p := by rintro rfl; exact hk h.labs
    unfold set3
    rw [Below.heap_setCell _ _ _ _ this, Below.heap_setCell _ _ _ _ this, Below.heap_setCell _ _ _ _ this]
  have hsz : (set3 w p i d).heap.size = w.heap.size := by simp [set3]
  refine ⟨upd (upd (upd c (3 + i * 3) (.int .i64 d.kind)) (3 + i * 3 + 1) (.string d.name)) (3 + i * 3 + 2) (.int .i64 (d.place : Int)), ?_⟩
  refine { sc := ((h.sc.set _ (by omega) _).set _ (by omega) _).set _ (by omega) _, c0 := ?_, c1 := ?_, c2 := ?_, c60 := ?_, cd := fun j hj => ?_, pl := fun j hj => ?_, labs := h.labs, lt := fun k hk => by rw [hsz]; exact h.lt k hk, fm := h.fm.kept2 (fun k hl => hk k ?_), inp := h.inp.kept (fun g hg => hk g (by rw [h.labi g hg]; simp)), labi := h.labi, rd := h.rd, ew := h.ew.kept2 (fun k hl => hk k ?_) }
  · rw [upd_other _ _ (by omega), upd_other _ _ (by omega), upd_other _ _ (by omega)]; exact h.c0
  · rw [upd_other _ _ (by omega), upd_other _ _ (by omega), upd_other _ _ (by omega)]; exact h.c1
  · rw [upd_other _ _ (by omega), upd_other _ _ (by omega), upd_other _ _ (by omega)]; exact h.c2
  · rw [upd_other _ _ (by omega), upd_other _ _ (by omega), upd_other _ _ (by omega)]; exact h.c60
  · by_cases e : j = i
    · subst e
      simp only [St.setDe, upd_same]
      refine ⟨?_, ?_, trivial⟩
      · rw [upd_other _ _ (by omega), upd_other _ _ (by omega), upd_same]
      · rw [upd_other _ _ (by omega), upd_same]
    · simp only [St.setDe, upd_other _ _ e]
      have := h.cd j hj
      refine ⟨?_, ?_, ?_⟩
      · rw [upd_other _ _ (by omega), upd_other _ _ (by omega), upd_other _ _ (by omega)]; exact this.1
      · rw [upd_other _ _ (by omega), upd_other _ _ (by omega), upd_other _ _ (by omega)]; exact this.2.1
      · rw [upd_other _ _ (by omega), upd_other _ _ (by omega), upd_other _ _ (by omega)]; exact this.2.2
  · by_cases e : j = i
    · subst e; simp only [St.setDe, upd_same]; exact ⟨hd, hn⟩
    · simp only [St.setDe, upd_other _ _ e]; exact h.pl j hj
  · rcases hl with hl | ⟨n, hl⟩ <;> (rw [hl]; simp)
  · rcases hl with hl | ⟨n, hl⟩ <;> (rw [hl]; simp)
theorem set3_tn {w a : World} {p : Nat} {L : Nat → Option Lab} (t : Tn (fun k => L k ≠ none) a w) (hp : L p = some .st) (i : Nat) (d : De) : Tn (fun k => L k ≠ none) a (set3 w p i d) := ((t.own hp _ _).own hp _ _).own hp _ _

theorem fld0 (a b c : Value) (w : World) : (Instr.field 67 (.agg #[a, b, c]) 0).run Try.prog w = .ok a w := by kernel_rfl

/-! ### SysClose -/
def St.close (S : St) (fd : Int) : St := if (S.at fd).kind = 0 then S else S.setDe fd.toNat noDe
def closeRes (S : St) (fd : Int) : Int := if (S.at fd).kind = 0 then -9 else 0

set_option maxHeartbeats 1000000 in
set_option maxRecDepth 100000 in
theorem close_raw (p : Nat) (L : Nat → Option Lab) (N : Nat) (S : St) (fd : Int) (w : World) (h : PW w p L N S) (h0 : -9223372036854775808 ≤ fd) (h1 : fd ≤ 9223372036854775807) :
    Calls Try.prog 23 #[.pointer (some ⟨p, 0, none⟩), .int .i64 fd] w fun e w' => e = .returned (.int .i64 (closeRes S fd)) ∧ Lft w p L w' N (S.close fd) := by
  have hat := fun u t => at_raw p L N S fd u (h.no t) h0 h1
  have HAT : Hid (∀ u, Tn No w u → Calls Try.prog 50 #[.pointer (some ⟨p, 0, none⟩), .int .i64 fd] u fun e w' => e = .returned (dv (S.at fd)) ∧ Tn No u w') := hat
  have HP := hid h
  clear hat
  have hfl := fld0
  by_cases hk : (S.at fd).kind = 0
  · have hd : ((S.at fd).kind == 0) = true := by simpa using hk
    have HK := hid hk
    clear hk h
    unfold dv at HAT
    go_enter Try.func23, Try.ntmps23
    go_wp2_with (go_at_call 50; refine (HAT.out _ (by repeat (first | exact Tn.refl _ _ | apply Tn.drew | apply Tn.drewN | apply Tn.alloc | (refine Tn.then ?_ (by assumption)) | (refine Tn.thenNo ?_ (by assumption))))).mono ?_; rintro e w1 ⟨rfl, ht1⟩)
    go_ret
    refine ⟨ret_int ?_, ?_⟩
    · unfold closeRes; rw [if_pos HK.out]
    · unfold St.close; rw [if_pos HK.out]; exact HP.out.same ht1
  · have hd : ((S.at fd).kind == 0) = false := by simpa using hk
    have hr : 0 ≤ fd ∧ fd < 19 := by
      rcases Classical.em (0 ≤ fd ∧ fd < 19) with h | h
      · exact h
      · exfalso; apply hk; unfold St.at; rw [if_neg h]; rfl
    have HK := hid hk
    obtain ⟨hr0, hr1⟩ := hr
    obtain ⟨i, rfl⟩ : ∃ i : Nat, fd = (i : Int) := ⟨fd.toNat, by omega⟩
    have hi : i < 19 := by omega
    clear hk h h0 h1
    unfold dv at HAT
    have hcells : ∀ u, Tn No w u → u.cell? ⟨p, 3 + i * 3, none⟩ = some (.int .i64 (S.ds i).kind) ∧ u.cell? ⟨p, 3 + i * 3 + 1, none⟩ = some (.string (S.ds i).name) ∧ u.cell? ⟨p, 3 + i * 3 + 2, none⟩ = some (.int .i64 ((S.ds i).place : Int)) ∧ (∀ j, u.frozen? ⟨p, j, none⟩ = false) ∧ p < u.heap.size := fun u t => by
      obtain ⟨c, mo, iv, tv, vs, hx⟩ := HP.out
      have hu := hx.no t
      obtain ⟨a, b, c⟩ := hu.de i hi
      exact ⟨a, b, c, hu.sc.froz, hu.sc.lt⟩
    have HC := hid hcells
    clear hcells
    go_enter Try.func23, Try.ntmps23
    go_wp2_with (go_at_call 50; refine (HAT.out _ (by repeat (first | exact Tn.refl _ _ | apply Tn.drew | apply Tn.drewN | apply Tn.alloc | (refine Tn.then ?_ (by assumption)) | (refine Tn.thenNo ?_ (by assumption))))).mono ?_; rintro e w1 ⟨rfl, ht1⟩; obtain ⟨c0, c1, c2, cf, cl⟩ := HC.out w1 (by repeat (first | exact Tn.refl _ _ | apply Tn.drew | apply Tn.drewN | apply Tn.alloc | (refine Tn.then ?_ (by assumption)) | (refine Tn.thenNo ?_ (by assumption)))))
    go_ret
    refine ⟨ret_int ?_, ?_⟩
    · unfold closeRes; rw [if_neg HK.out]
    · unfold St.close; rw [if_neg HK.out, Int.toNat_natCast]
      obtain ⟨c, mo, iv, tv, vs, hx⟩ := HP.out
      obtain ⟨c', hc'⟩ := (hx.no ht1).setDe i hi noDe (Nat.zero_le _) (by decide)
      exact ⟨L, ⟨_, _, _, _, _, hc'⟩, set3_tn ht1.any hx.labs i noDe, fun _ _ e => e⟩

/-! ### an event goes on the trace -/
theorem ev_info : (Try.prog.info? 87).map (fun i => (i.zero, i.size, i.bytes)) = some (some (.agg #[.int .i64 0, .string ⟨#[]⟩, .slice none 0 0]), 3, 48) := by kernel_rfl

def St.addEv (S : St) (e : Ev) : St := { S with tr := S.tr ++ [e] }

theorem PX.addEv {w : World} {p : Nat} {L : Nat → Option Lab} {N : Nat} {S : St} {c : Nat → Value} {mo : Option Nat} {iv tv : Value} {vs : Nat → Value} (h : PX w p L N S c mo iv tv vs) (hN : N + 1 ≤ 1099511627776) (k : Int) (s : ByteArray) :
    ∃ v' w', (Builtin.append_ #[69, 69] 69 #[tv, .slice (some ⟨w.heap.size, 0, none⟩) 1 1]).run Try.prog (w.alloc (.cells #[.int .i64 k, .string s, .slice none 0 0] 87)) = .ok v' w' ∧
      w'.cell? ⟨p, 60, none⟩ = some tv ∧ w'.frozen? ⟨p, 60, none⟩ = false ∧ p < w'.heap.size ∧
      ∃ L', PX (w'.setCell ⟨p, 60, none⟩ v') p L' (N + 1) (S.addEv ⟨k, s, []⟩) (upd c 60 v') mo iv v' (upd vs S.tr.length nilV) ∧ Tn (fun k => L k ≠ none) w (w'.setCell ⟨p, 60, none⟩ v') ∧ (∀ k, k < w.heap.size → L k = none → L' k = none) := by
  obtain ⟨i, hi, hz0, hz1, hz2⟩ := info_parts ev_info
  have hlen := h.ew.len
  have t1 : Tn No w (w.alloc (.cells #[.int .i64 k, .string s, .slice none 0 0] 87)) := (by repeat (first | exact Tn.refl _ _ | apply Tn.drew | apply Tn.drewN | apply Tn.alloc | (refine Tn.then ?_ (by assumption)) | (refine Tn.thenNo ?_ (by assumption))))
  have hsz1 : (w.alloc (.cells #[.int .i64 k, .string s, .slice none 0 0] 87)).heap.size = w.heap.size + 1 := by simp
  have hnew : ∀ j, (w.alloc (.cells #[.int .i64 k, .string s, .slice none 0 0] 87)).cell? ⟨w.heap.size, j, none⟩ = (#[.int .i64 k, .string s, .slice none 0 0] : Array Value)[j]? := fun j => World.cell?_alloc_mark w _ _ _ j
  have hx1 := h.no t1
  have hsrc : Src Try.prog 3 69 (.slice (some ⟨w.heap.size, 0, none⟩) 1 1) 1 [.int .i64 k, .string s, .slice none 0 0] (w.alloc (.cells #[.int .i64 k, .string s, .slice none 0 0] 87)) :=
    Src.ofSlice _ Try.underlying69 _ 1 1 _ rfl (fun j u hu => by rw [addr_add, hnew]; simpa using hu) (fun u hu => by simp at hu; rcases hu with rfl | rfl | rfl <;> rfl)
  generalize w.alloc (.cells #[.int .i64 k, .string s, .slice none 0 0] 87) = w1 at *
  obtain ⟨v', w', hr, hrw, ho, hn, hg, hown⟩ := rw_append 69 87 i _ 3 48 Try.underlying69 hi hz0 hz1 hz2 rfl hx1.ew.rw hsrc (by unfold maxLen; omega) (by omega) (by omega)
  obtain ⟨g', cap', hv', hg', _⟩ := hrw.pos (by omega)
  have hob : v'.ownBlock = some g' := by rw [hv']; rfl
  have hg2 : L g' = some .tr ∨ g' = w1.heap.size := by
    rw [hob] at hown
    rcases hown with e | e
    · left; exact h.ew.lab g' e.symm
    · right; exact Option.some.inj e
  have hk : ∀ k, L k ≠ none → L k ≠ some .tr → w'.heap[k]? = w1.heap[k]? := fun k h1 h2 => hg.block k (hx1.lt k h1) (fun e => h2 (h.ew.lab k e.symm))
  have hne : g' ≠ p := by
    rintro rfl
    rcases hg2 with e | e
    · rw [h.labs] at e; cases e
    · have := hx1.sc.lt; omega
  have hsc := hx1.sc.kept (hk p (by rw [h.labs]; simp) (by rw [h.labs]; simp))
  have up : ∀ {k : Nat} {x : Lab}, L k = some x → upd L g' (some .tr) k = some x := fun {k x} e => by
    by_cases ek : k = g'
    · subst ek
      rw [upd_same]
      rcases hg2 with e' | e'
      · rw [e'] at e; exact e
      · have := hx1.lt k (by rw [e]; simp); omega
    · rw [upd_other _ _ ek]; exact e
  have hks : ∀ k, k ≠ p → (w'.setCell ⟨p, 60, none⟩ v').heap[k]? = w'.heap[k]? := fun k hk => Below.heap_setCell _ _ _ _ hk
  have hlp : ∀ k, L k ≠ some .st → k ≠ p := fun k h1 e => h1 (by rw [e]; exact h.labs)
  have t2 : Tn (fun k => L k ≠ none) w w' := (t1.any).grown hg (fun i e _ => by rw [h.ew.lab i e]; simp)
  refine ⟨v', w', hr, (hsc.cell 60 (by omega)).trans (by rw [h.c60]), hsc.froz 60, hsc.lt, upd L g' (some .tr), ?_, t2.own h.labs _ _, fun k hk e => ?_⟩
  · have hm := hx1.mono (Nat.le_succ N)
    refine { sc := hsc.set 60 (by omega) v', c0 := ?_, c1 := ?_, c2 := ?_, c60 := upd_same _ _ _, cd := fun i hi => ?_, pl := hm.pl, labs := up h.labs, lt := fun k hk => ?_, fm := ?_, inp := ?_, labi := fun g hg => up (h.labi g hg), rd := h.rd, ew := ?_ }
    · rw [upd_other _ _ (by omega)]; exact h.c0
    · rw [upd_other _ _ (by omega)]; exact h.c1
    · rw [upd_other _ _ (by omega)]; exact h.c2
    · rw [upd_other _ _ (by omega), upd_other _ _ (by omega), upd_other _ _ (by omega)]; exact h.cd i hi
    · have e : (w'.setCell ⟨p, 60, none⟩ v').heap.size = w'.heap.size := by simp
      rw [e]
      by_cases ek : k = g'
      · subst ek; exact hg'
      · rw [upd_other _ _ ek] at hk; exact Nat.lt_of_lt_of_le (hx1.lt k hk) hg.size
    · have := hm.fm.kept2 (w' := w'.setCell ⟨p, 60, none⟩ v') (fun k hl => by
        rcases hl with hl | ⟨n, hl⟩ <;> exact (hks k (hlp k (by rw [hl]; simp))).trans (hk k (by rw [hl]; simp) (by rw [hl]; simp)))
      rcases this with h | ⟨b, n, D, e, hn, hb, hown, hf⟩
      · exact .inl h
      · exact .inr ⟨b, n, D, e, hn, up hb, hown, fun k => ⟨(hf k).1, fun l hl => by
          obtain ⟨v, hv, hbr, hlab, hlen⟩ := (hf k).2 l hl
          exact ⟨v, hv, hbr, fun g hg => up (hlab g hg), hlen⟩⟩⟩
    · exact hx1.inp.kept (fun g hg => (hks g (hlp g (by rw [h.labi g hg]; simp))).trans (hk g (by rw [h.labi g hg]; simp) (by rw [h.labi g hg]; simp)))
    · have hkv : ∀ g, v'.ownBlock = some g → (w'.setCell ⟨p, 60, none⟩ v').heap[g]? = w'.heap[g]? := fun g hg => hks g (by rw [hob] at hg; cases hg; exact hne)
      refine ⟨?_, fun g hg => ?_, ?_, fun j e he => ?_⟩
      · have := hrw.kept hkv
        simpa [St.addEv] using this
      · rw [hob] at hg; cases hg; exact upd_same _ _ _
      · simp [St.addEv]; omega
      · have hv := fun j => vc_kept hkv j
        by_cases hj : j < S.tr.length
        · have he' : S.tr[j]? = some e := by simpa [St.addEv, List.getElem?_append_left hj] using he
          obtain ⟨a, b, c, d, f, g⟩ := hm.ew.ev j e he'
          refine ⟨by rw [hv, ho _ (by omega)]; exact a, by rw [hv, ho _ (by omega)]; exact b, ?_, ?_, fun g hg => ?_, g⟩
          · rw [hv, ho _ (by omega), upd_other _ _ (by omega)]; exact c
          · rw [upd_other _ _ (by omega)]
            exact d.kept (fun g hg => (hks g (hlp g (by rw [f g hg]; simp))).trans (hk g (by rw [f g hg]; simp) (by rw [f g hg]; simp)))
          · rw [upd_other _ _ (by omega)] at hg
            exact up (f g hg)
        · have hj2 : j = S.tr.length := by
            have := (List.getElem?_eq_some_iff.1 he).1
            simp [St.addEv] at this
            omega
          subst hj2
          have he' : e = ⟨k, s, []⟩ := by simpa [St.addEv] using he.symm
          subst he'
          refine ⟨?_, ?_, ?_, ?_, fun g hg => ?_, by simp⟩
          · rw [hv, show 3 * S.tr.length = S.tr.length * 3 + 0 by omega, hn 0 (by simp)]; rfl
          · rw [hv, show 3 * S.tr.length + 1 = S.tr.length * 3 + 1 by omega, hn 1 (by simp)]; rfl
          · rw [hv, show 3 * S.tr.length + 2 = S.tr.length * 3 + 2 by omega, hn 2 (by simp), upd_same]; rfl
          · rw [upd_same]; exact BR.nil _
          · rw [upd_same] at hg; cases hg
  · rw [upd_other _ _ (by
      rintro rfl
      rcases hg2 with e' | e'
      · rw [e] at e'; cases e'
      · omega)]
    exact e
end Go.Proofs.Ytkbdgdcicflocaa
