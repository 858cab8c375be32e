/-
  SysWrite: what lies between lay and put.
-/
import Derived.Test.YtkbdgdcicflocaaLayA
namespace Go.Proofs.Ytkbdgdcicflocaa
set_option linter.unusedSimpArgs false
set_option linter.unusedVariables false
open Go.RowKit
attribute [local go_sem ↓] Go.wp_at_zero Go.wp_at_succ

/-- the look-up of a file, and what becomes of the files while that file's bytes are being written -/
theorem fm_look2 {w : World} {L : Nat → Option Lab} {N : Nat} {mo : Option Nat} {fs : List UInt8 → Option (List UInt8)} (h : FM w L N mo fs) (hlt : ∀ k, L k ≠ none → k < w.heap.size) (s : ByteArray) (hs : s.size ≤ maxLen) :
    ∃ v, (Instr.lookup 65 (.map mo) (.string s) false).run Try.prog w = .ok v w ∧ BR w v ((fs s.data.toList).getD []) ∧ (∀ g, v.ownBlock = some g → L g = some (.fl s.data.toList)) ∧ ((fs s.data.toList).getD []).length ≤ N ∧
      ∀ w2, Tn (fun g => v.ownBlock = some g) w w2 → Still w2 v ((fs s.data.toList).getD []).length → ∃ fs2, FM w2 L N mo fs2 ∧ ∀ x, x ≠ s.data.toList → fs2 x = fs x := by
  obtain ⟨v, _, hr, hbr, hlab, hlen⟩ := fm_look h s hs
  have hkey := WideMaps.keyOf_string_mk (P := Try.prog) Try.underlying9 hs
  refine ⟨v, hr, hbr, hlab, hlen, fun w2 t hst => ?_⟩
  rcases h with ⟨rfl, hf⟩ | ⟨b, n, D, rfl, hn, hb, hown, hf⟩
  · exact ⟨fs, .inl ⟨rfl, hf⟩, fun _ _ => rfl⟩
  · have hk : ∀ k, L k ≠ none → L k ≠ some (.fl s.data.toList) → w2.heap[k]? = w.heap[k]? := fun k h1 h2 => t.block k (hlt k h1) (fun e => h2 (hlab k e))
    have hbk : w2.ownsMap Try.prog 9 rawElem b n D := by
      obtain ⟨es, clock, h1, r⟩ := hown
      exact ⟨es, clock, (hk b (by rw [hb]; simp) (by rw [hb]; simp)).trans h1, r⟩
    obtain ⟨v2, ps2, hr2, hv2⟩ := hown.lookup law9 Try.underlying65 (zero64 w) (zd := .held nilV) (zp := []) rfl hkey
    have ev : v2 = v := by
      rw [hr2] at hr
      simp only [Result.ok.injEq] at hr
      exact hr.1
    subst ev
    simp only [rawElem, Option.some.injEq, Prod.mk.injEq] at hv2
    cases hfs : fs s.data.toList with
    | none =>
      refine ⟨fs, .inr ⟨b, n, D, rfl, hn, hb, hbk, fun k => ⟨(hf k).1, fun l hl => ?_⟩⟩, fun _ _ => rfl⟩
      obtain ⟨v', hv', hbr', hlab', hlen'⟩ := (hf k).2 l hl
      have hne : k ≠ s.data.toList := by rintro rfl; rw [hfs] at hl; cases hl
      exact ⟨v', hv', hbr'.kept (fun g hg => hk g (by rw [hlab' g hg]; simp) (by rw [hlab' g hg]; simpa using hne)), hlab', hlen'⟩
    | some l0 =>
      rw [hfs] at hst hlen
      obtain ⟨l2, hl2, hbr2⟩ := hst
      refine ⟨fun x => if x = s.data.toList then some l2 else fs x, .inr ⟨b, n, D, rfl, hn, hb, hbk, fun k => ?_⟩, fun x hx => by simp [hx]⟩
      by_cases e : k = s.data.toList
      · subst e
        simp only [if_true]
        refine ⟨by rw [(hf _).1, hfs]; rfl, fun l hl => ?_⟩
        cases hl
        exact ⟨v2, hv2.1.symm, hbr2, hlab, by rw [hl2]; exact hlen⟩
      · simp only [if_neg e]
        refine ⟨(hf k).1, fun l hl => ?_⟩
        obtain ⟨v', hv', hbr', hlab', hlen'⟩ := (hf k).2 l hl
        exact ⟨v', hv', hbr'.kept (fun g hg => hk g (by rw [hlab' g hg]; simp) (by rw [hlab' g hg]; simpa using e)), hlab', hlen'⟩

/-- the place of a descriptor is written -/
theorem PX.setPl {w : World} {p : Nat} {L : Nat → Option Lab} {N : Nat} {S : St} {c : Nat → Value} {mo : Option Nat} {iv tv : Value} {vs : Nat → Value} (h : PX w p L N S c mo iv tv vs) (i : Nat) (hi : i < 19) (r : Nat) (hr : r ≤ N) :
    PX (w.setCell ⟨p, 3 + i * 3 + 2, none⟩ (.int .i64 (r : Int))) p L N (S.setDe i { S.ds i with place := r }) (upd c (3 + i * 3 + 2) (.int .i64 (r : Int))) mo iv tv vs := by
  obtain ⟨h1, h2, h3, h4, h5⟩ := h.store (3 + i * 3 + 2) (by omega) (.int .i64 (r : Int))
  refine { h with sc := h1, c0 := ?_, c1 := ?_, c2 := ?_, c60 := ?_, cd := fun j hj => ?_, pl := fun j hj => ?_, lt := fun k hk => by rw [h5]; exact h.lt k hk, fm := h2, inp := h3, ew := h4 }
  · rw [upd_other _ _ (by omega)]; exact h.c0
  · rw [upd_other _ _ (by omega)]; exact h.c1
  · rw [upd_other _ _ (by omega)]; exact h.c2
  · rw [upd_other _ _ (by omega)]; exact h.c60
  · have := h.cd j hj
    by_cases e : j = i
    · subst e
      simp only [St.setDe, upd_same]
      rw [upd_other _ _ (by omega), upd_other _ _ (by omega)]
      exact ⟨this.1, this.2.1, trivial⟩
    · simp only [St.setDe, upd_other _ _ e]
      rw [upd_other _ _ (by omega), upd_other _ _ (by omega), upd_other _ _ (by omega)]
      exact this
  · by_cases e : j = i
    · subst e; simp only [St.setDe, upd_same]; exact ⟨hr, (h.pl j hj).2⟩
    · simp only [St.setDe, upd_other _ _ e]; exact h.pl j hj

/-- a file's bytes behind a place are written -/
def St.layF (S : St) (nm : ByteArray) (pl : Nat) (t : List UInt8) : St := S.put nm.data.toList (layB ((S.fs nm.data.toList).getD []) pl t)

theorem lay_put (p : Nat) (L : Nat → Option Lab) (N : Nat) (S : St) (nm s : ByteArray) (pl : Nat) (w : World) (h : PW w p L N S) (hnm : nm.size ≤ 255) (hpl : pl ≤ N) (hN : N + N + s.size ≤ 70368744177664) (hfs : (S.fs nm.data.toList).isSome = true) :
    ∃ mo v, w.cell? ⟨p, 0, none⟩ = some (.map (some mo)) ∧ (Instr.lookup 65 (.map (some mo)) (.string nm) false).run Try.prog w = .ok v w ∧
      Calls Try.prog 52 #[v, .int .i64 (pl : Int), .string s] w fun e w2 => ∃ v', e = .returned v' ∧ Tn (fun k => L k ≠ none) w w2 ∧ w2.cell? ⟨p, 0, none⟩ = some (.map (some mo)) ∧ p < w2.heap.size ∧
        ∀ u, Tn No w2 u → Calls Try.prog 28 #[.pointer (some ⟨p, 0, none⟩), .string nm, v'] u fun e w3 => e = .returned (.tuple #[]) ∧ Lft w p L w3 (N + s.size + 1) (S.layF nm pl s.data.toList) ∧ w3.cell? ⟨p, 0, none⟩ = some (.map (some mo)) := by
  obtain ⟨c, mo0, iv, tv, vs, hx⟩ := h
  obtain ⟨mo, rfl⟩ : ∃ mo, mo0 = some mo := by
    rcases hx.fm with ⟨_, e⟩ | ⟨b, _, _, e, _⟩
    · rw [e] at hfs; cases hfs
    · exact ⟨b, e⟩
  obtain ⟨v, hr, hbr, hlab, hlen, hflux⟩ := fm_look2 hx.fm hx.lt nm (by unfold maxLen; omega)
  refine ⟨mo, v, (hx.sc.cell 0 (by omega)).trans (by rw [hx.c0]), hr, (lay_raw v _ pl s w hbr (by omega)).mono (fun e w2 hpost => ?_)⟩
  obtain ⟨v', rfl, hbr', t, hown, hst⟩ := hpost
  obtain ⟨fs2, hfm2, hfs2⟩ := hflux w2 t hst
  have hk : ∀ k, L k ≠ none → L k ≠ some (.fl nm.data.toList) → w2.heap[k]? = w.heap[k]? := fun k h1 h2 => t.block k (hx.lt k h1) (fun e => h2 (hlab k e))
  have tL : Tn (fun k => L k ≠ none) w w2 := t.mono (fun i _ e => by rw [hlab i e]; simp)
  have hpx : PX w2 p L N { S with fs := fs2 } c (some mo) iv tv vs :=
    { hx with
      sc := hx.sc.kept (hk p (by rw [hx.labs]; simp) (by rw [hx.labs]; simp))
      lt := fun k hk => Nat.lt_of_lt_of_le (hx.lt k hk) t.size
      fm := hfm2
      inp := hx.inp.kept (fun g hg => hk g (by rw [hx.labi g hg]; simp) (by rw [hx.labi g hg]; simp))
      ew := hx.ew.kept2 (fun k hl => by rcases hl with hl | ⟨n, hl⟩ <;> exact hk k (by rw [hl]; simp) (by rw [hl]; simp)) }
  have hll : (layB ((S.fs nm.data.toList).getD []) pl s.data.toList).length ≤ N + s.size + 1 := by
    have := layB_length ((S.fs nm.data.toList).getD []) pl s.data.toList
    have e : s.data.toList.length = s.size := by simp
    omega
  have hSt : St.put { S with fs := fs2 } nm.data.toList (layB ((S.fs nm.data.toList).getD []) pl s.data.toList) = S.layF nm pl s.data.toList := by
    have e2 : ∀ r : List UInt8, (fun x => if x = nm.data.toList then some r else fs2 x) = (fun x => if x = nm.data.toList then some r else S.fs x) := fun r => by
      funext x
      by_cases e : x = nm.data.toList
      · rw [if_pos e, if_pos e]
      · rw [if_neg e, if_neg e, hfs2 x e]
    unfold St.layF St.put
    simp only [e2]
  refine ⟨v', rfl, tL, (hpx.sc.cell 0 (by omega)).trans (by rw [hpx.c0]), hpx.sc.lt, fun u tu => ?_⟩
  -- the labels
  obtain ⟨L2, hpx2, hlab2, hL2⟩ : ∃ L2, PX w2 p L2 N { S with fs := fs2 } c (some mo) iv tv vs ∧ (∀ g, v'.ownBlock = some g → L2 g = some (.fl nm.data.toList)) ∧ ∀ k, k < w.heap.size → L k = none → L2 k = none := by
    cases hob : v'.ownBlock with
    | none => exact ⟨L, hpx, fun g hg => (by cases hg), fun _ _ e => e⟩
    | some g =>
      by_cases hg : L g = none
      · have hgs : w.heap.size ≤ g := by
          rcases hown g hob with e | e
          · rw [hlab g e] at hg; cases hg
          · exact e
        refine ⟨upd L g (some (.fl nm.data.toList)), hpx.name g (hbr'.lt g hob) hg _, fun g' hg' => ?_, fun k hk e => ?_⟩
        · cases hg'; exact upd_same _ _ _
        · rw [upd_other _ _ (by omega)]; exact e
      · refine ⟨L, hpx, fun g' hg' => ?_, fun _ _ e => e⟩
        cases hg'
        rcases hown g hob with e | e
        · exact hlab g e
        · have := hx.lt g hg; omega
  have k0u : u.cell? ⟨p, 0, none⟩ = some (.map (some mo)) := (tu.cell hpx.sc.lt (fun e => e)).trans ((hpx.sc.cell 0 (by omega)).trans (by rw [hpx.c0]))
  have := put_raw2 p L2 (N + s.size) { S with fs := fs2 } nm v' _ u ⟨_, _, _, _, _, (hpx2.mono (Nat.le_add_right N s.size)).no tu⟩ (by omega) (by unfold maxLen; omega) (hbr'.no tu) hlab2 hll
  rw [hSt] at this
  exact this.mono (fun e w3 ⟨h1, h2, h3⟩ => ⟨h1, h2.trans (tL.thenNo tu) hL2, h3 mo k0u⟩)
end Go.Proofs.Ytkbdgdcicflocaa
