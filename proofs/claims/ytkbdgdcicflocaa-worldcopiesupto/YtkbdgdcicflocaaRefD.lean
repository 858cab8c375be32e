/-
  The reference's SysOpen of a file that is not there, to be written; SysOpen whole.
-/
import Derived.Test.YtkbdgdcicflocaaRef16
namespace Go.Proofs.Ytkbdgdcicflocaa
set_option linter.unusedSimpArgs false
set_option linter.unusedVariables false
open Go.RowKit
attribute [local go_sem ↓] Go.wp_at_zero Go.wp_at_succ

set_option maxHeartbeats 4000000 in
set_option maxRecDepth 100000 in
theorem ropen_new (w : World) (q : Nat) (L : Nat → Option Lab) (N : Nat) (S : St) (h : PR w q L N S) (nm : ByteArray) (hs : nm.size ≤ maxLen) (hN : N + 2 ≤ 1099511627776) (r : Nat) (hres : openRes S nm 577 = (r : Int)) (hhas : S.has nm = false) :
    Calls Try.prog 34 #[.pointer (some ⟨q, 0, none⟩), .string nm, .int .i64 577] w (ROpenPost w q L N S nm 577) := by
  obtain ⟨fl, d, lv, tv, bv, hx⟩ := h
  have HZ := hid (fun u => zero_raw nm u hs)
  have HF := hid (find_raw w q L N S fl d lv tv bv hx nm (by omega))
  have hfh := findAt_has hx.fs nm
  obtain ⟨a1, hz, a3, hfree⟩ := openRes_parts hres rfl
  obtain ⟨f, hf⟩ : ∃ f, findAt fl nm = f := ⟨_, rfl⟩
  have h0f : f < 0 := by rw [← hf]; exact hfh.2 hhas
  have hr19 : r < 19 := by
    have := List.mem_of_find?_eq_some hfree
    simpa using this
  have hqd : q ≠ d := fun e => by have := hx.labs; rw [e, hx.labd] at this; cases this
  -- the descriptor, then the bytes
  have hx1 := hx.setDe r hr19 ⟨5, nm, 0⟩ (Nat.zero_le _) (by show nm.size ≤ 255; omega)
  have hdl := hx.dlt
  have hdz := hx.dz
  have t1 : Tn (fun k => L k ≠ none) w (rset3 w d r ⟨5, nm, 0⟩) := rset3_tn (Tn.refl _ _) hx.labd r _
  have hlay := rlay_raw (rset3 w d r ⟨5, nm, 0⟩) q L N (S.setDe r ⟨5, nm, 0⟩) ⟨_, _, _, _, _, hx1⟩ (by omega) nm none 0 0 [] hhas (BR.nil _) (fun k e => by cases e) (Nat.zero_le _) (by omega)
  have HLAY : Hid (Calls Try.prog 31 #[.pointer (some ⟨q, 0, none⟩), .string nm, .slice none 0 0] (((w.setCell ⟨d, r * 3, none⟩ (.int .i64 5)).setCell ⟨d, r * 3 + 1, none⟩ (.string nm)).setCell ⟨d, r * 3 + 2, none⟩ (.int .i64 0)) fun e w' => e = .returned (.tuple #[]) ∧ RLft (((w.setCell ⟨d, r * 3, none⟩ (.int .i64 5)).setCell ⟨d, r * 3 + 1, none⟩ (.string nm)).setCell ⟨d, r * 3 + 2, none⟩ (.int .i64 0)) q L w' (N + 1) ((S.setDe r ⟨5, nm, 0⟩).put nm.data.toList [])) := hid hlay
  have hpost : ∀ (w2 : World) (L2 : Nat → Option Lab) (w4 : World) (va : Option Addr) (vn vcp : Nat), Tn (fun k => L k ≠ none) (rset3 w d r ⟨5, nm, 0⟩) w2 → (∀ k, k < (rset3 w d r ⟨5, nm, 0⟩).heap.size → L k = none → L2 k = none) → RLft w2 q L2 (w4.setCell ⟨q, 3, none⟩ (.slice va vn vcp)) (N + 1 + ([] : List UInt8).length + 1) (S.openW nm r) → ROpenPost w q L N S nm 577 (.returned (.int .i64 (r : Int))) (w4.setCell ⟨q, 3, none⟩ (.slice va vn vcp)) := fun w2 L2 w4 va vn vcp t2 hl2 hb => by
    refine ⟨by rw [hres], ?_⟩
    unfold openSt
    rw [hres, if_neg (by omega), if_neg (by decide), Int.toNat_natCast]
    obtain ⟨L', hp, tt, hl'⟩ := hb
    have hz1 : (rset3 w d r ⟨5, nm, 0⟩).heap.size = w.heap.size := by simp [rset3]
    refine RLft.mono (N := N + 1 + ([] : List UInt8).length + 1) ⟨L', hp, (t1.then t2).trans tt (fun _ _ e => e) (fun k hk e => ?_), fun k hk e => hl' k (Nat.lt_of_lt_of_le (by omega) t2.size) (hl2 k (by omega) e)⟩ (by simp)
    intro e2
    exact e (hl2 k (by omega) e2)
  have HE := hid hpost
  have hdc3 : ∀ i, i < 19 → w.cell? ⟨d, i * 3 + 1, none⟩ = some (.string (S.ds i).name) ∧ w.cell? ⟨d, i * 3 + 2, none⟩ = some (.int .i64 ((S.ds i).place : Int)) := fun i hi => (hx.dc i hi).2
  have HDC3 := hid hdc3
  have HFREE := hid hfree
  have k2 := hx.c2
  have hdc : ∀ i, i < 19 → w.cell? ⟨d, i * 3, none⟩ = some (.int .i64 (S.ds i).kind) := fun i hi => (hx.dc i hi).1
  have HDC := hid hdc
  have hql := hx.qlt
  rw [hz] at HZ
  rw [hf] at HF
  unfold maxLen at hs
  have hs63 : (nm.size : Int) ≤ 9223372036854775807 := by omega
  have g1 : (nm.size : Int) ≤ 255 := by omega
  have g4 : nm.toList.isEmpty = false := by rw [toList_isEmpty]; simpa using a3
  clear hpost hdc hdc3 hx hx1 hz hf hfh hs a1 a3 hres hfree hhas t1 hlay
  go_enter Try.func34, Try.ntmps34
  go_wp2_with (first
    | (go_at_call 58; refine (HZ.out _).mono ?_; rintro e w1 ⟨rfl, rfl⟩)
    | (go_at_call 30; refine HF.out.mono ?_; rintro e w2 ⟨rfl, rfl⟩))
  go_loop [9] (fun i => ∃ k : Nat, k ≤ 19 ∧ i = .int .i64 (k : Int) ∧ Hid (∀ j, j < k → ¬ (S.ds j).kind = 0)) (fun i => 19 - (intOf i).toNat)
  case atStart => exact ⟨0, by omega, rfl, hid (fun j h => by omega)⟩
  case round =>
    obtain ⟨k, hk, rfl, HP⟩ := hrel
    by_cases hgo : k < 19 ∧ ¬ (S.ds k).kind = 0
    · obtain ⟨hlt, hne⟩ := hgo
      have q0 := HDC.out k hlt
      have hd : ((S.ds k).kind != 0) = true := by simpa using hne
      have hki : (k : Int) < 19 := by omega
      have HNE := hid hne
      clear hne
      go_wp2
      go_round
      case rel => exact ⟨k + 1, by omega, by go_num, hid (fun j h => by
        by_cases e : j = k
        · subst e; exact HNE.out
        · exact HP.out j (by omega))⟩
      case measure => simp [intOf]; omega
    · have hh : k < 19 ∧ (S.ds k).kind = 0 ∧ k = r := by
        rcases Nat.lt_or_ge k 19 with h | h
        · have h0 : (S.ds k).kind = 0 := Classical.byContradiction (fun e => hgo ⟨h, e⟩)
          have := free_some S k h HP.out h0
          rw [HFREE.out] at this
          exact ⟨h, h0, (Option.some.inj this).symm⟩
        · have := free_none S (fun j hj => HP.out j (by omega))
          rw [HFREE.out] at this
          cases this
      obtain ⟨hlt, hk0, rfl⟩ := hh
      have q0 := HDC.out k hlt
      rw [hk0] at q0
      obtain ⟨q1, q2⟩ := HDC3.out k hlt
      have hki : (k : Int) < 19 := by omega
      clear hgo
      go_wp2_with (first
        | (go_at_call 31; refine HLAY.out.mono ?_; rintro e w2 ⟨rfl, L2, ⟨fl2, d2, lv2, tv2, bv2, hx2⟩, t2, hl2⟩; obtain ⟨v', w4, hr, ⟨va, vn, vcp, hv'⟩, k3', f3', q4, hend⟩ := hx2.addEv (by omega) 3 nm []; subst hv'; rw [show str [] = ⟨#[]⟩ from rfl] at hr; have e0 := hx2.c3; have ql2 := hx2.qlt; have HAPP := hid hr; have HEND := hid (HE.out w2 L2 w4 va vn vcp t2 hl2 hend); clear hr hend hx2 t2 hl2)
        | (at_builtin; refine wpList_app _ rfl _ _ _ _ rfl _ _ rfl rfl _ w4 HAPP.out ?_))
      all_goals (go_ret; exact HEND.out)

theorem openRes_flag {S : St} {nm : ByteArray} {fg : Int} (h : ¬ openRes S nm fg < 0) : fg = 0 ∨ fg = 577 := by
  rcases Classical.em (fg = 0 ∨ fg = 577) with h1 | h1
  · exact h1
  · exfalso
    apply h
    unfold openRes
    by_cases a1 : 255 < nm.size
    · rw [if_pos a1]; decide
    · rw [if_neg a1, if_pos (.inl ⟨fun e => h1 (.inl e), fun e => h1 (.inr e)⟩)]; decide
/-- the reference's SysOpen, whatever it is handed -/
theorem ropen_raw (w : World) (q : Nat) (L : Nat → Option Lab) (N : Nat) (S : St) (h : PR w q L N S) (nm : ByteArray) (fg : Int) (hs : nm.size ≤ maxLen) (hN : N + 2 ≤ 1099511627776) :
    Calls Try.prog 34 #[.pointer (some ⟨q, 0, none⟩), .string nm, .int .i64 fg] w (ROpenPost w q L N S nm fg) := by
  by_cases hneg : openRes S nm fg < 0
  · exact ropen_no w q L N S h nm fg hs (by omega) hneg
  · obtain ⟨r, hr⟩ : ∃ r : Nat, openRes S nm fg = (r : Int) := ⟨(openRes S nm fg).toNat, by omega⟩
    rcases openRes_flag hneg with rfl | rfl
    · exact ropen_rd w q L N S h nm hs (by omega) r hr
    · cases hh : S.has nm with
      | true => exact ropen_old w q L N S h nm hs (by omega) r hr hh
      | false => exact ropen_new w q L N S h nm hs hN r hr hh
end Go.Proofs.Ytkbdgdcicflocaa
namespace Go.Proofs.Ytkbdgdcicflocaa
set_option linter.unusedSimpArgs false
set_option linter.unusedVariables false
open Go.RowKit
attribute [local go_sem ↓] Go.wp_at_zero Go.wp_at_succ

/-- a place of a descriptor is written -/
theorem RX.setPl {w : World} {q : Nat} {L : Nat → Option Lab} {N : Nat} {S : St} {fl : List (ByteArray × List UInt8)} {d : Dk} {lv tv : Value} {bv : Nat → Value} (h : RX w q L N S fl d lv tv bv) (i : Nat) (hi : i < 19) (pl : Nat) (hp : pl ≤ N) :
    RX (w.setCell ⟨d, i * 3 + 2, none⟩ (.int .i64 (pl : Int))) q L N { S with ds := upd S.ds i ⟨(S.ds i).kind, (S.ds i).name, pl⟩ } fl d lv tv bv := by
  refine h.store (by simp) (fun k hk => Below.heap_setCell _ _ _ _ hk) (fun j => by rw [World.frozen?_setCell]; exact h.dz j) _ (fun j hj => ?_) (fun j hj => ?_)
  · obtain ⟨a, b, c⟩ := h.dc j hj
    by_cases e : j = i
    · subst e
      rw [upd_same]
      exact ⟨(cell_ne (by omega)).trans a, (cell_ne (by omega)).trans b, cell_same (by rw [c]; rfl)⟩
    · rw [upd_other _ _ e]
      exact ⟨(cell_ne (by omega)).trans a, (cell_ne (by omega)).trans b, (cell_ne (by omega)).trans c⟩
  · by_cases e : j = i
    · subst e; rw [upd_same]; exact ⟨hp, (h.pl j hj).2⟩
    · rw [upd_other _ _ e]; exact h.pl j hj
theorem upd_upd {α : Type} (c : Nat → α) (j : Nat) (u v : α) : upd (upd c j u) j v = upd c j v := by
  funext i
  unfold upd
  split <;> rfl
theorem upd_self {α : Type} (c : Nat → α) (j : Nat) (v : α) (h : c j = v) : upd c j v = c := by
  funext i
  unfold upd
  split
  · rename_i e; rw [e, h]
  · rfl
/-- the file of a name, by its place -/
theorem RX.file {w : World} {q : Nat} {L : Nat → Option Lab} {N : Nat} {S : St} {fl : List (ByteArray × List UInt8)} {d : Dk} {lv tv : Value} {bv : Nat → Value} (h : RX w q L N S fl d lv tv bv) (nm : ByteArray) (hf : (S.fs nm.data.toList).isSome = true) : ∃ (i : Nat) (hi : i < fl.length), findAt fl nm = (i : Int) ∧ fl[i].1 = nm ∧ S.fs nm.data.toList = some fl[i].2 := by
  have h0 : ¬ findAt fl nm < 0 := fun e => by
    have := (findAt_has h.fs nm).1 e
    unfold St.has at this
    rw [hf] at this; cases this
  obtain ⟨i, hi, e, hn⟩ := findAt_get (f := findAt fl nm) rfl (by omega)
  refine ⟨i, hi, e, hn, ?_⟩
  have hu := congrFun (fsOf_set h.up i hi fl[i].2) nm.data.toList
  rw [hn] at hu
  have hs : fl.set i (nm, fl[i].2) = fl := by
    apply List.ext_getElem (by simp)
    intro k h1 h2
    rw [List.getElem_set]
    split
    · rename_i ek; subst ek; rw [← hn]
    · rfl
  rw [hs, if_pos rfl] at hu
  rw [h.fs]; exact hu

/-- one more byte goes behind those that are there -/
theorem one_more {w : World} {v : Value} {l : List UInt8} (h : BR w v l) (c : UInt8) (hl : l.length ≤ 1099511627776) :
    ∃ v' w', (Builtin.append_ #[64, 64] 64 #[v, .slice (some ⟨w.heap.size, 0, none⟩) 1 1]).run Try.prog (w.alloc (.cells #[.int .u8 (c.toNat : Int)] 5)) = .ok v' w' ∧ BR w' v' (l ++ [c]) ∧ (w.alloc (.cells #[.int .u8 (c.toNat : Int)] 5)).grownBy w' v.ownBlock ∧ (v'.ownBlock = v.ownBlock ∨ v'.ownBlock = some (w.heap.size + 1)) := by
  have hsrc : Src Try.prog 1 64 (.slice (some ⟨w.heap.size, 0, none⟩) 1 1) ([c] : List UInt8).length (bc [c]) (w.alloc (.cells #[.int .u8 (c.toNat : Int)] 5)) := by
    refine Src.ofSlice _ Try.underlying64 _ 1 1 _ (by simp [bc]) (fun j u hu => ?_) (bc_one _)
    have hj : j = 0 ∧ u = .int .u8 (c.toNat : Int) := by
      simp only [bc, List.map_cons, List.map_nil] at hu
      cases j with
      | zero => simp at hu; exact ⟨rfl, hu.symm⟩
      | succ j => simp at hu
    obtain ⟨rfl, rfl⟩ := hj
    rw [addr_add, World.cell?_alloc_at _ _ _ _ (by simp)]
    rfl
  obtain ⟨v', w', hr, hbr, hg, hown⟩ := br_append 64 (h.no ((Tn.refl No w).alloc _)) hsrc (by simp; omega)
  refine ⟨v', w', hr, hbr, hg, ?_⟩
  rcases hown with e | e
  · exact .inl e
  · right; rw [e]; simp
def svLen : Value → Nat | .slice _ n _ => n | _ => 0
theorem nx_more {B : List UInt8} {pl k : Nat} (h : pl + k < B.length) : nx B pl (k + 1) = nx B pl k ++ [B[pl + k]] := by
  unfold nx
  rw [List.take_succ_eq_append_getElem (by simp; omega)]
  simp
theorem nx_len {B : List UInt8} {pl k : Nat} (h : pl + k ≤ B.length ∨ k = 0) : (nx B pl k).length = k := by
  unfold nx
  rw [List.length_take, List.length_drop]; omega
theorem nx_stop {B : List UInt8} {pl k n : Nat} (hk : k ≤ n) (h : B.length ≤ pl + k ∨ n ≤ k) : nx B pl k = nx B pl n := by
  unfold nx
  rcases h with h | h
  · rw [List.take_of_length_le (by simp; omega), List.take_of_length_le (by simp; omega)]
  · rw [show k = n by omega]

set_option maxHeartbeats 4000000 in
set_option maxRecDepth 100000 in
theorem rread_file (w : World) (q : Nat) (L : Nat → Option Lab) (N : Nat) (S : St) (h : PR w q L N S) (fd n : Nat) (hfd : fd < 19) (hn : n ≤ 18446744073709551615) (hN : N ≤ 1099511627776) (hk : (S.ds fd).kind = 4) (hfs : (S.fs (S.ds fd).name.data.toList).isSome = true) :
    Calls Try.prog 36 #[.pointer (some ⟨q, 0, none⟩), .int .i64 (fd : Int), .int .u64 (n : Int)] w (RReadPost w q L N S (fd : Int) n) := by
  have HK := hid (kind_raw w q L N S h (fd : Int) (by omega) (by omega))
  obtain ⟨fl, d, lv, tv, bv, hx⟩ := h
  have hat : S.at (fd : Int) = S.ds fd := by unfold St.at; rw [if_pos (by omega), Int.toNat_natCast]
  rw [hat, hk] at HK
  obtain ⟨nm, hnm⟩ : ∃ nm, (S.ds fd).name = nm := ⟨_, rfl⟩
  obtain ⟨pl, hpl⟩ : ∃ pl, (S.ds fd).place = pl := ⟨_, rfl⟩
  rw [hnm] at hfs
  obtain ⟨i, hi, hfi, hfn, hfb⟩ := hx.file nm hfs
  have HF : Hid (∀ u, Tn No w u → Calls Try.prog 30 #[.pointer (some ⟨q, 0, none⟩), .string nm] u fun e w' => e = .returned (.int .i64 (i : Int)) ∧ w' = u) := hid (fun u t => by
    have := find_raw u q L N S fl d lv tv bv (hx.no t) nm hN
    rw [hfi] at this
    exact this)
  obtain ⟨g, cap, rfl, hgl, hlc, hcm, hfz, hlab, hgq, hgd⟩ := hx.rowFree i hi
  obtain ⟨a1, a2, hbr, hbl, hbN, hb6⟩ := hx.lc i hi
  obtain ⟨B, hB⟩ : ∃ B, fl[i].2 = B := ⟨_, rfl⟩
  rw [hB] at hbr hbN hfb
  obtain ⟨ab, cb, hbv, hbc, hbm, hbnil, hbsome⟩ := hbr.rw.form
  rw [hbv] at a2 hbr hbl
  have cB : w.cell? ⟨g, i * 2 + 1, none⟩ = some (.slice ab B.length cb) := by rw [show i * 2 + 1 = 2 * i + 1 by omega]; exact a2
  have cL := hx.c0
  have cD := hx.c2
  obtain ⟨d0, d1, d2⟩ := hx.dc fd hfd
  rw [hnm] at d1
  rw [hpl] at d2
  have hil : (i : Int) < (fl.length : Int) := by omega
  have hfdi : (fd : Int) < 19 := by omega
  have hdl := hx.dlt
  have hql := hx.qlt
  obtain ⟨nl, hnl⟩ : ∃ nl, fl.length = nl := ⟨_, rfl⟩
  rw [hnl] at cL hil
  have hplN := (hx.pl fd hfd).1
  rw [hpl] at hplN
  -- what it leaves
  have hend : ∀ u (l : List UInt8), l = nx B pl n → RLft w q L u N { S with ds := upd S.ds fd ⟨4, nm, pl + l.length⟩ } → RReadPost w q L N S (fd : Int) n (.returned (.tuple #[.string ⟨l.toArray⟩, .int .i64 (l.length : Int)])) u := fun u l hl hlft => by
    have htx : readTx S (fd : Int) n = l := by
      unfold readTx
      rw [hat, hk, if_neg (by decide), if_pos rfl, hnm, hfb, hpl, hl]; rfl
    refine ⟨?_, ?_⟩
    · unfold readRes
      rw [hat, hk, if_pos (.inr rfl), htx]; rfl
    · unfold St.sread
      rw [htx, hat, hk, if_neg (by decide), if_pos rfl, Int.toNat_natCast]
      show RLft w q L u N { S with ds := upd S.ds fd ⟨(S.ds fd).kind, (S.ds fd).name, (S.ds fd).place + l.length⟩ }
      rw [hk, hnm, hpl]
      exact hlft
  have HE := hid hend
  have hself : upd S.ds fd ⟨4, nm, pl + 0⟩ = S.ds := upd_self _ _ _ (by rw [← hk, ← hnm, ← hpl]; rfl)
  have HX0 : Hid (RX w q L N { S with ds := upd S.ds fd ⟨4, nm, pl + 0⟩ } fl d (.slice (some ⟨g, 0, none⟩) nl cap) tv bv) := hid (by rw [hself, ← hnl]; exact hx)
  have HBR := hid hbr
  have HBL := hid hbl
  have HSOME := hid hbsome
  have HNIL := hid hbnil
  have HBV := hid hbv
  have HBB := hid hB
  have hlt := hx.lt
  have HLT := hid hlt
  clear hlt
  clear hend hx hbr hbl hbsome hbnil hat hk hfs hfn hfb hfi hB hbv a1 a2 hself hnl hlc hfz hb6
  go_enter Try.func36, Try.ntmps36
  go_wp2_with (go_at_call 59; refine HK.out.mono ?_; rintro e w1 ⟨rfl, rfl⟩)
  go_quiet ((go_at_call 30; exact Calls.quiet_of_same (HF.out _ (by repeat (first | exact Tn.refl _ _ | apply Tn.drew | apply Tn.drewN | apply Tn.alloc | (refine Tn.then ?_ (by assumption)) | (refine Tn.thenNo ?_ (by assumption)))))))
  go_wp2_with fail
  go_loopw [12] (fun v wr => ∃ k : Nat, k ≤ n ∧ (pl + k ≤ B.length ∨ k = 0) ∧ BR wr v (nx B pl k) ∧ (∀ x, v.ownBlock = some x → w1.heap.size ≤ x) ∧ Hid (RX wr q L N { S with ds := upd S.ds fd ⟨4, nm, pl + k⟩ } fl d (.slice (some ⟨g, 0, none⟩) nl cap) tv bv) ∧ Tn (fun k => L k ≠ none) w1 wr) (fun v _ => B.length - svLen v)
  case atStart => exact ⟨0, by omega, .inr rfl, BR.nil _, fun x e => (by cases e), hid (HX0.out.no ((by repeat (first | exact Tn.refl _ _ | apply Tn.drew | apply Tn.drewN | apply Tn.alloc | (refine Tn.then ?_ (by assumption)) | (refine Tn.thenNo ?_ (by assumption)))))), (Tn.refl _ _).drewN _⟩
  case round =>
    obtain ⟨k, hkn, hkl, hbr, hob, HX, ht⟩ := hrel
    have hlen := nx_len hkl
    obtain ⟨av, cv, rfl, _⟩ := hbr.rw.form
    rw [hlen] at hbr hob
    have r0 := HX.out.c0
    have r2 := HX.out.c2
    obtain ⟨_, _, r5⟩ := HX.out.dc fd hfd
    have r6 : wr.cell? ⟨d, fd * 3 + 2, none⟩ = some (.int .i64 ((pl + k : Nat) : Int)) := by rw [r5]; simp [upd_same]
    have rz := HX.out.dz (fd * 3 + 2)
    have hdr := HX.out.dlt
    have hqr := HX.out.qlt
    clear r5
    by_cases hgo : pl + k < B.length ∧ k < n
    · obtain ⟨hb1, hb2⟩ := hgo
      have hbw : BR wr (.slice ab B.length cb) B := by
        have := (HX.out.lc i hi).2.2.1
        rw [HBV.out, HBB.out] at this
        exact this
      cases ab with
      | none => have := (HNIL.out rfl).1; omega
      | some x =>
      obtain ⟨hxe, _⟩ := HSOME.out x rfl
      obtain ⟨gb, ob, sb⟩ := x
      cases hxe
      have cb1 : wr.cell? ⟨gb, pl + k, none⟩ = some (.int .u8 ((B[pl + k]'hb1).toNat : Int)) := hbw.at' (pl + k) hb1
      have hgb : gb < wr.heap.size := hbw.lt gb rfl
      obtain ⟨c, hc⟩ : ∃ c, B[pl + k]'hb1 = c := ⟨_, rfl⟩
      rw [hc] at cb1
      obtain ⟨va, wa, hrun, hbra, hgra, howa⟩ := one_more hbr c (by rw [hlen]; omega)
      have hnx : nx B pl (k + 1) = nx B pl k ++ [c] := by rw [nx_more hb1, hc]
      rw [← hnx] at hbra
      have t1 : Tn No wr (wr.alloc (.cells #[.int .u8 (c.toNat : Int)] 5)) := (Tn.refl _ _).alloc _
      have hka : ∀ x, L x ≠ none → wa.heap[x]? = wr.heap[x]? := fun x hx => by
        have h1 := HLT.out x hx
        have h2 := ht.size
        rw [hgra.block x (by simp; omega) (fun e => by have := hob x e.symm; omega)]
        exact Below.heap_alloc _ _ _ (by omega)
      have hsa : wr.heap.size + 1 ≤ wa.heap.size := by simpa using hgra.size
      have hxa := HX.out.kept (w' := wa) (by omega) hka
      have hxp := hxa.setPl fd hfd (pl + (k + 1)) (by omega)
      simp only [upd_upd, upd_same] at hxp
      have ta : Tn (fun k => L k ≠ none) w1 wa := (ht.thenNo t1).grown hgra (fun x hx hlt => by have := hob x hx; omega)
      have oba : ∀ x, va.ownBlock = some x → w1.heap.size ≤ x := fun x hx => by
        rcases howa with e | e
        · exact hob x (by rw [← e]; exact hx)
        · rw [e] at hx; cases hx; have := ht.size; omega
      obtain ⟨va1, vcp, hva, _⟩ := hbra.rw.form
      have hlen1 := nx_len (B := B) (pl := pl) (k := k + 1) (.inl (by omega))
      rw [hlen1] at hva
      subst hva
      have sa2 : wa.cell? ⟨q, 2, none⟩ = some (.slice (some ⟨d, 0, none⟩) 19 d.cap) := hxa.c2
      have sa6 : wa.cell? ⟨d, fd * 3 + 2, none⟩ = some (.int .i64 ((pl + k : Nat) : Int)) := by have := (hxa.dc fd hfd).2.2; rw [this]; simp [upd_same]
      have saz := hxa.dz (fd * 3 + 2)
      have hda := hxa.dlt
      have hqa := hxa.qlt
      have hdne : ∀ x, (Value.slice va1 (k + 1) vcp).ownBlock = some x → x ≠ d := fun x hx e => by
        have h1 := oba x hx
        have h2 := HLT.out d (by rw [HX.out.labd]; simp)
        omega
      have HREL := hid (And.intro (hbra.kept (w' := wa.setCell ⟨d, fd * 3 + 2, none⟩ (.int .i64 ((pl + (k + 1) : Nat) : Int))) (fun x hx => Below.heap_setCell _ _ _ _ (hdne x hx))) (And.intro oba (And.intro (hid hxp) (ta.set ⟨d, fd * 3 + 2, none⟩ (.int .i64 ((pl + (k + 1) : Nat) : Int)) (fun _ => by show L d ≠ none; rw [HX.out.labd]; simp)))))
      have HRUN := hid hrun
      have e1 : ((pl + k : Nat) : Int) < (B.length : Int) := by omega
      have e2 : ((k : Nat) : Int) < (n : Int) := by omega
      have hcast : ((pl + (k + 1) : Nat) : Int) = (pl : Int) + (k : Int) + 1 := by omega
      rw [hcast] at HREL
      clear hbw hbr hob hrun hbra hgra howa hnx t1 hka hxa hxp ta oba hc HX ht hdne
      go_wp2_with (at_builtin; refine wpList_app _ rfl _ _ _ _ rfl _ _ rfl rfl _ wa HRUN.out ?_)
      exact ⟨⟨k + 1, by omega, .inl (by omega), HREL.out.1, HREL.out.2.1, HREL.out.2.2.1, HREL.out.2.2.2⟩, by simp only [svLen, hlen]; omega⟩
    · have hst := nx_stop (B := B) (pl := pl) hkn (show B.length ≤ pl + k ∨ n ≤ k by omega)
      have HST := hid hst
      have hcv := br_string hbr
      have HEND := hid (HE.out wr (nx B pl k) hst ⟨L, ⟨_, _, _, _, _, by rw [hlen]; exact HX.out⟩, ht, fun _ _ e => e⟩)
      rw [hlen] at HEND
      clear hbr hob hst HX ht
      rcases (show B.length ≤ pl + k ∨ (pl + k < B.length ∧ n ≤ k) by omega) with h1 | ⟨h1, h2⟩
      · have e1 : ¬ ((pl + k : Nat) : Int) < (B.length : Int) := by omega
        go_wp2_with fail
        go_ret2
        exact HEND.out
      · have e1 : ((pl + k : Nat) : Int) < (B.length : Int) := by omega
        have e2 : ¬ ((k : Nat) : Int) < (n : Int) := by omega
        go_wp2_with fail
        go_ret2
        exact HEND.out

/-- a file that is open is there -/
def FT (S : St) : Prop := ∀ i, i < 19 → (S.ds i).kind = 4 ∨ (S.ds i).kind = 5 → (S.fs (S.ds i).name.data.toList).isSome = true
theorem at_file {S : St} {fd : Int} (h : ¬ (S.at fd).kind = 0) : ∃ i : Nat, fd = (i : Int) ∧ i < 19 ∧ S.at fd = S.ds i := by
  have hr : 0 ≤ fd ∧ fd < 19 := by
    rcases Classical.em (0 ≤ fd ∧ fd < 19) with e | e
    · exact e
    · exfalso; apply h; unfold St.at; rw [if_neg e]; rfl
  refine ⟨fd.toNat, by omega, by omega, ?_⟩
  unfold St.at; rw [if_pos hr]
/-- the reference's SysRead, whatever it is handed -/
theorem rread_raw (w : World) (q : Nat) (L : Nat → Option Lab) (N : Nat) (S : St) (h : PR w q L N S) (hw : FT S) (fd : Int) (n : Nat) (h0 : -9223372036854775808 ≤ fd) (h1 : fd ≤ 9223372036854775807) (hn : n ≤ 18446744073709551615) (hin : S.inp.length ≤ 9223372036854775806) (hN : N ≤ 1099511627776) :
    Calls Try.prog 36 #[.pointer (some ⟨q, 0, none⟩), .int .i64 fd, .int .u64 (n : Int)] w (RReadPost w q L N S fd n) := by
  by_cases hk : (S.at fd).kind = 1
  · exact rread_in w q L N S h fd n h0 h1 hn hin hk
  by_cases hk4 : (S.at fd).kind = 4
  · obtain ⟨i, rfl, hi, e⟩ := at_file (S := S) (fd := fd) (by omega)
    rw [e] at hk4
    exact rread_file w q L N S h i n hi hn hN hk4 (hw i hi (.inl hk4))
  · exact rread_no w q L N S h fd n h0 h1 hk hk4
end Go.Proofs.Ytkbdgdcicflocaa
namespace Go.Proofs.Ytkbdgdcicflocaa
set_option linter.unusedSimpArgs false
set_option linter.unusedVariables false
open Go.RowKit
attribute [local go_sem ↓] Go.wp_at_zero Go.wp_at_succ

/-! ### bytes laid one behind the other -/
theorem layB_len (l : List UInt8) (pl : Nat) (t : List UInt8) (ht : t ≠ []) : (layB l pl t).length = max l.length (pl + t.length) := by
  unfold layB
  rw [if_neg ht]
  simp only [List.length_append, List.length_take, List.length_drop, List.length_replicate]
  have : 0 < t.length := List.length_pos_iff.2 ht
  omega
theorem gd_rep (l : List UInt8) (m i : Nat) : (l ++ List.replicate m 0).getD i 0 = l.getD i 0 := by
  simp only [List.getD_eq_getElem?_getD]
  by_cases h : i < l.length
  · rw [List.getElem?_append_left h]
  · rw [List.getElem?_append_right (by omega), List.getElem?_replicate, List.getElem?_eq_none (by omega)]
    split <;> rfl
theorem layB_get (l : List UInt8) (pl : Nat) (t : List UInt8) (ht : t ≠ []) (i : Nat) : (layB l pl t).getD i 0 = if i < pl then l.getD i 0 else if i < pl + t.length then t.getD (i - pl) 0 else l.getD i 0 := by
  unfold layB
  rw [if_neg ht]
  obtain ⟨P, hP⟩ : ∃ P, l ++ List.replicate (pl - l.length) 0 = P := ⟨_, rfl⟩
  have hg : ∀ i, P.getD i 0 = l.getD i 0 := fun i => by rw [← hP]; exact gd_rep _ _ _
  have hl : pl ≤ P.length := by rw [← hP]; simp; omega
  rw [hP]
  have htk : (P.take pl).length = pl := by simp; omega
  simp only [List.getD_eq_getElem?_getD] at hg ⊢
  by_cases h1 : i < pl
  · rw [if_pos h1, List.append_assoc, List.getElem?_append_left (by omega), List.getElem?_take, if_pos h1, hg]
  · rw [if_neg h1]
    by_cases h2 : i < pl + t.length
    · rw [if_pos h2, List.append_assoc, List.getElem?_append_right (by omega), List.getElem?_append_left (by omega), htk]
    · rw [if_neg h2, List.getElem?_append_right (by simp; omega), List.getElem?_drop]
      simp only [List.length_append, htk]
      rw [show pl + t.length + (i - (pl + t.length)) = i by omega, hg]
theorem eq_of_getD {a b : List UInt8} (hl : a.length = b.length) (h : ∀ i, i < a.length → a.getD i 0 = b.getD i 0) : a = b := by
  apply List.ext_getElem hl
  intro i h1 h2
  have := h i h1
  simpa [List.getD_eq_getElem?_getD, List.getElem?_eq_getElem h1, List.getElem?_eq_getElem h2] using this
/-- filled up with 0 to a length -/
def padTo (l : List UInt8) (m : Nat) : List UInt8 := l ++ List.replicate (m - l.length) 0
theorem padTo_len (l : List UInt8) (m : Nat) : (padTo l m).length = max l.length m := by simp [padTo]; omega
theorem take_ne (t : List UInt8) (m : Nat) (h0 : 0 < m) (h : m ≤ t.length) : t.take m ≠ [] := List.length_pos_iff.1 (by rw [List.length_take]; omega)
theorem lay_step (B : List UInt8) (pl : Nat) (t : List UInt8) (j : Nat) (hj : j < t.length) : (padTo (layB B pl (t.take j)) (pl + j + 1)).set (pl + j) t[j] = layB B pl (t.take (j + 1)) := by
  have h1 : t.take (j + 1) ≠ [] := take_ne t _ (by omega) (by omega)
  have hl1 : (t.take (j + 1)).length = j + 1 := by simp; omega
  have hl0 : (t.take j).length = j := by simp; omega
  have hlen : (layB B pl (t.take j)).length = if j = 0 then B.length else max B.length (pl + j) := by
    by_cases e : j = 0
    · subst e; simp [layB]
    · rw [if_neg e, layB_len _ _ _ (take_ne t j (by omega) (by omega)), hl0]
  apply eq_of_getD
  · rw [List.length_set, padTo_len, layB_len _ _ _ h1, hl1, hlen]
    split <;> omega
  · intro i hi
    rw [List.length_set] at hi
    rw [layB_get _ _ _ h1, hl1]
    have hset : ((padTo (layB B pl (t.take j)) (pl + j + 1)).set (pl + j) t[j]).getD i 0 = if i = pl + j then t[j] else (layB B pl (t.take j)).getD i 0 := by
      by_cases e : i = pl + j
      · subst e
        rw [if_pos rfl, List.getD_eq_getElem?_getD, List.getElem?_set_self hi]; rfl
      · rw [if_neg e, List.getD_eq_getElem?_getD, List.getElem?_set_ne (fun x => e x.symm), ← List.getD_eq_getElem?_getD]
        exact gd_rep _ _ _
    rw [hset]
    have htk : ∀ m k, k < m → (t.take m).getD k 0 = t.getD k 0 := fun m k hk => by simp [List.getD_eq_getElem?_getD, List.getElem?_take, hk]
    by_cases e : i = pl + j
    · subst e
      rw [if_pos rfl, if_neg (by omega), if_pos (by omega), Nat.add_sub_cancel_left, htk _ _ (by omega)]
      simp [List.getD_eq_getElem?_getD, List.getElem?_eq_getElem hj]
    · rw [if_neg e]
      by_cases ej : j = 0
      · subst ej
        have : layB B pl (t.take 0) = B := by simp [layB]
        rw [this]
        by_cases h2 : i < pl
        · rw [if_pos h2]
        · rw [if_neg h2, if_neg (by omega)]
      · rw [layB_get _ _ _ (take_ne t j (by omega) (by omega)), hl0]
        by_cases h2 : i < pl
        · rw [if_pos h2, if_pos h2]
        · rw [if_neg h2, if_neg h2]
          by_cases h3 : i < pl + j
          · rw [if_pos h3, if_pos (by omega), htk _ _ (by omega), htk _ _ (by omega)]
          · rw [if_neg h3, if_neg (by omega)]

/-! ### the world while a file is written -/
def WS (S : St) (fd : Nat) (nm : ByteArray) (l : List UInt8) (pl : Nat) : St := { S with fs := fun x => if x = nm.data.toList then some l else S.fs x, ds := upd S.ds fd ⟨5, nm, pl⟩ }
theorem WS.put (S : St) (fd : Nat) (nm : ByteArray) (l l' : List UInt8) (pl : Nat) : (WS S fd nm l pl).put nm.data.toList l' = WS S fd nm l' pl := by
  unfold WS St.put
  congr 1
  funext x
  dsimp only
  split <;> rfl
/-- file i has the bytes l, descriptor fd stands at pl -/
def RI (w wr : World) (q : Nat) (L : Nat → Option Lab) (N : Nat) (S : St) (fl : List (ByteArray × List UInt8)) (d : Dk) (lv tv : Value) (fd i : Nat) (nm : ByteArray) (l : List UInt8) (pl : Nat) : Prop :=
  ∃ L2 bv2, RX wr q L2 N (WS S fd nm l pl) (fl.set i (nm, l)) d lv tv bv2 ∧ Tn (fun k => L k ≠ none) w wr ∧ (∀ k, k < w.heap.size → L k = none → L2 k = none)
variable {w wr : World} {q : Nat} {L : Nat → Option Lab} {N : Nat} {S : St} {fl : List (ByteArray × List UInt8)} {d : Dk} {g nl cap : Nat} {tv : Value} {fd i : Nat} {nm : ByteArray} {l : List UInt8} {pl : Nat}
theorem RI.no {w2 : World} {lv : Value} (h : RI w wr q L N S fl d lv tv fd i nm l pl) (t : Tn No wr w2) : RI w w2 q L N S fl d lv tv fd i nm l pl := by
  obtain ⟨L2, bv2, hx, t1, hl⟩ := h
  exact ⟨L2, bv2, hx.no t, t1.thenNo t, hl⟩
theorem set_same_get (hi : i < fl.length) : ∃ h : i < (fl.set i (nm, l)).length, (fl.set i (nm, l))[i] = (nm, l) := ⟨by simpa using hi, by rw [List.getElem_set]; simp⟩
/-- what the walk reads -/
theorem RI.facts (h : RI w wr q L N S fl d (.slice (some ⟨g, 0, none⟩) nl cap) tv fd i nm l pl) (hi : i < fl.length) (hn : fl.length = nl) (hfd : fd < 19) :
    wr.cell? ⟨q, 0, none⟩ = some (.slice (some ⟨g, 0, none⟩) nl cap) ∧ wr.cell? ⟨q, 2, none⟩ = some (.slice (some ⟨d, 0, none⟩) 19 d.cap) ∧ wr.cell? ⟨d, fd * 3 + 1, none⟩ = some (.string nm) ∧ wr.cell? ⟨d, fd * 3 + 2, none⟩ = some (.int .i64 (pl : Int)) ∧ wr.frozen? ⟨d, fd * 3 + 2, none⟩ = false ∧
    (∃ ab cb, wr.cell? ⟨g, i * 2 + 1, none⟩ = some (.slice ab l.length cb) ∧ BR wr (.slice ab l.length cb) l ∧ l.length ≤ cb ∧ cb ≤ 9223372036854775807) ∧ wr.frozen? ⟨g, i * 2 + 1, none⟩ = false ∧ q < wr.heap.size ∧ d < wr.heap.size ∧ g < wr.heap.size ∧ g ≠ q ∧ g ≠ d ∧ q ≠ d := by
  obtain ⟨L2, bv2, hx, _, _⟩ := h
  obtain ⟨_, d1, d2⟩ := hx.dc fd hfd
  have e1 : ((WS S fd nm l pl).ds fd) = ⟨5, nm, pl⟩ := upd_same _ _ _
  rw [e1] at d1 d2
  obtain ⟨hi', hget⟩ := set_same_get (nm := nm) (l := l) hi
  obtain ⟨_, b1, b2, _⟩ := hx.lc i hi'
  rw [hget] at b2
  obtain ⟨ab, cb, hb, hc1, hc2, _⟩ := b2.rw.form
  rw [hb] at b1 b2
  obtain ⟨g', cap', e, hg, _, _, hfz, _, hgq, hgd⟩ := hx.rowFree i hi'
  simp only [Value.slice.injEq, Option.some.injEq, Addr.mk.injEq] at e
  obtain ⟨⟨rfl, _, _⟩, _, rfl⟩ := e
  refine ⟨hx.c0, hx.c2, d1, d2, hx.dz _, ⟨ab, cb, ?_, b2, hc1, hc2⟩, hfz _ ?_, hx.qlt, hx.dlt, hg, hgq, hgd, fun e => by have := hx.labs; rw [e, hx.labd] at this; cases this⟩
  · rw [show i * 2 + 1 = 2 * i + 1 by omega]; exact b1
  · simp only [List.length_set]; omega
theorem RI.inc (h : RI w wr q L N S fl d (.slice (some ⟨g, 0, none⟩) nl cap) tv fd i nm l pl) (hfd : fd < 19) (hp : pl + 1 ≤ N) : RI w (wr.setCell ⟨d, fd * 3 + 2, none⟩ (.int .i64 ((pl + 1 : Nat) : Int))) q L N S fl d (.slice (some ⟨g, 0, none⟩) nl cap) tv fd i nm l (pl + 1) := by
  obtain ⟨L2, bv2, hx, t, hl⟩ := h
  have e1 : ((WS S fd nm l pl).ds fd) = ⟨5, nm, pl⟩ := upd_same _ _ _
  have h2 := hx.setPl fd hfd (pl + 1) hp
  rw [e1] at h2
  have e2 : { WS S fd nm l pl with ds := upd (WS S fd nm l pl).ds fd ⟨5, nm, pl + 1⟩ } = WS S fd nm l (pl + 1) := by
    unfold WS
    simp only [upd_upd]
  dsimp only at h2
  rw [e2] at h2
  refine ⟨L2, bv2, h2, t.set _ _ (fun hlt => ?_), hl⟩
  intro e
  have := hl d hlt e
  rw [hx.labd] at this
  cases this
/-- a step that turns the bytes of file i alone -/
theorem RI.turn {w2 : World} (h : RI w wr q L N S fl d (.slice (some ⟨g, 0, none⟩) nl cap) tv fd i nm l pl) (hi : i < fl.length) (hn : fl.length = nl) (b : Value) (l' : List UInt8) (hs : wr.heap.size ≤ w2.heap.size) (F : Nat → Prop)
    (hF : ∀ (L2 : Nat → Option Lab) (bv2 : Nat → Value), RX wr q L2 N (WS S fd nm l pl) (fl.set i (nm, l)) d (.slice (some ⟨g, 0, none⟩) nl cap) tv bv2 → ∀ k, F k → k < wr.heap.size → L2 k = some (.fl nm.data.toList) ∨ L2 k = some .mp)
    (ht : Tn F wr w2) (hrow : RW w2 2 (.slice (some ⟨g, 0, none⟩) nl cap) nl) (hcell : ∀ j, j < 2 * nl → w2.cell? ⟨g, j, none⟩ = if j = 2 * i + 1 then some b else wr.cell? ⟨g, j, none⟩) (hbr : BR w2 b l')
    (hlab : ∀ (L2 : Nat → Option Lab) (bv2 : Nat → Value), RX wr q L2 N (WS S fd nm l pl) (fl.set i (nm, l)) d (.slice (some ⟨g, 0, none⟩) nl cap) tv bv2 → ∀ k, b.ownBlock = some k → L2 k = some (.fl nm.data.toList) ∨ wr.heap.size ≤ k) (hl' : l'.length ≤ N) :
    RI w w2 q L N S fl d (.slice (some ⟨g, 0, none⟩) nl cap) tv fd i nm l' pl := by
  obtain ⟨L2, bv2, hx, t, hl⟩ := h
  obtain ⟨hi', hget⟩ := set_same_get (nm := nm) (l := l) hi
  have hFL := hF L2 bv2 hx
  have hLB := hlab L2 bv2 hx
  subst hn
  have key : ∃ L3 : Nat → Option Lab, (∀ k x, L2 k = some x → L3 k = some x) ∧ (∀ k, L3 k ≠ none → k < w2.heap.size) ∧ (∀ k, b.ownBlock = some k → L3 k = some (.fl nm.data.toList)) ∧ (∀ k, k < wr.heap.size → L2 k = none → L3 k = none) := by
    cases hb : b.ownBlock with
    | none => exact ⟨L2, fun _ _ e => e, fun k hk => Nat.lt_of_lt_of_le (hx.lt k hk) hs, fun k e => (by cases e), fun _ _ e => e⟩
    | some k0 =>
      refine ⟨upd L2 k0 (some (.fl nm.data.toList)), fun k x e => ?_, fun k hk => ?_, fun k e => by cases e; exact upd_same _ _ _, fun k hk e => ?_⟩
      · by_cases ek : k = k0
        · subst ek
          rw [upd_same]
          rcases hLB k hb with e' | e'
          · rw [e'] at e; exact e
          · have := hx.lt k (by rw [e]; simp); omega
        · rw [upd_other _ _ ek]; exact e
      · by_cases ek : k = k0
        · subst ek; exact hbr.lt k hb
        · rw [upd_other _ _ ek] at hk; exact Nat.lt_of_lt_of_le (hx.lt k hk) hs
      · by_cases ek : k = k0
        · subst ek
          rcases hLB k hb with e' | e'
          · rw [e'] at e; cases e
          · omega
        · rw [upd_other _ _ ek]; exact e
  obtain ⟨L3, u1, u2, u3, u4⟩ := key
  have e0 : ((fl.set i (nm, l))[i]'hi').1 = nm := by rw [hget]
  have h3 := hx.putFile (w' := w2) (L' := L3) i hi' b l' (Nat.le_refl _) hs (fun k h1 h2 h3 => ht.block k (hx.lt k h1) (fun e => by
    rcases hFL k e (hx.lt k h1) with x | x
    · rw [e0] at h2; exact h2 x
    · exact h3 x)) (by rw [List.length_set]; exact hrow) (fun j hj => hcell j (by rw [List.length_set] at hj; exact hj)) u1 u2 hbr (fun k hk => by rw [e0]; exact u3 k hk) hl'
  rw [e0, WS.put, List.set_set] at h3
  refine ⟨L3, _, h3, t.trans ht (fun _ _ e => e) (fun k hk e => ?_), fun k hk e => u4 k (Nat.lt_of_lt_of_le hk t.size) (hl k hk e)⟩
  intro e2
  have h4 := hl k hk e2
  rcases hFL k e (Nat.lt_of_lt_of_le hk t.size) with x | x <;> (rw [h4] at x; cases x)
end Go.Proofs.Ytkbdgdcicflocaa
