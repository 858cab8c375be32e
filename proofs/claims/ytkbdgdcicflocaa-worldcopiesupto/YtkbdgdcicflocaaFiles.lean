/-
  The program's Files.
-/
import Derived.Test.YtkbdgdcicflocaaPairA
import Derived.Test.YtkbdgdcicflocaaSorted
namespace Go.Proofs.Ytkbdgdcicflocaa
set_option linter.unusedSimpArgs false
set_option linter.unusedVariables false
open Go.RowKit
attribute [local go_sem ↓] Go.wp_at_zero Go.wp_at_succ

set_option maxHeartbeats 2000000 in
set_option maxRecDepth 100000 in
theorem files_raw (p : Nat) (L : Nat → Option Lab) (N : Nat) (S : St) (w : World) (h : PW w p L N S) (fl : List (ByteArray × List UInt8)) (hfs : S.fs = fsOf fl) (hup : fl.Pairwise (fun a b => a.1.data.toList < b.1.data.toList)) (hsz : ∀ f ∈ fl, f.1.size ≤ 255) (hlen : fl.length ≤ 1099511627776) :
    Calls Try.prog 45 #[.pointer (some ⟨p, 0, none⟩)] w (FilesPost w fl) := by
  obtain ⟨c, mo, iv, tv, vs, hx⟩ := h
  have k0 := hx.sc.cell 0 (by omega)
  rw [hx.c0] at k0
  have plt := hx.sc.lt
  have hfm := hx.fm
  rw [hfs] at hfm
  obtain ⟨n, hn⟩ : ∃ n, (nms fl).length = n := ⟨_, rfl⟩
  have hnl : fl.length = n := by rw [← hn]; simp [nms]
  have HS : Hid (Calls Try.prog 61 #[.func (.func 67) #[] #[.pointer (some ⟨w.heap.size, 0, none⟩)]] (w.alloc (.cells #[.map mo] 65)) (SortPost (w.alloc (.cells #[.map mo] 65)) (nms fl))) := hid (sorted_keys hfm hup hlen)
  have HK : Hid (Calls Try.prog 62 #[.map mo] w _) := hid (callsIn_wide.1 (maps_Keys_62 mo w))
  have HLK : Hid (∀ u, Tn No w u → ∀ (i : Nat) (f : ByteArray × List UInt8), fl[i]? = some f → ∃ a m k, (Instr.lookup 65 (.map mo) (.string f.1) false).run Try.prog u = .ok (.slice a m k) u ∧ (convert 64 9 (.slice a m k)).run Try.prog u = .ok (.string (str f.2)) u) := hid (fun u t i f hf => by
    have hx' := hx.no t
    obtain ⟨v, _, hr, hbr, _⟩ := fm_look hx'.fm f.1 (by have := hsz f (List.mem_of_getElem? hf); unfold maxLen; omega)
    rw [hfs, fsOf_at hup i f hf] at hbr
    obtain ⟨a, k, rfl, _⟩ := hbr.rw.form
    exact ⟨a, _, k, hr, br_string hbr⟩)
  have HN := hid hnl
  have HM := hid hn
  have hn63 : n ≤ 1099511627776 := by omega
  clear hx hfm hfs hup hsz hlen hn hnl
  go_enter Try.func45, Try.ntmps45
  go_wp2_with (first
    | (go_at_call 62; refine (HK.out).mono ?_; rintro e w1 ⟨rfl, rfl⟩)
    | (go_at_call 61; refine (HS.out).mono ?_; rintro e w2 ⟨a, cap, rfl, h1, h2, h3, h4, ht2⟩; rw [HM.out] at h1 h3 ⊢; have H4 := hid h4; have H3 := hid h3; clear h4 h3))
  have ht2' : Tn No w w2 := (Tn.alloc (Tn.refl No w) _).then ht2
  have HT2 := hid ht2'
  clear ht2 ht2' HK HS
  go_loopw [3, 15] (fun v i wr => ∃ k : Nat, k ≤ n ∧ i = .int .i64 k ∧ FV wr v (fl.take k) ∧ (∀ g, v.ownBlock = some g → w2.heap.size ≤ g) ∧ Tn No w2 wr) (fun _ i _ => n - (intOf i).toNat)
  case atStart => exact ⟨0, by omega, rfl, ⟨by simpa using RW.nil w2 2, fun i e he => by simp at he⟩, fun g hg => (by cases hg), (by repeat (first | exact Tn.refl _ _ | apply Tn.drew | apply Tn.drewN | apply Tn.alloc | (refine Tn.then ?_ (by assumption)) | (refine Tn.thenNo ?_ (by assumption))))⟩
  case round =>
    obtain ⟨k, hk, rfl, htv, hob, ht⟩ := hrel
    have tw : Tn No w wr := HT2.out.then ht
    have p0 := (tw.cell plt (fun e => e)).trans k0
    have plr : p < wr.heap.size := Nat.lt_of_lt_of_le plt tw.size
    by_cases hlt : k < n
    · cases a with
      | none => have := H3.out rfl; omega
      | some x =>
      obtain ⟨hxe, hxw, hxl, hxc⟩ := H4.out x rfl
      obtain ⟨g, o, sp⟩ := x
      cases hxe
      have hkl : k < fl.length := by have := HN.out; omega
      have he : fl[k]? = some fl[k] := List.getElem?_eq_getElem hkl
      obtain ⟨f, hf⟩ : ∃ f, fl[k] = f := ⟨_, rfl⟩
      rw [hf] at he
      have q1 : wr.cell? ⟨g, k, none⟩ = some (.string f.1) := by
        rw [ht.cell hxl (fun e => e)]
        exact hxc k f.1.data.toList (by simp [nms, he])
      obtain ⟨av, nv, cv, hlk, hcv⟩ := HLK.out wr tw k f he
      have htk : fl.take (k + 1) = fl.take k ++ [f] := by rw [List.take_add_one, he]; rfl
      have hlk' : (fl.take k).length = k := by have := HN.out; simp; omega
      have t1 : Tn No wr (wr.alloc (.cells #[.string f.1, .string (str f.2)] 32)) := Tn.alloc (Tn.refl _ _) _
      obtain ⟨v', w', hr, htv', hgr', hown'⟩ := fv_append (htv.no t1) f wr.heap.size (fun j u hu => by rw [World.cell?_alloc_at _ _ _ _ (by simp)]; simpa using hu) (by omega)
      have hob' : ∀ g, v'.ownBlock = some g → w2.heap.size ≤ g := fun g hg => by
        rcases hown' with e | e
        · exact hob g (by rw [← e]; exact hg)
        · rw [e] at hg; cases hg; have := ht.size; have := t1.size; omega
      have ht' : Tn No w2 w' := (ht.then t1).grown hgr' (fun i hi hlt => by have := hob i hi; omega)
      rw [← htk] at htv'
      have HR := hid hr
      have HREL := hid (And.intro htv' (And.intro hob' ht'))
      have hgl : g < wr.heap.size := Nat.lt_of_lt_of_le hxl ht.size
      have hki : (k : Int) < (n : Int) := by omega
      clear H3 H4 htv he htk hlk' hob hr htv' hgr' hown' hob' ht' t1 hxc hf hkl HLK tw
      go_wp2_with (at_builtin; refine wpList_app _ rfl _ _ _ _ rfl _ _ rfl rfl v' w' HR.out ?_)
      go_roundw
      case rel => exact ⟨k + 1, by omega, by go_num, HREL.out⟩
      case measure => simp [intOf]; omega
    · obtain rfl : k = n := by omega
      go_wp2
      go_ret
      have e : fl.take k = fl := List.take_of_length_le (by have := HN.out; omega)
      rw [e] at htv
      exact ⟨_, rfl, htv, fun g hg => Nat.le_trans HT2.out.size (hob g hg), tw⟩
end Go.Proofs.Ytkbdgdcicflocaa
