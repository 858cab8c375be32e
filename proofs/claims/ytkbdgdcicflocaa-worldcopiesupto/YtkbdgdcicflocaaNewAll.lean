/-
  New of a world with files.
-/
import Derived.Test.YtkbdgdcicflocaaOwn
import Derived.Test.YtkbdgdcicflocaaReadFile
namespace Go.Proofs.Ytkbdgdcicflocaa
set_option linter.unusedSimpArgs false
set_option linter.unusedVariables false
open Go.RowKit
attribute [local go_sem ↓] Go.wp_at_zero Go.wp_at_succ

/-- the kind of a descriptor is written -/
theorem PX.setKd {w : World} {p : Nat} {L : Nat → Option Lab} {N : Nat} {S : St} {c : Nat → Value} {mo : Option Nat} {iv tv : Value} {vs : Nat → Value} (h : PX w p L N S c mo iv tv vs) (i : Nat) (hi : i < 19) (r : Int) :
    PX (w.setCell ⟨p, 3 + i * 3, none⟩ (.int .i64 r)) p L N (S.setDe i { S.ds i with kind := r }) (upd c (3 + i * 3) (.int .i64 r)) mo iv tv vs := by
  obtain ⟨h1, h2, h3, h4, h5⟩ := h.store (3 + i * 3) (by omega) (.int .i64 r)
  refine { h with sc := h1, c0 := ?_, c1 := ?_, c2 := ?_, c60 := ?_, cd := fun j hj => ?_, pl := fun j hj => ?_, lt := fun k hk => by rw [h5]; exact h.lt k hk, fm := h2, inp := h3, ew := h4 }
  · rw [upd_other _ _ (by omega)]; exact h.c0
  · rw [upd_other _ _ (by omega)]; exact h.c1
  · rw [upd_other _ _ (by omega)]; exact h.c2
  · rw [upd_other _ _ (by omega)]; exact h.c60
  · by_cases e : j = i
    · subst e
      simp only [St.setDe, upd_same]
      rw [upd_other _ _ (by omega), upd_other _ _ (by omega)]
      exact ⟨trivial, (h.cd j hj).2.1, (h.cd j hj).2.2⟩
    · simp only [St.setDe, upd_other _ _ e]
      rw [upd_other _ _ (by omega), upd_other _ _ (by omega), upd_other _ _ (by omega)]
      exact h.cd j hj
  · by_cases e : j = i
    · subst e
      simp only [St.setDe, upd_same]
      exact h.pl j hj
    · simp only [St.setDe, upd_other _ _ e]
      exact h.pl j hj

/-- a world before its descriptors are named -/
def rawSt (fs : List UInt8 → Option (List UInt8)) (s : ByteArray) : St := ⟨fs, s.data.toList, 0, fun _ => noDe, []⟩
theorem raw_init (fs : List UInt8 → Option (List UInt8)) (s : ByteArray) : (((rawSt fs s).setDe 0 { (rawSt fs s).ds 0 with kind := 1 }).setDe 1 { ((rawSt fs s).setDe 0 { (rawSt fs s).ds 0 with kind := 1 }).ds 1 with kind := 2 }).setDe 2 { (((rawSt fs s).setDe 0 { (rawSt fs s).ds 0 with kind := 1 }).setDe 1 { ((rawSt fs s).setDe 0 { (rawSt fs s).ds 0 with kind := 1 }).ds 1 with kind := 2 }).ds 2 with kind := 3 } = initSt fs s := by
  simp only [rawSt, St.setDe, initSt, St.mk.injEq, true_and, and_true]
  funext i
  by_cases h2 : i = 2
  · subst h2; rfl
  by_cases h1 : i = 1
  · subst h1; rfl
  by_cases h0 : i = 0
  · subst h0; rfl
  rw [upd_other _ _ h2, upd_other _ _ h1, upd_other _ _ h0]
  simp [initDs, h0, h1, h2]

def zeroCells (iv : Value) : List Value := [.map none, iv, .int .i64 0, .int .i64 0, .string ⟨#[]⟩, .int .i64 0, .int .i64 0, .string ⟨#[]⟩, .int .i64 0, .int .i64 0, .string ⟨#[]⟩, .int .i64 0, .int .i64 0, .string ⟨#[]⟩, .int .i64 0, .int .i64 0, .string ⟨#[]⟩, .int .i64 0, .int .i64 0, .string ⟨#[]⟩, .int .i64 0, .int .i64 0, .string ⟨#[]⟩, .int .i64 0, .int .i64 0, .string ⟨#[]⟩, .int .i64 0, .int .i64 0, .string ⟨#[]⟩, .int .i64 0, .int .i64 0, .string ⟨#[]⟩, .int .i64 0, .int .i64 0, .string ⟨#[]⟩, .int .i64 0, .int .i64 0, .string ⟨#[]⟩, .int .i64 0, .int .i64 0, .string ⟨#[]⟩, .int .i64 0, .int .i64 0, .string ⟨#[]⟩, .int .i64 0, .int .i64 0, .string ⟨#[]⟩, .int .i64 0, .int .i64 0, .string ⟨#[]⟩, .int .i64 0, .int .i64 0, .string ⟨#[]⟩, .int .i64 0, .int .i64 0, .string ⟨#[]⟩, .int .i64 0, .int .i64 0, .string ⟨#[]⟩, .int .i64 0, .slice none 0 0]

theorem zeroCells_de (iv : Value) (i : Nat) (hi : i < 19) : (zeroCells iv)[3 + i * 3]? = some (.int .i64 0) ∧ (zeroCells iv)[3 + i * 3 + 1]? = some (.string ⟨#[]⟩) ∧ (zeroCells iv)[3 + i * 3 + 2]? = some (.int .i64 ((0 : Nat) : Int)) := by
  rcases (by omega : i = 0 ∨ i = 1 ∨ i = 2 ∨ i = 3 ∨ i = 4 ∨ i = 5 ∨ i = 6 ∨ i = 7 ∨ i = 8 ∨ i = 9 ∨ i = 10 ∨ i = 11 ∨ i = 12 ∨ i = 13 ∨ i = 14 ∨ i = 15 ∨ i = 16 ∨ i = 17 ∨ i = 18) with rfl | rfl | rfl | rfl | rfl | rfl | rfl | rfl | rfl | rfl | rfl | rfl | rfl | rfl | rfl | rfl | rfl | rfl | rfl <;> exact ⟨rfl, rfl, rfl⟩

theorem zero_px {w : World} {iv : Value} {s : ByteArray} {g : Nat} (hbr : BR w iv s.data.toList) (hg : iv.ownBlock = some g) :
    PW (w.alloc (.cells (zeroCells iv).toArray 71)) w.heap.size (upd (upd (fun _ => none) w.heap.size (some .st)) g (some .inp)) 0 (rawSt (fun _ => none) s) := by
  have hgl := hbr.lt g hg
  have t : Tn No w (w.alloc (.cells (zeroCells iv).toArray 71)) := (by repeat (first | exact Tn.refl _ _ | apply Tn.drew | apply Tn.drewN | apply Tn.alloc | (refine Tn.then ?_ (by assumption)) | (refine Tn.thenNo ?_ (by assumption))))
  have hcell : ∀ i, (w.alloc (.cells (zeroCells iv).toArray 71)).cell? ⟨w.heap.size, i, none⟩ = (zeroCells iv)[i]? := fun i => by rw [World.cell?_alloc_new]; simp
  have hlen : (zeroCells iv).length = 61 := rfl
  refine ⟨fun i => (zeroCells iv).getD i (.bool false), none, iv, .slice none 0 0, fun _ => .slice none 0 0, ?_⟩
  refine { sc := ⟨by simp, fun i hi => ?_, fun i => ?_⟩, c0 := rfl, c1 := rfl, c2 := rfl, c60 := rfl, cd := fun i hi => ?_, pl := fun i hi => ?_, labs := ?_, lt := fun k hk => ?_, fm := .inl ⟨rfl, fun _ => rfl⟩, inp := hbr.no t, labi := fun g' hg' => ?_, rd := Nat.zero_le _, ew := ⟨RW.nil _ _, fun g h => (by cases h), Nat.le_refl _, fun i e h => (by simp [rawSt] at h)⟩ }
  · rw [hcell, List.getD_eq_getElem?_getD, List.getElem?_eq_getElem (by omega)]; rfl
  · have hh := heap_alloc_new w (.cells (zeroCells iv).toArray 71)
    simp only [World.frozen?, hh]
    simp
  · obtain ⟨a, b, c⟩ := zeroCells_de iv i hi
    simp only [List.getD_eq_getElem?_getD, a, b, c]
    exact ⟨rfl, rfl, rfl⟩
  · exact ⟨Nat.le_refl _, Nat.zero_le _⟩
  · rw [upd_other _ _ (by omega), upd_same]
  · have hs : (w.alloc (.cells (zeroCells iv).toArray 71)).heap.size = w.heap.size + 1 := by simp
    rw [hs]
    by_cases e1 : k = g
    · omega
    · rw [upd_other _ _ e1] at hk
      by_cases e2 : k = w.heap.size
      · omega
      · rw [upd_other _ _ e2] at hk; exact absurd rfl hk
  · rw [hg] at hg'; cases hg'; exact upd_same _ _ _

theorem own_has {w u : World} {p N : Nat} {S : St} (h : Own w u p N S) (s : ByteArray) (hs : s.size ≤ maxLen) : Calls Try.prog 27 #[.pointer (some ⟨p, 0, none⟩), .string s] u fun e u' => e = .returned (.bool (S.has s)) ∧ u' = u := by
  obtain ⟨L, hp, _⟩ := h
  exact has_raw p L N S s u hp hs
theorem own_put {w u u1 : World} {p N : Nat} {S : St} (h : Own w u p N S) (t1 : Tn No u u1) (s : ByteArray) (v : Value) (l : List UInt8) (hN : N < 9223372036854775807) (hs : s.size ≤ maxLen) (hv : BR u1 v l) (g : Nat) (hg : v.ownBlock = some g) (hgl : u.heap.size ≤ g) (hll : l.length ≤ N + 1) :
    Calls Try.prog 28 #[.pointer (some ⟨p, 0, none⟩), .string s, v] u1 fun e u' => e = .returned (.tuple #[]) ∧ Own w u' p (N + 1) (S.put s.data.toList l) := by
  obtain ⟨L, hp, t, hl⟩ := h
  have hL : L g = none := by
    cases e : L g with
    | none => rfl
    | some x => have := hp.lt g (by rw [e]; simp); omega
  obtain ⟨c, mo, iv, tv, vs, hx⟩ := hp
  have hx1 := (hx.no t1).name g (hv.lt g hg) hL (.fl s.data.toList)
  have hgw : w.heap.size ≤ g := Nat.le_trans t.size hgl
  refine (put_raw p _ N S s v l u1 ⟨_, _, _, _, _, hx1⟩ hN hs hv (fun g' hg' => by rw [hg] at hg'; cases hg'; exact upd_same _ _ _) hll).mono (fun e u' ⟨h1, h2⟩ => ⟨h1, ?_⟩)
  refine Own.lft (t.then t1) (fun k hk => ?_) h2
  by_cases e1 : k = g
  · omega
  · rw [upd_other _ _ e1] at hk; exact hl k hk

/-- the files as they are laid in, one after another -/
def addF (fs : List UInt8 → Option (List UInt8)) (f : ByteArray × ByteArray) : List UInt8 → Option (List UInt8) :=
  if okName f.1 = true ∧ (fs f.1.data.toList).isSome = false then fun x => if x = f.1.data.toList then some f.2.data.toList else fs x else fs
def filesOf (fl : List (ByteArray × ByteArray)) : List UInt8 → Option (List UInt8) := fl.foldl addF (fun _ => none)

structure FilesAt (w : World) (a : Option Addr) (n M : Nat) (fl : List (ByteArray × ByteArray)) : Prop where
  len : fl.length = n
  at' : 0 < n → ∃ g off, a = some ⟨g, off, none⟩ ∧ g < w.heap.size ∧ ∀ j (hj : j < fl.length), w.cell? ⟨g, off + j * 2, none⟩ = some (.string fl[j].1) ∧ w.cell? ⟨g, off + j * 2 + 1, none⟩ = some (.string fl[j].2)
  big : ∀ j (hj : j < fl.length), fl[j].1.size ≤ maxLen ∧ fl[j].2.size ≤ M

set_option maxHeartbeats 4000000 in
set_option maxRecDepth 100000 in
theorem new_raw (s : ByteArray) (a : Option Addr) (n cn M : Nat) (fl : List (ByteArray × ByteArray)) (w : World) (hs : s.size ≤ maxLen) (hf : FilesAt w a n M fl) (hM : M ≤ 1099511627776) (hn : n ≤ 1099511627776) :
    Calls Try.prog 9 #[.agg #[.string s, .slice a n cn]] w fun e u => ∃ p, e = .returned (.pointer (some ⟨p, 0, none⟩)) ∧ Own w u p (M + n) (initSt (filesOf fl) s) := by
  have HF := hid hf
  clear hf
  go_enter Try.func9, Try.ntmps9
  go_wp2_with (refine wpList_bytes _ rfl (.tmp 7) rfl s rfl hs ?_; intro g cap w1 hbr t1 hg1 hg2; obtain ⟨o1, o2⟩ := t1.old; have hz1 := t1.size; simp at hz1; have q1 : w1.cell? ⟨w.heap.size, 1, none⟩ = some (.slice a n cn) := (by rw [o1 _ _ (by simp), World.cell?_alloc_new]; rfl); have hlt : w.heap.size < w1.heap.size := hz1; clear o1 o2)
  have hown : Own w (w1.alloc (.cells (zeroCells (.slice (some ⟨g, 0, none⟩) s.size cap)).toArray 71)) w1.heap.size 0 (rawSt (fun _ => none) s) := by
    refine ⟨_, zero_px hbr rfl, (Tn.alloc (Tn.refl _ _) _ |>.then t1).alloc _, fun k hk => ?_⟩
    by_cases e1 : k = g
    · subst e1; simp at hg1; omega
    · rw [upd_other _ _ e1] at hk
      by_cases e2 : k = w1.heap.size
      · omega
      · rw [upd_other _ _ e2] at hk; exact absurd rfl hk
  have HOWN := hid hown
  obtain ⟨p, hp⟩ : ∃ p, w1.heap.size = p := ⟨_, rfl⟩
  rw [hp] at HOWN ⊢
  clear hown hbr hp hg1 hg2 hz1 hlt q1 t1
  go_loopw [14] (fun i u => ∃ k : Nat, k ≤ n ∧ i = .int .i64 (k : Int) ∧ Hid (Own w u p (M + k) (rawSt (filesOf (fl.take k)) s))) (fun i _ => n - (intOf i).toNat)
  case atStart => exact ⟨0, by omega, rfl, hid (HOWN.out.mono (by omega))⟩
  case round =>
    obtain ⟨k, hk, rfl, HO⟩ := hrel
    clear HOWN
    by_cases hlt : k < n
    · have hkl : k < fl.length := by rw [HF.out.len]; exact hlt
      obtain ⟨b, off, rfl, hbl, hbc⟩ := HF.out.at' (by omega)
      obtain ⟨c0, c1⟩ := hbc k hkl
      obtain ⟨z0, z1⟩ := HF.out.big k hkl
      have t0 := HO.out.tn
      have r0 := (t0.cell hbl (fun e => e)).trans c0
      have r1 := (t0.cell hbl (fun e => e)).trans c1
      have htk : filesOf (fl.take (k + 1)) = addF (filesOf (fl.take k)) (fl[k]'hkl) := by
        unfold filesOf
        rw [List.take_succ_eq_append_getElem hkl, List.foldl_append]
        rfl
      have HTK := hid htk
      obtain ⟨f, hf⟩ : ∃ f, fl[k]'hkl = f := ⟨_, rfl⟩
      rw [hf] at r0 r1 z0 z1 HTK
      obtain ⟨nm, dt⟩ := f
      have r0 : wr.cell? ⟨b, off + k * 2, none⟩ = some (.string nm) := r0
      have r1 : wr.cell? ⟨b, off + k * 2 + 1, none⟩ = some (.string dt) := r1
      have hmb := fun u => maybe_raw nm u z0
      have HMB := hid hmb
      have hha : ∀ u, Tn No wr u → _ := fun u t => own_has (HO.out.no t) nm z0
      have HHA := hid hha
      have hki : (k : Int) < (n : Int) := by omega
      have hbw : b < wr.heap.size := Nat.lt_of_lt_of_le hbl t0.size
      have hdm : dt.size ≤ maxLen := by have : dt.size ≤ M := z1; unfold maxLen; omega
      have hdl : dt.data.toList.length ≤ M + k + 1 := by
        have : dt.data.toList.length = dt.size := by simp
        have : dt.size ≤ M := z1
        omega
      have hpu : ∀ u1 g cap, Tn No wr u1 → BR u1 (.slice (some ⟨g, 0, none⟩) dt.size cap) dt.data.toList → wr.heap.size ≤ g → _ := fun u1 g cap t hv hgl => own_put HO.out t nm _ _ (by omega) z0 hv g rfl hgl hdl
      have HPU := hid hpu
      clear hdl hmb hha hpu c0 c1 z0 z1 hbc hf htk
      obtain ⟨on, hon⟩ : ∃ on, okName nm = on := ⟨_, rfl⟩
      obtain ⟨ha, hha⟩ : ∃ ha, (rawSt (filesOf (fl.take k)) s).has nm = ha := ⟨_, rfl⟩
      have HON := hid hon
      have HHS := hid hha
      rw [hon] at HMB
      rw [hha] at HHA
      clear hon hha
      cases on with
      | false =>
        go_wp2_with (first
          | (go_at_call 26; refine (HMB.out _).mono ?_; rintro e w2 ⟨rfl, rfl⟩))
        go_roundw
        case rel => exact ⟨k + 1, by omega, by go_num, hid (by rw [HTK.out]; unfold addF; rw [if_neg (by simp [HON.out])]; exact ((HO.out.no (by repeat (first | exact Tn.refl _ _ | apply Tn.drew | apply Tn.drewN | apply Tn.alloc | (refine Tn.then ?_ (by assumption)) | (refine Tn.thenNo ?_ (by assumption))))).mono (by omega)))⟩
        case measure => simp [intOf]; omega
      | true =>
        cases ha with
        | true =>
          go_wp2_with (first
            | (go_at_call 26; refine (HMB.out _).mono ?_; rintro e w2 ⟨rfl, rfl⟩)
            | (go_at_call 27; refine (HHA.out _ (by repeat (first | exact Tn.refl _ _ | apply Tn.drew | apply Tn.drewN | apply Tn.alloc | (refine Tn.then ?_ (by assumption)) | (refine Tn.thenNo ?_ (by assumption))))).mono ?_; rintro e w2 ⟨rfl, rfl⟩))
          go_roundw
          case rel => exact ⟨k + 1, by omega, by go_num, hid (by rw [HTK.out]; unfold addF; rw [if_neg (by have h := HHS.out; unfold St.has rawSt at h; simp only at h; rw [h]; simp)]; exact ((HO.out.no (by repeat (first | exact Tn.refl _ _ | apply Tn.drew | apply Tn.drewN | apply Tn.alloc | (refine Tn.then ?_ (by assumption)) | (refine Tn.thenNo ?_ (by assumption))))).mono (by omega)))⟩
          case measure => simp [intOf]; omega
        | false =>
          go_wp2_with (first
            | (go_at_call 26; refine (HMB.out _).mono ?_; rintro e w2 ⟨rfl, rfl⟩)
            | (go_at_call 27; refine (HHA.out _ (by repeat (first | exact Tn.refl _ _ | apply Tn.drew | apply Tn.drewN | apply Tn.alloc | (refine Tn.then ?_ (by assumption)) | (refine Tn.thenNo ?_ (by assumption))))).mono ?_; rintro e w2 ⟨rfl, rfl⟩)
            | (go_at_call 28; refine (HPU.out w3 g2 cap2 (by repeat (first | exact Tn.refl _ _ | apply Tn.drew | apply Tn.drewN | apply Tn.alloc | (refine Tn.then ?_ (by assumption)) | (refine Tn.thenNo ?_ (by assumption)))) hbr2 (by simp at hgl2; omega)).mono ?_; rintro e w4 ⟨rfl, ho4⟩)
            | (refine wpList_bytes _ rfl (.tmp 32) rfl dt rfl hdm ?_; intro g2 cap2 w3 hbr2 t3 hgl2 hgl3))
          go_roundw
          case rel => exact ⟨k + 1, by omega, by go_num, hid (by rw [HTK.out]; unfold addF; rw [if_pos (by have h := HHS.out; unfold St.has rawSt at h; exact ⟨HON.out, h⟩)]; exact ho4)⟩
          case measure => simp [intOf]; omega
    · obtain rfl : k = n := by omega
      have e : fl.take k = fl := List.take_of_length_le (by rw [HF.out.len]; exact Nat.le_refl _)
      rw [e] at HO
      obtain ⟨L, ⟨c, mo, iv, tv, vs, hx⟩, tn, hl⟩ := HO.out
      have k3 : wr.cell? ⟨p, 3, none⟩ = some (.int .i64 0) := (hx.de 0 (by omega)).1
      have k6 : wr.cell? ⟨p, 6, none⟩ = some (.int .i64 0) := (hx.de 1 (by omega)).1
      have k9 : wr.cell? ⟨p, 9, none⟩ = some (.int .i64 0) := (hx.de 2 (by omega)).1
      have f3 := hx.sc.froz 3
      have f6 := hx.sc.froz 6
      have f9 := hx.sc.froz 9
      have plt := hx.sc.lt
      have hfin : ∀ u, Tn No (((wr.setCell ⟨p, 3, none⟩ (.int .i64 1)).setCell ⟨p, 6, none⟩ (.int .i64 2)).setCell ⟨p, 9, none⟩ (.int .i64 3)) u → Own w u p (M + k) (initSt (filesOf fl) s) := fun u t => by
        have h3 := ((hx.setKd 0 (by omega) 1).setKd 1 (by omega) 2).setKd 2 (by omega) 3
        rw [raw_init] at h3
        have hpw : w.heap.size ≤ p := hl p (by rw [hx.labs]; simp)
        exact ⟨L, ⟨_, _, _, _, _, h3.no t⟩, (((tn.set _ _ (fun h => by simp only at h; omega)).set _ _ (fun h => by simp only at h; omega)).set _ _ (fun h => by simp only at h; omega)).then t, hl⟩
      have HFIN := hid hfin
      clear hfin hx tn hl e HO
      go_wp2
      go_ret
      exact ⟨p, rfl, HFIN.out _ (by repeat (first | exact Tn.refl _ _ | apply Tn.drew | apply Tn.drewN | apply Tn.alloc | (refine Tn.then ?_ (by assumption)) | (refine Tn.thenNo ?_ (by assumption))))⟩
end Go.Proofs.Ytkbdgdcicflocaa
