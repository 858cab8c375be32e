/-
  has, put, at, lowestFree.
-/
import Derived.Test.YtkbdgdcicflocaaLine
import Derived.Deep.MidRow
namespace Go.Proofs.Ytkbdgdcicflocaa
set_option linter.unusedSimpArgs false
set_option linter.unusedVariables false
open Go.RowKit
attribute [local go_sem ↓] Go.wp_at_zero Go.wp_at_succ

/-- a look-up, at the operation -/
theorem wpList_look (w : World) {ops : Array Oper} {rest : List Oper} {o : Oper} {a : Act} {Q : Exit → Act → World → Prop} (hg : o.guard = none) (m x : Operand) (c : Bool) (hop : o.op = Op.lookup 65 m x c)
    (mo : Option Nat) (hm : a.eval m = .map mo) (s : ByteArray) (hx : a.eval x = .string s) (r : Value) (hrun : (Instr.lookup 65 (.map mo) (.string s) c).run Try.prog w = .ok r w)
    (hK : wpList Try.prog ops Q rest (a.put o.dst r) w) : wpList Try.prog ops Q (o :: rest) a w := by
  refine wpList_plain hg fun K' hK' => ?_
  unfold Oper.wp
  simp [execOp, hop, hm, hx, hrun, Result.andThen]
  exact hK' _ _ hK

/-- is there such a file? -/
def St.has (S : St) (s : ByteArray) : Bool := (S.fs s.data.toList).isSome

set_option maxHeartbeats 1000000 in
set_option maxRecDepth 100000 in
theorem has_raw (p : Nat) (L : Nat → Option Lab) (N : Nat) (S : St) (s : ByteArray) (w : World) (h : PW w p L N S) (hs : s.size ≤ maxLen) :
    Calls Try.prog 27 #[.pointer (some ⟨p, 0, none⟩), .string s] w fun e w' => e = .returned (.bool (S.has s)) ∧ w' = w := by
  obtain ⟨c, mo, iv, tv, vs, h⟩ := h
  have k0 := h.sc.cell 0 (by omega)
  rw [h.c0] at k0
  obtain ⟨v, hr, _⟩ := fm_look h.fm s hs
  have HR := hid hr
  clear hr h
  go_enter Try.func27, Try.ntmps27
  go_wp2_with (at_lookup; refine wpList_look _ rfl _ _ true rfl mo rfl s rfl _ HR.out ?_)
  go_ret
  exact ⟨rfl, rfl⟩

/-- the map is made -/
theorem PX.mkMap {w : World} {p : Nat} {L : Nat → Option Lab} {N : Nat} {S : St} {c : Nat → Value} {iv tv : Value} {vs : Nat → Value} (h : PX w p L N S c none iv tv vs) :
    PX ((w.setCell ⟨p, 0, none⟩ (.map (some w.heap.size))).alloc (.map #[] 0)) p (upd L w.heap.size (some .mp)) N S (upd c 0 (.map (some w.heap.size))) (some w.heap.size) iv tv vs := by
  have hL : L w.heap.size = none := by
    cases e : L w.heap.size with
    | none => rfl
    | some x => have := h.lt w.heap.size (by rw [e]; simp); omega
  obtain ⟨h1, h2, h3, h4, h5⟩ := h.store 0 (by omega) (.map (some w.heap.size))
  have t : Tn No (w.setCell ⟨p, 0, none⟩ (.map (some w.heap.size))) ((w.setCell ⟨p, 0, none⟩ (.map (some w.heap.size))).alloc (.map #[] 0)) := (by repeat (first | exact Tn.refl _ _ | apply Tn.drew | apply Tn.drewN | apply Tn.alloc | (refine Tn.then ?_ (by assumption)) | (refine Tn.thenNo ?_ (by assumption))))
  have hnone : ∀ k, S.fs k = none := by
    rcases h.fm with h | ⟨b, n, D, e, _⟩
    · exact h.2
    · cases e
  have up : ∀ {k : Nat} {x : Lab}, L k = some x → upd L w.heap.size (some .mp) k = some x := fun {k x} e => by
    rw [upd_other _ _ (by rintro rfl; rw [hL] at e; cases e)]; exact e
  refine { c0 := upd_same _ _ _, c1 := ?_, c2 := ?_, c60 := ?_, cd := fun i hi => ?_, pl := h.pl, sc := h1.kept (t.block p h1.lt (fun e => e)), labs := up h.labs, lt := fun k hk => ?_, fm := ?_, inp := h3.no t, labi := fun g hg => up (h.labi g hg), rd := h.rd, ew := ?_ }
  · rw [upd_other _ _ (by omega)]; exact h.c1
  · rw [upd_other _ _ (by omega)]; exact h.c2
  · rw [upd_other _ _ (by omega)]; exact h.c60
  · rw [upd_other _ _ (by omega), upd_other _ _ (by omega), upd_other _ _ (by omega)]; exact h.cd i hi
  · have e : ((w.setCell ⟨p, 0, none⟩ (.map (some w.heap.size))).alloc (.map #[] 0)).heap.size = w.heap.size + 1 := by simp
    rw [e]
    by_cases e : k = w.heap.size
    · omega
    · rw [upd_other _ _ e] at hk
      have := h.lt k hk
      omega
  · refine .inr ⟨w.heap.size, 0, .map [], rfl, Nat.zero_le _, upd_same _ _ _, ?_, fun k => ⟨by rw [hnone]; rfl, fun l hl => by rw [hnone] at hl; cases hl⟩⟩
    have := World.ownsMap_made (w.setCell ⟨p, 0, none⟩ (.map (some w.heap.size))) Try.prog 9 rawElem
    rw [h5] at this
    exact this
  · have hk : ∀ k, ((w.setCell ⟨p, 0, none⟩ (.map (some w.heap.size))).alloc (.map #[] 0)).heap[k]? = (w.setCell ⟨p, 0, none⟩ (.map (some w.heap.size))).heap[k]? ∨ L k = none := fun k => by
      cases e : L k with
      | none => exact .inr rfl
      | some x => exact .inl (t.block k (by rw [h5]; exact h.lt k (by rw [e]; simp)) (fun e => e))
    have h6 : EW ((w.setCell ⟨p, 0, none⟩ (.map (some w.heap.size))).alloc (.map #[] 0)) L N tv S.tr vs := h4.kept (fun k hl => (hk k).resolve_right hl)
    exact ⟨h6.rw, fun g hg => up (h6.lab g hg), h6.len, fun i e he => by
      obtain ⟨a, b, c, d, f, g⟩ := h6.ev i e he
      exact ⟨a, b, c, d, fun g hg => up (f g hg), g⟩⟩

/-- a file is stored -/
theorem PX.putFile {w : World} {p : Nat} {L : Nat → Option Lab} {N b : Nat} {S : St} {c : Nat → Value} {iv tv : Value} {vs : Nat → Value} (h : PX w p L N S c (some b) iv tv vs) (hN : N < maxLen) (s : ByteArray) (hs : s.size ≤ maxLen) (v : Value) (l : List UInt8) (hv : BR w v l) (hlv : ∀ g, v.ownBlock = some g → L g = some (.fl s.data.toList)) (hll : l.length ≤ N + 1) :
    ∃ w', (Instr.mapUpdate 65 (.map (some b)) (.string s) v).run Try.prog w = .ok () w' ∧ PX w' p L (N + 1) (S.put s.data.toList l) c (some b) iv tv vs ∧ Tn (fun k => L k ≠ none) w w' := by
  obtain ⟨w', hr, hfm, hg, hb⟩ := fm_store h.fm hN s hs v l hv hlv hll
  have hk : ∀ k, L k ≠ none → L k ≠ some .mp → w'.heap[k]? = w.heap[k]? := fun k h1 h2 => hg.block k (h.lt k h1) (by rintro ⟨⟩; exact h2 hb)
  have hm := h.mono (Nat.le_succ N)
  refine ⟨w', hr, { hm with sc := h.sc.kept (hk p (by rw [h.labs]; simp) (by rw [h.labs]; simp)), lt := fun k hk => Nat.lt_of_lt_of_le (h.lt k hk) hg.size, fm := hfm, inp := h.inp.kept (fun g hg => hk g (by rw [h.labi g hg]; simp) (by rw [h.labi g hg]; simp)), ew := hm.ew.kept2 (fun k hl => ?_) }, (Tn.of_grown hg).mono (fun i _ e => by cases e; rw [hb]; simp)⟩
  rcases hl with hl | ⟨n, hl⟩ <;> exact hk k (by rw [hl]; simp) (by rw [hl]; simp)

/-- 'm[k] = v' at the operation -/
theorem wpList_putFile (w : World) {ops : Array Oper} {rest : List Oper} {o : Oper} {a : Act} {Q : Exit → Act → World → Prop} (hg : o.guard = none) (m x y : Operand) (hop : o.op = Op.mapUpdate 65 m x y)
    (mo : Option Nat) (hm : a.eval m = .map mo) (s : ByteArray) (hx : a.eval x = .string s) (v : Value) (hy : a.eval y = v) (w' : World) (hrun : (Instr.mapUpdate 65 (.map mo) (.string s) v).run Try.prog w = .ok () w')
    (hK : wpList Try.prog ops Q rest (a.put o.dst undef) w') : wpList Try.prog ops Q (o :: rest) a w := by
  refine wpList_plain hg fun K' hK' => ?_
  unfold Oper.wp
  simp [execOp, hop, hm, hx, hy, hrun, Result.andThen]
  exact hK' _ _ hK

def PutPost (w : World) (p : Nat) (L : Nat → Option Lab) (N : Nat) (S' : St) (e : Ending) (w' : World) : Prop :=
  e = .returned (.tuple #[]) ∧ Lft w p L w' (N + 1) S' ∧ ∀ bm, w.cell? ⟨p, 0, none⟩ = some (.map (some bm)) → w'.cell? ⟨p, 0, none⟩ = some (.map (some bm))

theorem eqlSome (b : Nat) (w : World) : (binOp .eql 65 (.map (some b)) (.map none)).run Try.prog w = .ok (.bool false) w := by kernel_rfl
theorem eqlNil (w : World) : (binOp .eql 65 (.map none) (.map none)).run Try.prog w = .ok (.bool true) w := by kernel_rfl

set_option maxHeartbeats 1000000 in
set_option maxRecDepth 100000 in
theorem put_raw2 (p : Nat) (L : Nat → Option Lab) (N : Nat) (S : St) (s : ByteArray) (v : Value) (l : List UInt8) (w : World) (h : PW w p L N S) (hN : N < 9223372036854775807) (hs : s.size ≤ maxLen) (hv : BR w v l) (hlv : ∀ g, v.ownBlock = some g → L g = some (.fl s.data.toList)) (hll : l.length ≤ N + 1) :
    Calls Try.prog 28 #[.pointer (some ⟨p, 0, none⟩), .string s, v] w (PutPost w p L N (S.put s.data.toList l)) := by
  obtain ⟨c, mo, iv, tv, vs, h⟩ := h
  have k0 := h.sc.cell 0 (by omega)
  rw [h.c0] at k0
  have f0 := h.sc.froz 0
  have plt := h.sc.lt
  have hq1 := eqlSome
  have hq2 := eqlNil
  cases mo with
  | none =>
    have hmk := h.mkMap
    have hbr : BR ((w.setCell ⟨p, 0, none⟩ (.map (some w.heap.size))).alloc (.map #[] 0)) v l := by
      have hne : ∀ g, v.ownBlock = some g → g ≠ p := fun g hg e => by
        have := hlv g hg
        rw [e, h.labs] at this
        cases this
      refine hv.kept (fun g hg => ?_)
      rw [Below.heap_alloc _ _ _ (by simpa using hv.lt g hg), Below.heap_setCell _ _ _ _ (hne g hg)]
    have hlv' : ∀ g, v.ownBlock = some g → upd L w.heap.size (some .mp) g = some (.fl s.data.toList) := fun g hg => by
      rw [upd_other _ _ (by have := hv.lt g hg; omega)]; exact hlv g hg
    obtain ⟨w', hr, hpx, ht⟩ := hmk.putFile (by unfold maxLen; omega) s hs v l hbr hlv' hll
    have t : Tn (fun k => L k ≠ none) w w' := by
      refine (((Tn.refl _ w).own h.labs 0 _).alloc _).trans ht (fun _ _ e => e) (fun i hi e => ?_)
      rw [upd_other _ _ (by omega)] at e
      exact e
    have hend : Lft w p L w' (N + 1) (S.put s.data.toList l) := ⟨_, ⟨_, _, _, _, _, hpx⟩, t, fun k hk e => by rw [upd_other _ _ (by omega)]; exact e⟩
    have hno : ∀ bm, w.cell? ⟨p, 0, none⟩ = some (.map (some bm)) → w'.cell? ⟨p, 0, none⟩ = some (.map (some bm)) := fun bm e => by rw [k0] at e; cases e
    have HNO := hid hno
    have HR := hid hr
    have HE := hid hend
    clear hno hr hend hbr hlv' hpx ht t hmk hv hlv h
    have hmm := @run_makeMap Try.prog
    go_enter Try.func28, Try.ntmps28
    go_wp2_with (at_mapUpdate; refine wpList_putFile _ rfl _ _ _ rfl _ rfl s rfl v rfl w' HR.out ?_)
    go_end0
    exact ⟨rfl, HE.out, HNO.out⟩
  | some b =>
    obtain ⟨w', hr, hpx, ht⟩ := h.putFile (by unfold maxLen; omega) s hs v l hv hlv hll
    have hend : Lft w p L w' (N + 1) (S.put s.data.toList l) := ⟨_, ⟨_, _, _, _, _, hpx⟩, ht, fun k hk e => e⟩
    have hno : ∀ bm, w.cell? ⟨p, 0, none⟩ = some (.map (some bm)) → w'.cell? ⟨p, 0, none⟩ = some (.map (some bm)) := fun bm e => by
      rw [k0] at e; cases e; exact (hpx.sc.cell 0 (by omega)).trans (by rw [hpx.c0])
    have HNO := hid hno
    have HR := hid hr
    have HE := hid hend
    clear hno hr hend hpx ht hv hlv h
    go_enter Try.func28, Try.ntmps28
    go_wp2_with (at_mapUpdate; refine wpList_putFile _ rfl _ _ _ rfl _ rfl s rfl v rfl w' HR.out ?_)
    go_end0
    exact ⟨rfl, HE.out, HNO.out⟩

theorem put_raw (p : Nat) (L : Nat → Option Lab) (N : Nat) (S : St) (s : ByteArray) (v : Value) (l : List UInt8) (w : World) (h : PW w p L N S) (hN : N < 9223372036854775807) (hs : s.size ≤ maxLen) (hv : BR w v l) (hlv : ∀ g, v.ownBlock = some g → L g = some (.fl s.data.toList)) (hll : l.length ≤ N + 1) :
    Calls Try.prog 28 #[.pointer (some ⟨p, 0, none⟩), .string s, v] w fun e w' => e = .returned (.tuple #[]) ∧ Lft w p L w' (N + 1) (S.put s.data.toList l) :=
  (put_raw2 p L N S s v l w h hN hs hv hlv hll).mono (fun _ _ h => ⟨h.1, h.2.1⟩)

/-- a descriptor that is none -/
def noDe : De := ⟨0, ⟨#[]⟩, 0⟩
def St.at (S : St) (fd : Int) : De := if 0 ≤ fd ∧ fd < 19 then S.ds fd.toNat else noDe
def dv (d : De) : Value := .agg #[.int .i64 d.kind, .string d.name, .int .i64 (d.place : Int)]

set_option maxHeartbeats 1000000 in
set_option maxRecDepth 100000 in
theorem at_raw (p : Nat) (L : Nat → Option Lab) (N : Nat) (S : St) (fd : Int) (w : World) (h : PW w p L N S) (h0 : -9223372036854775808 ≤ fd) (h1 : fd ≤ 9223372036854775807) :
    Calls Try.prog 50 #[.pointer (some ⟨p, 0, none⟩), .int .i64 fd] w fun e w' => e = .returned (dv (S.at fd)) ∧ Tn No w w' := by
  have plt := h.plt
  by_cases hr : 0 ≤ fd ∧ fd < 19
  · obtain ⟨c, mo, iv, tv, vs, h⟩ := h
    have ha : S.at fd = S.ds fd.toNat := by unfold St.at; rw [if_pos hr]
    rw [ha]
    obtain ⟨hr0, hr1⟩ := hr
    obtain ⟨i, rfl⟩ : ∃ i : Nat, fd = (i : Int) := ⟨fd.toNat, by omega⟩
    rw [Int.toNat_natCast]
    have hi : i < 19 := by omega
    obtain ⟨k0, k1, k2⟩ := h.de i hi
    clear h ha
    go_enter Try.func50, Try.ntmps50
    go_wp2
    exact bodyPost_ret (v := dv (S.ds i)) (by simp [results, Try.results50, go_sem, dv]) rfl ⟨rfl, (by repeat (first | exact Tn.refl _ _ | apply Tn.drew | apply Tn.drewN | apply Tn.alloc | (refine Tn.then ?_ (by assumption)) | (refine Tn.thenNo ?_ (by assumption))))⟩
  · have ha : S.at fd = noDe := by unfold St.at; rw [if_neg hr]
    rw [ha]
    clear ha h
    by_cases hlt : fd < 0
    · go_enter Try.func50, Try.ntmps50
      go_wp2
      exact bodyPost_ret (v := dv noDe) (by simp [results, Try.results50, go_sem, dv, noDe]) rfl ⟨rfl, (by repeat (first | exact Tn.refl _ _ | apply Tn.drew | apply Tn.drewN | apply Tn.alloc | (refine Tn.then ?_ (by assumption)) | (refine Tn.thenNo ?_ (by assumption))))⟩
    · have hge : 19 ≤ fd := by omega
      have hd1 : decide (fd < 0) = false := by simpa using hlt
      go_enter Try.func50, Try.ntmps50
      go_wp2
      exact bodyPost_ret (v := dv noDe) (by simp [results, Try.results50, go_sem, dv, noDe]) rfl ⟨rfl, (by repeat (first | exact Tn.refl _ _ | apply Tn.drew | apply Tn.drewN | apply Tn.alloc | (refine Tn.then ?_ (by assumption)) | (refine Tn.thenNo ?_ (by assumption))))⟩

/-! ### lowestFree -/

def dcells (c : Nat → Value) : Array Value := ((List.range 57).map fun j => c (3 + j)).toArray
theorem dcells_index (c : Nat → Value) (k : Nat) (hk : k < 19) (w : World) : (Instr.index 68 (.agg (dcells c)) (.int .i64 (k : Int))).run Try.prog w = .ok (.agg #[c (3 + k * 3), c (3 + k * 3 + 1), c (3 + k * 3 + 2)]) w := by
  have e : (dcells c).extract (k * 3) (k * 3 + 3) = #[c (3 + k * 3), c (3 + k * 3 + 1), c (3 + k * 3 + 2)] := by
    apply Array.ext
    · simp [dcells]; omega
    · intro i h1 h2
      simp at h2
      simp only [dcells, Array.getElem_extract, List.getElem_toArray, List.getElem_map, List.getElem_range]
      match i, h2 with
      | 0, _ => rfl
      | 1, _ => simp [Nat.add_assoc]
      | 2, _ => simp [Nat.add_assoc]
  have hsz : (sizeOf 67).run Try.prog w = .ok 3 w := by kernel_rfl
  have hag : (isAgg 67).run Try.prog w = .ok true w := by kernel_rfl
  have h0 : (0 : Int) ≤ k := by omega
  have h1 : (k : Int) < 19 := by omega
  have hp : (part 67 (dcells c) (k * 3)).run Try.prog w = .ok (.agg #[c (3 + k * 3), c (3 + k * 3 + 1), c (3 + k * 3 + 2)]) w := by
    simp [part, hag, hsz, e]
  simp [Instr.index, asIntOf, run_underlying Try.underlying68, h1, hsz, hp]
  omega

/-- the lowest free descriptor -/
def St.free (S : St) : Option Nat := (List.range 19).find? (fun i => (S.ds i).kind == 0)
theorem free_some (S : St) (k : Nat) (hk : k < 19) (h : ∀ i, i < k → ¬ (S.ds i).kind = 0) (h0 : (S.ds k).kind = 0) : S.free = some k := by
  unfold St.free
  rw [List.find?_eq_some_iff_getElem]
  refine ⟨by simpa using h0, k, by simpa using hk, by simp, fun j hj => ?_⟩
  simpa using h j hj
theorem free_none (S : St) (h : ∀ i, i < 19 → ¬ (S.ds i).kind = 0) : S.free = none := by
  unfold St.free
  rw [List.find?_eq_none]
  intro i hi
  simpa using h i (by simpa using hi)

def FreePost (S : St) (w : World) (e : Ending) (w' : World) : Prop :=
  Tn No w w' ∧ ((∃ k, k < 19 ∧ S.free = some k ∧ e = .returned (.tuple #[.int .i64 (k : Int), .bool true])) ∨ (S.free = none ∧ e = .returned (.tuple #[.int .i64 0, .bool false])))

set_option maxHeartbeats 1000000 in
set_option maxRecDepth 100000 in
theorem free_raw (p : Nat) (L : Nat → Option Lab) (N : Nat) (S : St) (w : World) (h : PW w p L N S) :
    Calls Try.prog 54 #[.pointer (some ⟨p, 0, none⟩)] w (FreePost S w) := by
  obtain ⟨c, mo, iv, tv, vs, h⟩ := h
  have hrange : w.rangeAt p 3 ((List.range 57).map fun j => c (3 + j)) := by
    intro j v hv
    obtain ⟨hj, e⟩ := List.getElem?_eq_some_iff.1 hv
    rw [List.length_map, List.length_range] at hj
    rw [h.sc.cell (3 + j) (by omega), ← e]
    simp
  obtain ⟨A, hA⟩ : ∃ A, dcells c = A := ⟨_, rfl⟩
  have hix : ∀ k : Nat, k < 19 → ∀ w' : World, (Instr.index 68 (.agg A) (.int .i64 (k : Int))).run Try.prog w' = .ok (.agg #[.int .i64 (S.ds k).kind, .string (S.ds k).name, .int .i64 ((S.ds k).place : Int)]) w' := fun k hk w' => by
    rw [← hA, dcells_index c k hk]
    obtain ⟨d0, d1, d2⟩ := h.cd k hk
    rw [d0, d1, d2]
  have HIX := hid hix
  have HRA := hid hrange
  have HA : Hid (((List.range 57).map fun j => c (3 + j)).toArray = A) := hA
  have plt := h.sc.lt
  clear hix hrange hA h
  go_enter Try.func54, Try.ntmps54
  go_wp2_with (refine wpList_load_mid rfl 68 _ rfl p 3 rfl _ _ HRA.out Try.underlying68 rfl (by kernel_rfl) ?_; rw [HA.out])
  go_loopw [12, 4, 5] (fun i _ _ wr => ∃ k : Nat, k ≤ 19 ∧ i = .int .i64 k ∧ (∀ j, j < k → ¬ (S.ds j).kind = 0) ∧ Tn No w wr) (fun i _ _ _ => 19 - (intOf i).toNat)
  case atStart => exact ⟨0, by omega, rfl, fun j hj => by omega, (by repeat (first | exact Tn.refl _ _ | apply Tn.drew | apply Tn.drewN | apply Tn.alloc | (refine Tn.then ?_ (by assumption)) | (refine Tn.thenNo ?_ (by assumption))))⟩
  case round =>
    obtain ⟨k, hk, rfl, hno, ht⟩ := hrel
    have HNO := hid hno
    have hz := ht.size
    clear hno
    by_cases hlt : k < 19
    · have hi := HIX.out k hlt
      by_cases h0 : (S.ds k).kind = 0
      · have H0 := hid h0
        have hd : ((S.ds k).kind == 0) = true := by simpa using h0
        clear h0
        go_wp2
        go_ret2
        exact ⟨(by repeat (first | exact Tn.refl _ _ | apply Tn.drew | apply Tn.drewN | apply Tn.alloc | (refine Tn.then ?_ (by assumption)) | (refine Tn.thenNo ?_ (by assumption)))), .inl ⟨k, hlt, free_some S k hlt HNO.out H0.out, rfl⟩⟩
      · have hd : ((S.ds k).kind == 0) = false := by simpa using h0
        go_wp2
        go_roundw
        case rel => exact ⟨k + 1, by omega, by go_num, fun j hj => by
          by_cases e : j = k
          · subst e; exact h0
          · exact HNO.out j (by omega), (by repeat (first | exact Tn.refl _ _ | apply Tn.drew | apply Tn.drewN | apply Tn.alloc | (refine Tn.then ?_ (by assumption)) | (refine Tn.thenNo ?_ (by assumption))))⟩
        case measure => simp [intOf]; omega
    · obtain rfl : k = 19 := by omega
      go_wp2
      go_ret2
      exact ⟨(by repeat (first | exact Tn.refl _ _ | apply Tn.drew | apply Tn.drewN | apply Tn.alloc | (refine Tn.then ?_ (by assumption)) | (refine Tn.thenNo ?_ (by assumption)))), .inr ⟨free_none S HNO.out, rfl⟩⟩
end Go.Proofs.Ytkbdgdcicflocaa
