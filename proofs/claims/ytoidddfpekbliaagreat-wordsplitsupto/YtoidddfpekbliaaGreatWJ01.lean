/-
  The small functions of the program: has a name a byte 0, may it be.
-/
import Derived.Test.YtoidddfpekbliaaGreatWJ00
import Derived.Lib.Walk
import Derived.Deep.LoopGhost
import Derived.Deep.MidRow
namespace Go.Proofs.YtoidddfpekbliaaGreat
set_option linter.unusedSimpArgs false
set_option linter.unusedVariables false
open Go.RowKit
attribute [local go_sem ↓] Go.wp_at_zero Go.wp_at_succ

theorem indexByte_mem (c : UInt8) : ∀ l : List UInt8, (0 ≤ Lib.indexByte l c) ↔ c ∈ l
  | [] => by simp [Lib.indexByte]
  | b :: l => by
    have ih := indexByte_mem c l
    have hg := Lib.indexByte_ge l c
    unfold Lib.indexByte
    by_cases hb : (b == c) = true
    · have : b = c := by simpa using hb
      simp [hb, this]
    · have hb' : (b == c) = false := by simpa using hb
      have hne : ¬ c = b := fun e => hb (by simp [e])
      simp only [hb', Bool.false_eq_true, if_false, List.mem_cons, hne, false_or]
      by_cases h1 : (Lib.indexByte l c == -1) = true
      · have : Lib.indexByte l c = -1 := by simpa using h1
        rw [← ih, this]
        simp
      · have : ¬ Lib.indexByte l c = -1 := by simpa using h1
        simp only [h1, Bool.false_eq_true, if_false]
        rw [← ih]
        omega

/-- has it a byte 0? -/
def zb (l : List UInt8) : Bool := l.contains 0
theorem zb_eq (l : List UInt8) : decide (0 ≤ Lib.indexByte l 0) = zb l := by
  rw [Bool.eq_iff_iff, decide_eq_true_iff, indexByte_mem]
  simp [zb]

set_option maxHeartbeats 1000000 in
set_option maxRecDepth 100000 in
theorem sIndexByte (s : ByteArray) (c : Int) (w : World) :
    Calls Tryz.prog 114 #[.string s, .int .u8 c] w fun e w' => e = .returned (.int .i64 (Lib.indexByte s.data.toList c.toNat.toUInt8)) ∧ w' = w := by
  go_enter Tryz.func114, Tryz.ntmps114
  go_wp2
  rw [run_callFunc_extern Tryz.func158 (by kernel_rfl) (by kernel_rfl) (by kernel_rfl) (e := Extern.BytealgIndexByte.indexByte) (by kernel_rfl), Lib.run_indexByteString]
  simp only [Result.andThen]
  rw [Oper.upon_value]
  go_wp2
  go_ret
  exact ⟨rfl, rfl⟩

set_option maxHeartbeats 1000000 in
theorem nought_raw (s : ByteArray) (w : World) : Calls Tryz.prog 71 #[.string s] w fun e w' => e = .returned (.bool (zb s.data.toList)) ∧ w' = w := by
  have hz := zb_eq s.data.toList
  go_enter Tryz.func71, Tryz.ntmps71
  go_wp2_with (go_at_call 114; refine (sIndexByte _ _ _).mono ?_; rintro e w' ⟨rfl, rfl⟩)
  go_ret
  exact ⟨rfl, rfl⟩

/-- may a name be? -/
def okName (s : ByteArray) : Bool := decide (1 ≤ s.size) && decide (s.size ≤ 255) && !zb s.data.toList

theorem toList_nil (s : ByteArray) : s.toList = [] ↔ s.size = 0 := by
  rw [ByteArray.toList_eq, List.eq_nil_iff_length_eq_zero, Array.length_toList]
  rfl
theorem toList_isEmpty (s : ByteArray) : s.toList.isEmpty = decide (s.size = 0) := by
  rw [Bool.eq_iff_iff, List.isEmpty_iff, decide_eq_true_iff, toList_nil]

set_option maxHeartbeats 1000000 in
theorem maybe_raw (s : ByteArray) (w : World) (hs : s.size ≤ maxLen) : Calls Tryz.prog 39 #[.string s] w fun e w' => e = .returned (.bool (okName s)) ∧ w' = w := by
  unfold maxLen at hs
  go_enter Tryz.func39, Tryz.ntmps39
  go_wp2_with (go_at_call 71; refine (nought_raw _ _).mono ?_; rintro e w' ⟨rfl, rfl⟩)
  · have h := (toList_nil s).1 (by assumption)
    go_ret
    exact ⟨ret_bool (by simp [okName, h]), rfl⟩
  · have h : ¬ s.toList = [] := by assumption
    have h2 : (s.size : Int) ≤ 255 := by assumption
    rw [toList_nil] at h
    go_ret
    refine ⟨ret_bool ?_, rfl⟩
    have h3 : decide (1 ≤ s.size) = true := by simp; omega
    have h4 : decide (s.size ≤ 255) = true := by simp; omega
    rw [toList_isEmpty]
    simp [okName, h, h3, h4]
  · have h2 : 255 < (s.size : Int) := by assumption
    go_ret
    refine ⟨ret_bool ?_, rfl⟩
    have h4 : decide (s.size ≤ 255) = false := by simp; omega
    simp [okName, h4]

/-! ### next, take -/

/-- the bytes from a place on, n at most -/
def nx (l : List UInt8) (pl n : Nat) : List UInt8 := (l.drop pl).take n
def str (l : List UInt8) : ByteArray := ⟨l.toArray⟩
theorem str_size (l : List UInt8) : (str l).size = l.length := by simp [str, ByteArray.size]
theorem str_data (l : List UInt8) : (str l).data.toList = l := by simp [str]

theorem br_window {w : World} {g cap : Nat} {l : List UInt8} (h : BR w (.slice (some ⟨g, 0, none⟩) l.length cap) l) (pl n c : Nat) (hn : pl + n ≤ l.length) :
    (convert 23 9 (.slice (some ⟨g, pl, none⟩) n c)).run Tryz.prog w = .ok (.string (str (nx l pl n))) w := by
  have hl : (nx l pl n).length = n := by simp [nx]; omega
  have := run_convert_bytes_back (P := Tryz.prog) w 23 9 5 ⟨g, pl, none⟩ c (nx l pl n) Tryz.underlying23 Tryz.underlying5 Tryz.underlying9 (fun j hj => by
    have e : (⟨g, pl, none⟩ : Addr).add j = ⟨g, pl + j, none⟩ := by simp [Addr.add]
    rw [e]
    have := h.at' (pl + j) (by omega)
    have e2 : (nx l pl n)[j] = l[pl + j]'(by omega) := by simp [nx]
    rw [e2]
    exact this)
  rw [hl] at this
  exact this

set_option maxHeartbeats 1000000 in
set_option maxRecDepth 100000 in
theorem next_raw (v : Value) (l : List UInt8) (pl : Nat) (n : Int) (w : World) (h : BR w v l) (hp : pl ≤ 9223372036854775807) (h0 : 0 ≤ n) (h1 : n ≤ 18446744073709551615) :
    Calls Tryz.prog 167 #[v, .int .i64 (pl : Int), .int .u64 n] w fun e w' => e = .returned (.string (str (nx l pl n.toNat))) ∧ w' = w := by
  obtain ⟨a, cap, rfl, hlc, hcm, hnil, hsome⟩ := h.rw.form
  by_cases hpl : l.length ≤ pl
  · go_enter Tryz.func167, Tryz.ntmps167
    go_wp2
    go_ret
    have : nx l pl n.toNat = [] := by simp [nx, List.drop_of_length_le hpl]
    rw [this]
    exact ⟨rfl, rfl⟩
  · cases a with
    | none => have := (hnil rfl).1; omega
    | some x =>
      obtain ⟨hx, hxl⟩ := hsome x rfl
      obtain ⟨g, o, sp⟩ := x
      cases hx
      obtain ⟨r, hr⟩ : ∃ r, l.length = pl + r := ⟨l.length - pl, by omega⟩
      obtain ⟨q, rfl⟩ : ∃ q, cap = pl + q := ⟨cap - pl, by omega⟩
      have hw := fun m c hm => br_window h pl m c hm
      rw [hr] at hw hlc hpl ⊢
      have hc1 : ¬ ((pl : Int) + (r : Int) ≤ (pl : Int)) := by omega
      clear h hnil hsome
      have hcv := hw (min n (r : Int)).toNat q (by omega)
      have HE : Hid (nx l pl (min n (r : Int)).toNat = nx l pl n.toNat) := by
        show (l.drop pl).take _ = (l.drop pl).take _
        by_cases hn : n ≤ (r : Int)
        · rw [Int.min_eq_left hn]
        · rw [Int.min_eq_right (by omega), List.take_of_length_le (by simp; omega), List.take_of_length_le (by simp; omega)]
      clear h1 hw
      go_enter Tryz.func167, Tryz.ntmps167
      go_wp2
      go_ret
      exact ⟨by rw [HE.out]; rfl, rfl⟩

/-! ### take -/

def St.read (S : St) (n : Nat) : St := { S with rd := S.rd + n }

set_option maxHeartbeats 1000000 in
set_option maxRecDepth 100000 in
theorem take_raw (p : Nat) (L : Nat → Option Lab) (N : Nat) (S : St) (n : Int) (w : World) (h : PW w p L N S) (h0 : 0 ≤ n) (h1 : n ≤ 18446744073709551615) :
    Calls Tryz.prog 166 #[.pointer (some ⟨p, 0, none⟩), .int .u64 n] w fun e w' => e = .returned (.string (str (nx S.inp S.rd n.toNat))) ∧ Lft w p L w' N (S.read (nx S.inp S.rd n.toNat).length) := by
  obtain ⟨c, mo, iv, tv, vs, h⟩ := h
  have k1 := h.sc.cell 1 (by omega)
  have k2 := h.sc.cell 2 (by omega)
  rw [h.c1] at k1
  rw [h.c2] at k2
  have f2 := h.sc.froz 2
  obtain ⟨a, cap, e, hlc, hcm, hnil, hsome⟩ := h.inp.rw.form
  have hrd := h.rd
  go_enter Tryz.func166, Tryz.ntmps166
  have hlen : (nx S.inp S.rd n.toNat).length ≤ S.inp.length - S.rd := by simp [nx]; omega
  have hcap : S.inp.length ≤ 9223372036854775807 := by omega
  have hsz := str_size (nx S.inp S.rd n.toNat)
  have INP := h.inp
  have HX := hid h
  have H0 := hid h0
  have H1 := hid h1
  clear h h0 h1 e hnil hsome hlc hcm
  go_wp2_with fail
  go_region_held3 (fun w' => w'.cell? ⟨p, 1, none⟩ = some iv ∧ w'.cell? ⟨p, 2, none⟩ = some (.int .i64 (S.rd : Int))) (go_keep) (first
    | (go_at_call 167; refine (next_raw iv S.inp S.rd n _ (by exact INP.no (by repeat (first | exact Tn.refl _ _ | apply Tn.drew | apply Tn.drewN | apply Tn.alloc | (refine Tn.then ?_ (by assumption)) | (refine Tn.thenNo ?_ (by assumption))))) (by omega) H0.out H1.out).mono ?_; rintro e w1 ⟨rfl, rfl⟩))
  go_wp2
  go_ret
  refine ⟨rfl, L, ⟨_, _, _, _, _, (HX.out.setRd (S.rd + (nx S.inp S.rd n.toNat).length) (by omega)).no (by repeat (first | exact Tn.refl _ _ | apply Tn.drew | apply Tn.drewN | apply Tn.alloc | (refine Tn.then ?_ (by assumption)) | (refine Tn.thenNo ?_ (by assumption))))⟩, ?_, fun _ _ e => e⟩
  exact ((Tn.refl _ _).own HX.out.labs 2 _).drew
end Go.Proofs.YtoidddfpekbliaaGreat
namespace Go.Proofs.YtoidddfpekbliaaGreat
set_option linter.unusedSimpArgs false
set_option linter.unusedVariables false
open Go.RowKit
attribute [local go_sem ↓] Go.wp_at_zero Go.wp_at_succ

def lineLen (l : List UInt8) : Nat := if 0 ≤ Lib.indexByte l 10 then (Lib.indexByte l 10).toNat + 1 else l.length

theorem indexByte_lt (c : UInt8) : ∀ l : List UInt8, Lib.indexByte l c < l.length ∨ (l = [] ∧ Lib.indexByte l c = -1)
  | [] => .inr ⟨rfl, rfl⟩
  | b :: l => by
    left
    have ih := indexByte_lt c l
    unfold Lib.indexByte
    rw [List.length_cons]
    split
    · omega
    · split
      · omega
      · rcases ih with h | ⟨rfl, h⟩
        · omega
        · rename_i h1; simp [Lib.indexByte] at h1
theorem lineLen_le (l : List UInt8) : lineLen l ≤ l.length := by
  unfold lineLen
  split
  · rcases indexByte_lt 10 l with h | ⟨rfl, h⟩
    · omega
    · simp [Lib.indexByte] at *
  · exact Nat.le_refl _

/-- what Line leaves -/
def LinePost (w : World) (p : Nat) (L : Nat → Option Lab) (N : Nat) (S : St) (e : Ending) (w' : World) : Prop :=
  e = .returned (.string (str (nx S.inp S.rd (lineLen (S.inp.drop S.rd))))) ∧ Lft w p L w' N (S.read (lineLen (S.inp.drop S.rd)))

end Go.Proofs.YtoidddfpekbliaaGreat
namespace Go.Proofs.YtoidddfpekbliaaGreat
set_option linter.unusedSimpArgs false
set_option linter.unusedVariables false
open Go.RowKit
attribute [local go_sem ↓] Go.wp_at_zero Go.wp_at_succ

/-- a look-up, at the operation -/
theorem wpList_look (w : World) {ops : Array Oper} {rest : List Oper} {o : Oper} {a : Act} {Q : Exit → Act → World → Prop} (hg : o.guard = none) (m x : Operand) (c : Bool) (hop : o.op = Op.lookup 90 m x c)
    (mo : Option Nat) (hm : a.eval m = .map mo) (s : ByteArray) (hx : a.eval x = .string s) (r : Value) (hrun : (Instr.lookup 90 (.map mo) (.string s) c).run Tryz.prog w = .ok r w)
    (hK : wpList Tryz.prog ops Q rest (a.put o.dst r) w) : wpList Tryz.prog ops Q (o :: rest) a w := by
  refine wpList_plain hg fun K' hK' => ?_
  unfold Oper.wp
  simp [execOp, hop, hm, hx, hrun, Result.andThen]
  exact hK' _ _ hK

/-- is there such a file? -/
def St.has (S : St) (s : ByteArray) : Bool := (S.fs s.data.toList).isSome

set_option maxHeartbeats 1000000 in
set_option maxRecDepth 100000 in
theorem has_raw (p : Nat) (L : Nat → Option Lab) (N : Nat) (S : St) (s : ByteArray) (w : World) (h : PW w p L N S) (hs : s.size ≤ maxLen) :
    Calls Tryz.prog 40 #[.pointer (some ⟨p, 0, none⟩), .string s] w fun e w' => e = .returned (.bool (S.has s)) ∧ w' = w := by
  obtain ⟨c, mo, iv, tv, vs, h⟩ := h
  have k0 := h.sc.cell 0 (by omega)
  rw [h.c0] at k0
  obtain ⟨v, hr, _⟩ := fm_look h.fm s hs
  have HR := hid hr
  clear hr h
  go_enter Tryz.func40, Tryz.ntmps40
  go_wp2_with (at_lookup; refine wpList_look _ rfl _ _ true rfl mo rfl s rfl _ HR.out ?_)
  go_ret
  exact ⟨rfl, rfl⟩

/-- the map is made -/
theorem PX.mkMap {w : World} {p : Nat} {L : Nat → Option Lab} {N : Nat} {S : St} {c : Nat → Value} {iv tv : Value} {vs : Nat → Value} (h : PX w p L N S c none iv tv vs) :
    PX ((w.setCell ⟨p, 0, none⟩ (.map (some w.heap.size))).alloc (.map #[] 0)) p (upd L w.heap.size (some .mp)) N S (upd c 0 (.map (some w.heap.size))) (some w.heap.size) iv tv vs := by
  have hL : L w.heap.size = none := by
    cases e : L w.heap.size with
    | none => rfl
    | some x => have := h.lt w.heap.size (by rw [e]; simp); omega
  obtain ⟨h1, h2, h3, h4, h5⟩ := h.store 0 (by omega) (.map (some w.heap.size))
  have t : Tn No (w.setCell ⟨p, 0, none⟩ (.map (some w.heap.size))) ((w.setCell ⟨p, 0, none⟩ (.map (some w.heap.size))).alloc (.map #[] 0)) := (by repeat (first | exact Tn.refl _ _ | apply Tn.drew | apply Tn.drewN | apply Tn.alloc | (refine Tn.then ?_ (by assumption)) | (refine Tn.thenNo ?_ (by assumption))))
  have hnone : ∀ k, S.fs k = none := by
    rcases h.fm with h | ⟨b, n, D, e, _⟩
    · exact h.2
    · cases e
  have up : ∀ {k : Nat} {x : Lab}, L k = some x → upd L w.heap.size (some .mp) k = some x := fun {k x} e => by
    rw [upd_other _ _ (by rintro rfl; rw [hL] at e; cases e)]; exact e
  refine { c0 := upd_same _ _ _, c1 := ?_, c2 := ?_, c60 := ?_, cd := fun i hi => ?_, pl := h.pl, sc := h1.kept (t.block p h1.lt (fun e => e)), labs := up h.labs, lt := fun k hk => ?_, fm := ?_, inp := h3.no t, labi := fun g hg => up (h.labi g hg), rd := h.rd, ew := ?_ }
  · rw [upd_other _ _ (by omega)]; exact h.c1
  · rw [upd_other _ _ (by omega)]; exact h.c2
  · rw [upd_other _ _ (by omega)]; exact h.c60
  · rw [upd_other _ _ (by omega), upd_other _ _ (by omega), upd_other _ _ (by omega)]; exact h.cd i hi
  · have e : ((w.setCell ⟨p, 0, none⟩ (.map (some w.heap.size))).alloc (.map #[] 0)).heap.size = w.heap.size + 1 := by simp
    rw [e]
    by_cases e : k = w.heap.size
    · omega
    · rw [upd_other _ _ e] at hk
      have := h.lt k hk
      omega
  · refine .inr ⟨w.heap.size, 0, .map [], rfl, Nat.zero_le _, upd_same _ _ _, ?_, fun k => ⟨by rw [hnone]; rfl, fun l hl => by rw [hnone] at hl; cases hl⟩⟩
    have := World.ownsMap_made (w.setCell ⟨p, 0, none⟩ (.map (some w.heap.size))) Tryz.prog 9 rawElem
    rw [h5] at this
    exact this
  · have hk : ∀ k, ((w.setCell ⟨p, 0, none⟩ (.map (some w.heap.size))).alloc (.map #[] 0)).heap[k]? = (w.setCell ⟨p, 0, none⟩ (.map (some w.heap.size))).heap[k]? ∨ L k = none := fun k => by
      cases e : L k with
      | none => exact .inr rfl
      | some x => exact .inl (t.block k (by rw [h5]; exact h.lt k (by rw [e]; simp)) (fun e => e))
    have h6 : EW ((w.setCell ⟨p, 0, none⟩ (.map (some w.heap.size))).alloc (.map #[] 0)) L N tv S.tr vs := h4.kept (fun k hl => (hk k).resolve_right hl)
    exact ⟨h6.rw, fun g hg => up (h6.lab g hg), h6.len, fun i e he => by
      obtain ⟨a, b, c, d, f, g⟩ := h6.ev i e he
      exact ⟨a, b, c, d, fun g hg => up (f g hg), g⟩⟩

/-- a file is stored -/
theorem PX.putFile {w : World} {p : Nat} {L : Nat → Option Lab} {N b : Nat} {S : St} {c : Nat → Value} {iv tv : Value} {vs : Nat → Value} (h : PX w p L N S c (some b) iv tv vs) (hN : N < maxLen) (s : ByteArray) (hs : s.size ≤ maxLen) (v : Value) (l : List UInt8) (hv : BR w v l) (hlv : ∀ g, v.ownBlock = some g → L g = some (.fl s.data.toList)) (hll : l.length ≤ N + 1) :
    ∃ w', (Instr.mapUpdate 90 (.map (some b)) (.string s) v).run Tryz.prog w = .ok () w' ∧ PX w' p L (N + 1) (S.put s.data.toList l) c (some b) iv tv vs ∧ Tn (fun k => L k ≠ none) w w' := by
  obtain ⟨w', hr, hfm, hg, hb⟩ := fm_store h.fm hN s hs v l hv hlv hll
  have hk : ∀ k, L k ≠ none → L k ≠ some .mp → w'.heap[k]? = w.heap[k]? := fun k h1 h2 => hg.block k (h.lt k h1) (by rintro ⟨⟩; exact h2 hb)
  have hm := h.mono (Nat.le_succ N)
  refine ⟨w', hr, { hm with sc := h.sc.kept (hk p (by rw [h.labs]; simp) (by rw [h.labs]; simp)), lt := fun k hk => Nat.lt_of_lt_of_le (h.lt k hk) hg.size, fm := hfm, inp := h.inp.kept (fun g hg => hk g (by rw [h.labi g hg]; simp) (by rw [h.labi g hg]; simp)), ew := hm.ew.kept2 (fun k hl => ?_) }, (Tn.of_grown hg).mono (fun i _ e => by cases e; rw [hb]; simp)⟩
  rcases hl with hl | ⟨n, hl⟩ <;> exact hk k (by rw [hl]; simp) (by rw [hl]; simp)

/-- 'm[k] = v' at the operation -/
theorem wpList_putFile (w : World) {ops : Array Oper} {rest : List Oper} {o : Oper} {a : Act} {Q : Exit → Act → World → Prop} (hg : o.guard = none) (m x y : Operand) (hop : o.op = Op.mapUpdate 90 m x y)
    (mo : Option Nat) (hm : a.eval m = .map mo) (s : ByteArray) (hx : a.eval x = .string s) (v : Value) (hy : a.eval y = v) (w' : World) (hrun : (Instr.mapUpdate 90 (.map mo) (.string s) v).run Tryz.prog w = .ok () w')
    (hK : wpList Tryz.prog ops Q rest (a.put o.dst undef) w') : wpList Tryz.prog ops Q (o :: rest) a w := by
  refine wpList_plain hg fun K' hK' => ?_
  unfold Oper.wp
  simp [execOp, hop, hm, hx, hy, hrun, Result.andThen]
  exact hK' _ _ hK

def PutPost (w : World) (p : Nat) (L : Nat → Option Lab) (N : Nat) (S' : St) (e : Ending) (w' : World) : Prop :=
  e = .returned (.tuple #[]) ∧ Lft w p L w' (N + 1) S' ∧ ∀ bm, w.cell? ⟨p, 0, none⟩ = some (.map (some bm)) → w'.cell? ⟨p, 0, none⟩ = some (.map (some bm))

theorem eqlSome (b : Nat) (w : World) : (binOp .eql 90 (.map (some b)) (.map none)).run Tryz.prog w = .ok (.bool false) w := by kernel_rfl
theorem eqlNil (w : World) : (binOp .eql 90 (.map none) (.map none)).run Tryz.prog w = .ok (.bool true) w := by kernel_rfl

set_option maxHeartbeats 1000000 in
set_option maxRecDepth 100000 in
theorem put_raw2 (p : Nat) (L : Nat → Option Lab) (N : Nat) (S : St) (s : ByteArray) (v : Value) (l : List UInt8) (w : World) (h : PW w p L N S) (hN : N < 9223372036854775807) (hs : s.size ≤ maxLen) (hv : BR w v l) (hlv : ∀ g, v.ownBlock = some g → L g = some (.fl s.data.toList)) (hll : l.length ≤ N + 1) :
    Calls Tryz.prog 41 #[.pointer (some ⟨p, 0, none⟩), .string s, v] w (PutPost w p L N (S.put s.data.toList l)) := by
  obtain ⟨c, mo, iv, tv, vs, h⟩ := h
  have k0 := h.sc.cell 0 (by omega)
  rw [h.c0] at k0
  have f0 := h.sc.froz 0
  have plt := h.sc.lt
  have hq1 := eqlSome
  have hq2 := eqlNil
  cases mo with
  | none =>
    have hmk := h.mkMap
    have hbr : BR ((w.setCell ⟨p, 0, none⟩ (.map (some w.heap.size))).alloc (.map #[] 0)) v l := by
      have hne : ∀ g, v.ownBlock = some g → g ≠ p := fun g hg e => by
        have := hlv g hg
        rw [e, h.labs] at this
        cases this
      refine hv.kept (fun g hg => ?_)
      rw [Below.heap_alloc _ _ _ (by simpa using hv.lt g hg), Below.heap_setCell _ _ _ _ (hne g hg)]
    have hlv' : ∀ g, v.ownBlock = some g → upd L w.heap.size (some .mp) g = some (.fl s.data.toList) := fun g hg => by
      rw [upd_other _ _ (by have := hv.lt g hg; omega)]; exact hlv g hg
    obtain ⟨w', hr, hpx, ht⟩ := hmk.putFile (by unfold maxLen; omega) s hs v l hbr hlv' hll
    have t : Tn (fun k => L k ≠ none) w w' := by
      refine (((Tn.refl _ w).own h.labs 0 _).alloc _).trans ht (fun _ _ e => e) (fun i hi e => ?_)
      rw [upd_other _ _ (by omega)] at e
      exact e
    have hend : Lft w p L w' (N + 1) (S.put s.data.toList l) := ⟨_, ⟨_, _, _, _, _, hpx⟩, t, fun k hk e => by rw [upd_other _ _ (by omega)]; exact e⟩
    have hno : ∀ bm, w.cell? ⟨p, 0, none⟩ = some (.map (some bm)) → w'.cell? ⟨p, 0, none⟩ = some (.map (some bm)) := fun bm e => by rw [k0] at e; cases e
    have HNO := hid hno
    have HR := hid hr
    have HE := hid hend
    clear hno hr hend hbr hlv' hpx ht t hmk hv hlv h
    have hmm := @run_makeMap Tryz.prog
    go_enter Tryz.func41, Tryz.ntmps41
    go_wp2_with (at_mapUpdate; refine wpList_putFile _ rfl _ _ _ rfl _ rfl s rfl v rfl w' HR.out ?_)
    go_end0
    exact ⟨rfl, HE.out, HNO.out⟩
  | some b =>
    obtain ⟨w', hr, hpx, ht⟩ := h.putFile (by unfold maxLen; omega) s hs v l hv hlv hll
    have hend : Lft w p L w' (N + 1) (S.put s.data.toList l) := ⟨_, ⟨_, _, _, _, _, hpx⟩, ht, fun k hk e => e⟩
    have hno : ∀ bm, w.cell? ⟨p, 0, none⟩ = some (.map (some bm)) → w'.cell? ⟨p, 0, none⟩ = some (.map (some bm)) := fun bm e => by
      rw [k0] at e; cases e; exact (hpx.sc.cell 0 (by omega)).trans (by rw [hpx.c0])
    have HNO := hid hno
    have HR := hid hr
    have HE := hid hend
    clear hno hr hend hpx ht hv hlv h
    go_enter Tryz.func41, Tryz.ntmps41
    go_wp2_with (at_mapUpdate; refine wpList_putFile _ rfl _ _ _ rfl _ rfl s rfl v rfl w' HR.out ?_)
    go_end0
    exact ⟨rfl, HE.out, HNO.out⟩

theorem put_raw (p : Nat) (L : Nat → Option Lab) (N : Nat) (S : St) (s : ByteArray) (v : Value) (l : List UInt8) (w : World) (h : PW w p L N S) (hN : N < 9223372036854775807) (hs : s.size ≤ maxLen) (hv : BR w v l) (hlv : ∀ g, v.ownBlock = some g → L g = some (.fl s.data.toList)) (hll : l.length ≤ N + 1) :
    Calls Tryz.prog 41 #[.pointer (some ⟨p, 0, none⟩), .string s, v] w fun e w' => e = .returned (.tuple #[]) ∧ Lft w p L w' (N + 1) (S.put s.data.toList l) :=
  (put_raw2 p L N S s v l w h hN hs hv hlv hll).mono (fun _ _ h => ⟨h.1, h.2.1⟩)

/-- a descriptor that is none -/
def noDe : De := ⟨0, ⟨#[]⟩, 0⟩
def St.at (S : St) (fd : Int) : De := if 0 ≤ fd ∧ fd < 19 then S.ds fd.toNat else noDe
def dv (d : De) : Value := .agg #[.int .i64 d.kind, .string d.name, .int .i64 (d.place : Int)]

set_option maxHeartbeats 1000000 in
set_option maxRecDepth 100000 in
theorem at_raw (p : Nat) (L : Nat → Option Lab) (N : Nat) (S : St) (fd : Int) (w : World) (h : PW w p L N S) (h0 : -9223372036854775808 ≤ fd) (h1 : fd ≤ 9223372036854775807) :
    Calls Tryz.prog 165 #[.pointer (some ⟨p, 0, none⟩), .int .i64 fd] w fun e w' => e = .returned (dv (S.at fd)) ∧ Tn No w w' := by
  have plt := h.plt
  by_cases hr : 0 ≤ fd ∧ fd < 19
  · obtain ⟨c, mo, iv, tv, vs, h⟩ := h
    have ha : S.at fd = S.ds fd.toNat := by unfold St.at; rw [if_pos hr]
    rw [ha]
    obtain ⟨hr0, hr1⟩ := hr
    obtain ⟨i, rfl⟩ : ∃ i : Nat, fd = (i : Int) := ⟨fd.toNat, by omega⟩
    rw [Int.toNat_natCast]
    have hi : i < 19 := by omega
    obtain ⟨k0, k1, k2⟩ := h.de i hi
    clear h ha
    go_enter Tryz.func165, Tryz.ntmps165
    go_wp2
    exact bodyPost_ret (v := dv (S.ds i)) (by simp [results, Tryz.results165, go_sem, dv]) rfl ⟨rfl, (by repeat (first | exact Tn.refl _ _ | apply Tn.drew | apply Tn.drewN | apply Tn.alloc | (refine Tn.then ?_ (by assumption)) | (refine Tn.thenNo ?_ (by assumption))))⟩
  · have ha : S.at fd = noDe := by unfold St.at; rw [if_neg hr]
    rw [ha]
    clear ha h
    by_cases hlt : fd < 0
    · go_enter Tryz.func165, Tryz.ntmps165
      go_wp2
      exact bodyPost_ret (v := dv noDe) (by simp [results, Tryz.results165, go_sem, dv, noDe]) rfl ⟨rfl, (by repeat (first | exact Tn.refl _ _ | apply Tn.drew | apply Tn.drewN | apply Tn.alloc | (refine Tn.then ?_ (by assumption)) | (refine Tn.thenNo ?_ (by assumption))))⟩
    · have hge : 19 ≤ fd := by omega
      have hd1 : decide (fd < 0) = false := by simpa using hlt
      go_enter Tryz.func165, Tryz.ntmps165
      go_wp2
      exact bodyPost_ret (v := dv noDe) (by simp [results, Tryz.results165, go_sem, dv, noDe]) rfl ⟨rfl, (by repeat (first | exact Tn.refl _ _ | apply Tn.drew | apply Tn.drewN | apply Tn.alloc | (refine Tn.then ?_ (by assumption)) | (refine Tn.thenNo ?_ (by assumption))))⟩

/-! ### lowestFree -/

def dcells (c : Nat → Value) : Array Value := ((List.range 57).map fun j => c (3 + j)).toArray
theorem dcells_index (c : Nat → Value) (k : Nat) (hk : k < 19) (w : World) : (Instr.index 93 (.agg (dcells c)) (.int .i64 (k : Int))).run Tryz.prog w = .ok (.agg #[c (3 + k * 3), c (3 + k * 3 + 1), c (3 + k * 3 + 2)]) w := by
  have e : (dcells c).extract (k * 3) (k * 3 + 3) = #[c (3 + k * 3), c (3 + k * 3 + 1), c (3 + k * 3 + 2)] := by
    apply Array.ext
    · simp [dcells]; omega
    · intro i h1 h2
      simp at h2
      simp only [dcells, Array.getElem_extract, List.getElem_toArray, List.getElem_map, List.getElem_range]
      match i, h2 with
      | 0, _ => rfl
      | 1, _ => simp [Nat.add_assoc]
      | 2, _ => simp [Nat.add_assoc]
  have hsz : (sizeOf 92).run Tryz.prog w = .ok 3 w := by kernel_rfl
  have hag : (isAgg 92).run Tryz.prog w = .ok true w := by kernel_rfl
  have h0 : (0 : Int) ≤ k := by omega
  have h1 : (k : Int) < 19 := by omega
  have hp : (part 92 (dcells c) (k * 3)).run Tryz.prog w = .ok (.agg #[c (3 + k * 3), c (3 + k * 3 + 1), c (3 + k * 3 + 2)]) w := by
    simp [part, hag, hsz, e]
  simp [Instr.index, asIntOf, run_underlying Tryz.underlying93, h1, hsz, hp]
  omega

/-- the lowest free descriptor -/
def St.free (S : St) : Option Nat := (List.range 19).find? (fun i => (S.ds i).kind == 0)
theorem free_some (S : St) (k : Nat) (hk : k < 19) (h : ∀ i, i < k → ¬ (S.ds i).kind = 0) (h0 : (S.ds k).kind = 0) : S.free = some k := by
  unfold St.free
  rw [List.find?_eq_some_iff_getElem]
  refine ⟨by simpa using h0, k, by simpa using hk, by simp, fun j hj => ?_⟩
  simpa using h j hj
theorem free_none (S : St) (h : ∀ i, i < 19 → ¬ (S.ds i).kind = 0) : S.free = none := by
  unfold St.free
  rw [List.find?_eq_none]
  intro i hi
  simpa using h i (by simpa using hi)

def FreePost (S : St) (w : World) (e : Ending) (w' : World) : Prop :=
  Tn No w w' ∧ ((∃ k, k < 19 ∧ S.free = some k ∧ e = .returned (.tuple #[.int .i64 (k : Int), .bool true])) ∨ (S.free = none ∧ e = .returned (.tuple #[.int .i64 0, .bool false])))

set_option maxHeartbeats 1000000 in
set_option maxRecDepth 100000 in
theorem free_raw (p : Nat) (L : Nat → Option Lab) (N : Nat) (S : St) (w : World) (h : PW w p L N S) :
    Calls Tryz.prog 170 #[.pointer (some ⟨p, 0, none⟩)] w (FreePost S w) := by
  obtain ⟨c, mo, iv, tv, vs, h⟩ := h
  have hrange : w.rangeAt p 3 ((List.range 57).map fun j => c (3 + j)) := by
    intro j v hv
    obtain ⟨hj, e⟩ := List.getElem?_eq_some_iff.1 hv
    rw [List.length_map, List.length_range] at hj
    rw [h.sc.cell (3 + j) (by omega), ← e]
    simp
  obtain ⟨A, hA⟩ : ∃ A, dcells c = A := ⟨_, rfl⟩
  have hix : ∀ k : Nat, k < 19 → ∀ w' : World, (Instr.index 93 (.agg A) (.int .i64 (k : Int))).run Tryz.prog w' = .ok (.agg #[.int .i64 (S.ds k).kind, .string (S.ds k).name, .int .i64 ((S.ds k).place : Int)]) w' := fun k hk w' => by
    rw [← hA, dcells_index c k hk]
    obtain ⟨d0, d1, d2⟩ := h.cd k hk
    rw [d0, d1, d2]
  have HIX := hid hix
  have HRA := hid hrange
  have HA : Hid (((List.range 57).map fun j => c (3 + j)).toArray = A) := hA
  have plt := h.sc.lt
  clear hix hrange hA h
  go_enter Tryz.func170, Tryz.ntmps170
  go_wp2_with (refine wpList_load_mid rfl 93 _ rfl p 3 rfl _ _ HRA.out Tryz.underlying93 rfl (by kernel_rfl) ?_; rw [HA.out])
  go_loopw [12, 4, 5] (fun i _ _ wr => ∃ k : Nat, k ≤ 19 ∧ i = .int .i64 k ∧ (∀ j, j < k → ¬ (S.ds j).kind = 0) ∧ Tn No w wr) (fun i _ _ _ => 19 - (intOf i).toNat)
  case atStart => exact ⟨0, by omega, rfl, fun j hj => by omega, (by repeat (first | exact Tn.refl _ _ | apply Tn.drew | apply Tn.drewN | apply Tn.alloc | (refine Tn.then ?_ (by assumption)) | (refine Tn.thenNo ?_ (by assumption))))⟩
  case round =>
    obtain ⟨k, hk, rfl, hno, ht⟩ := hrel
    have HNO := hid hno
    have hz := ht.size
    clear hno
    by_cases hlt : k < 19
    · have hi := HIX.out k hlt
      by_cases h0 : (S.ds k).kind = 0
      · have H0 := hid h0
        have hd : ((S.ds k).kind == 0) = true := by simpa using h0
        clear h0
        go_wp2
        go_ret2
        exact ⟨(by repeat (first | exact Tn.refl _ _ | apply Tn.drew | apply Tn.drewN | apply Tn.alloc | (refine Tn.then ?_ (by assumption)) | (refine Tn.thenNo ?_ (by assumption)))), .inl ⟨k, hlt, free_some S k hlt HNO.out H0.out, rfl⟩⟩
      · have hd : ((S.ds k).kind == 0) = false := by simpa using h0
        go_wp2
        go_roundw
        case rel => exact ⟨k + 1, by omega, by go_num, fun j hj => by
          by_cases e : j = k
          · subst e; exact h0
          · exact HNO.out j (by omega), (by repeat (first | exact Tn.refl _ _ | apply Tn.drew | apply Tn.drewN | apply Tn.alloc | (refine Tn.then ?_ (by assumption)) | (refine Tn.thenNo ?_ (by assumption))))⟩
        case measure => simp [intOf]; omega
    · obtain rfl : k = 19 := by omega
      go_wp2
      go_ret2
      exact ⟨(by repeat (first | exact Tn.refl _ _ | apply Tn.drew | apply Tn.drewN | apply Tn.alloc | (refine Tn.then ?_ (by assumption)) | (refine Tn.thenNo ?_ (by assumption)))), .inr ⟨free_none S HNO.out, rfl⟩⟩
end Go.Proofs.YtoidddfpekbliaaGreat
namespace Go.Proofs.YtoidddfpekbliaaGreat
set_option linter.unusedSimpArgs false
set_option linter.unusedVariables false
open Go.RowKit
section
variable {α : Type} {size : Nat} {en : α → List Value} {w w' : World} {v : Value} {l : List α}

/-- the slice v may be read as the elements l, each of 'size' cells -/
def LD (size : Nat) (en : α → List Value) (w : World) (v : Value) (l : List α) : Prop :=
  ∃ a c, v = .slice a l.length c ∧ l.length ≤ c ∧ c ≤ 9223372036854775807 ∧ (0 < l.length → ∃ g o, a = some ⟨g, o, none⟩ ∧ g < w.heap.size ∧ ∀ i (hi : i < l.length) j, j < size → w.cell? ⟨g, o + (i * size + j), none⟩ = (en l[i])[j]?)

theorem LD.kept (h : LD size en w v l) (hk : ∀ g, v.ownBlock = some g → g < w.heap.size → w'.heap[g]? = w.heap[g]?) (hs : w.heap.size ≤ w'.heap.size) : LD size en w' v l := by
  obtain ⟨a, c, rfl, h1, h2, h3⟩ := h
  refine ⟨a, c, rfl, h1, h2, fun h0 => ?_⟩
  obtain ⟨g, o, rfl, hg, hc⟩ := h3 h0
  exact ⟨g, o, rfl, Nat.lt_of_lt_of_le hg hs, fun i hi j hj => by rw [World.cell?_of_block (w := w) (a := ⟨g, o + (i * size + j), none⟩) (hk g rfl hg)]; exact hc i hi j hj⟩
theorem LD.no (h : LD size en w v l) (t : Tn No w w') : LD size en w' v l := h.kept (fun g _ hg => t.block g hg (fun e => e)) t.size
theorem LD.nil (size : Nat) (en : α → List Value) (w : World) : LD size en w (.slice none 0 0) [] := ⟨none, 0, rfl, Nat.le_refl _, by omega, fun h => by cases h⟩

/-- the slice v is one's own, its elements are l -/
structure LR (size : Nat) (en : α → List Value) (w : World) (v : Value) (l : List α) : Prop where
  rw : RW w size v l.length
  at' : ∀ i (hi : i < l.length) j, j < size → vc w v (i * size + j) = (en l[i])[j]?

theorem LR.kept (h : LR size en w v l) (hk : ∀ g, v.ownBlock = some g → w'.heap[g]? = w.heap[g]?) : LR size en w' v l := ⟨h.rw.kept hk, fun i hi j hj => (vc_kept hk _).trans (h.at' i hi j hj)⟩
theorem LR.tn {F : Nat → Prop} (h : LR size en w v l) (t : Tn F w w') (hn : ∀ g, v.ownBlock = some g → ¬ F g) : LR size en w' v l := h.kept (fun g hg => t.block g (h.rw.lt g hg) (hn g hg))
theorem LR.no (h : LR size en w v l) (t : Tn No w w') : LR size en w' v l := h.tn t (fun _ _ e => e)
theorem LR.nil (size : Nat) (en : α → List Value) (w : World) : LR size en w (.slice none 0 0) [] := ⟨RW.nil w size, fun _ h => by cases h⟩
theorem LR.ld (h : LR size en w v l) : LD size en w v l := by
  obtain ⟨hrw, hat⟩ := h
  rcases hrw with ⟨rfl, e⟩ | ⟨g, cap, rfl, hg, h1, h2, h3⟩
  · obtain rfl := List.length_eq_zero_iff.1 e
    exact LD.nil _ _ _
  · exact ⟨_, cap, rfl, h1, by unfold maxLen at h2; omega, fun _ => ⟨g, 0, rfl, hg, fun i hi j hj => by rw [Nat.zero_add]; exact hat i hi j hj⟩⟩

/-- one more -/
theorem lr_push {t e : TypeId} {z : Value} {bytes : Nat} (ht : Tryz.prog.underlying t = some (.slice e)) (hi : (Tryz.prog.info? e).map (fun i => (i.zero, i.size, i.bytes)) = some (some z, size, bytes)) (hzs : z.cells.size = size) (hsz : 0 < size)
    (h : LR size en w v l) (a : α) (hen : (en a).length = size) (hone : ∀ u ∈ en a, u.oneCell' = true) (b : Nat) (hb : ∀ j u, (en a)[j]? = some u → w.cell? ⟨b, j, none⟩ = some u) (hm : l.length + 1 ≤ maxLen) (hbb : (l.length + 1) * bytes ≤ 140737488355328) (ty : TypeId) :
    ∃ v' w', (Builtin.append_ #[t, t] ty #[v, .slice (some ⟨b, 0, none⟩) 1 1]).run Tryz.prog w = .ok v' w' ∧ LR size en w' v' (l ++ [a]) ∧ w.grownBy w' v.ownBlock ∧ (v'.ownBlock = v.ownBlock ∨ v'.ownBlock = some w.heap.size) := by
  obtain ⟨i, hi, hz0, hz1, hz2⟩ := info_parts hi
  have hsrc : Src Tryz.prog size t (.slice (some ⟨b, 0, none⟩) 1 1) 1 (en a) w :=
    Src.ofSlice _ ht _ 1 1 _ (by omega) (fun j u hu => by rw [addr_add]; exact hb j u hu) hone
  obtain ⟨v', w', hr, hrw, hold, hnew, hgr, hown⟩ := rw_append ty e i z size bytes ht hi hz0 hz1 hz2 hzs h.rw hsrc hm hbb hsz
  refine ⟨v', w', hr, ⟨by rw [List.length_append]; exact hrw, fun k hk j hj => ?_⟩, hgr, hown⟩
  rw [List.length_append] at hk
  by_cases hkl : k < l.length
  · have : k * size + j < l.length * size := by
      have := Nat.mul_le_mul_right size (show k + 1 ≤ l.length by omega)
      rw [Nat.add_mul] at this; omega
    rw [hold _ this, h.at' k hkl j hj, List.getElem_append_left hkl]
  · have hk2 : k = l.length := by simp at hk; omega
    subst hk2
    rw [hnew j (by omega), List.getElem_append_right (Nat.le_refl _)]
    simp

/-- room for n -/
theorem lr_room {t e : TypeId} {z : Value} {bytes : Nat} (ht : Tryz.prog.underlying t = some (.slice e)) (hi : (Tryz.prog.info? e).map (fun i => (i.zero, i.size, i.bytes)) = some (some z, size, bytes)) (hzs : z.cells.size = size) (n : Nat) (hn : n ≤ 2147483648) (hb : n * bytes ≤ 140737488355328) (en : α → List Value) :
    ∃ M : Array Value, ∀ W : World, (Instr.makeSlice t (.int .i64 0) (.int .i64 (n : Int))).run Tryz.prog W = .ok (.slice (some ⟨W.heap.size, 0, none⟩) 0 n) (W.alloc (.cells M e)) ∧ LR size en (W.alloc (.cells M e)) (.slice (some ⟨W.heap.size, 0, none⟩) 0 n) ([] : List α) := by
  obtain ⟨i, hi, z0, z1, z2⟩ := info_parts hi
  refine ⟨madeCells z.cells (((n : Nat) : Int).toNat * i.size), fun W => ⟨?_, ?_, fun k hk => by cases hk⟩⟩
  · have h := run_make (P := Tryz.prog) W t e i z ht hi z0 .i64 .i64 0 (n : Int) (by omega) (by omega) (by rw [z2, Int.mul_comm]; omega) (by omega)
    simpa using h
  · have hh := heap_alloc_new W (.cells (madeCells z.cells (((n : Nat) : Int).toNat * i.size)) e)
    refine .inr ⟨W.heap.size, n, rfl, by simp, Nat.zero_le _, by unfold maxLen; omega, fun j hj => ⟨?_, ?_⟩⟩
    · have : (W.alloc (.cells (madeCells z.cells (((n : Nat) : Int).toNat * i.size)) e)).cell? ⟨W.heap.size, j, none⟩ = (madeCells z.cells (((n : Nat) : Int).toNat * i.size))[j]? := World.cell?_alloc_mark W _ _ _ j
      rw [this, Array.getElem?_eq_getElem (by rw [size_madeCells, z1]; simpa using hj)]; rfl
    · simp only [World.frozen?, hh]; simp
end


def eU (x : Int) : List Value := [.int .u64 x]
def eI (x : Int) : List Value := [.int .i64 x]
def i64ok (n : Int) : Prop := -9223372036854775808 ≤ n ∧ n ≤ 9223372036854775807

def rawE (v : Value) : Option (DataW Value × List MemPlace) := some (.held v, [])
def updI {α : Type} (f : Int → α) (x : Int) (y : α) : Int → α := fun k => if k = x then y else f k

/-- a map from integers of one kind to integers -/
def IM (κ : IntKind) (tk : TypeId) (w : World) (b N : Nat) (f : Int → Option Nat) : Prop :=
  ∃ n D, n ≤ N ∧ w.ownsMap Tryz.prog tk rawE b n D ∧ ∀ x : Int, (Lit.int κ x).wf = true → Maps.has D (.int κ x) = (f x).isSome ∧ ∀ y, f x = some y → D.atKey (.int κ x) (.held (.int .i64 0)) = .held (.int .i64 (y : Int))

section
variable {κ : IntKind} {tk te tm : TypeId} {w w' : World} {b N : Nat} {f : Int → Option Nat}
theorem IM.kept (h : IM κ tk w b N f) (hk : w'.heap[b]? = w.heap[b]?) : IM κ tk w' b N f := by
  obtain ⟨n, D, hn, hown, hf⟩ := h
  obtain ⟨es, clock, h1, r⟩ := hown
  exact ⟨n, D, hn, ⟨es, clock, hk.trans h1, r⟩, hf⟩
theorem IM.lt (h : IM κ tk w b N f) : b < w.heap.size := by
  obtain ⟨n, D, hn, ⟨es, clock, h1, r⟩, hf⟩ := h
  exact (Array.getElem?_eq_some_iff.1 h1).1
theorem IM.look (h : IM κ tk w b N f) (hk : Tryz.prog.underlying tk = some (.int κ)) (ht : Tryz.prog.underlying tm = some (.map tk te)) (hz : (zeroValue te).run Tryz.prog w = .ok (.int .i64 0) w) (x : Int) (hx : (Lit.int κ x).wf = true) :
    (Instr.lookup tm (.map (some b)) (.int κ x) true).run Tryz.prog w = .ok (.tuple #[.int .i64 (((f x).getD 0 : Nat) : Int), .bool (f x).isSome]) w := by
  have law := Maps.int_keyed (P := Tryz.prog) hk
  have hkey := Maps.keyOf_int_mk (P := Tryz.prog) hk hx
  obtain ⟨n, D, hn, hown, hf⟩ := h
  obtain ⟨v, ps, hr, hv⟩ := hown.look_ok law ht hz (zd := .held (.int .i64 0)) (zp := []) rfl hkey
  simp only [rawE, Option.some.injEq, Prod.mk.injEq] at hv
  rw [hr, (hf x hx).1]
  cases e : f x with
  | none =>
    have hno : Maps.has D (.int κ x) = false := by rw [(hf x hx).1, e]; rfl
    have := Maps.atKey_of_not_has hno (.held (.int .i64 0))
    rw [this] at hv
    cases hv.1; rfl
  | some y =>
    have := (hf x hx).2 y e
    rw [this] at hv
    cases hv.1; rfl
theorem IM.store (h : IM κ tk w b N f) (hN : N < maxLen) (hk : Tryz.prog.underlying tk = some (.int κ)) (ht : Tryz.prog.underlying tm = some (.map tk te)) (x : Int) (hx : (Lit.int κ x).wf = true) (y : Nat) :
    ∃ w', (Instr.mapUpdate tm (.map (some b)) (.int κ x) (.int .i64 (y : Int))).run Tryz.prog w = .ok () w' ∧ IM κ tk w' b (N + 1) (updI f x (some y)) ∧ w.grownBy w' (some b) := by
  have law := Maps.int_keyed (P := Tryz.prog) hk
  have hkey := Maps.keyOf_int_mk (P := Tryz.prog) hk hx
  obtain ⟨n, D, hn, hown, hf⟩ := h
  obtain ⟨w', hr, hown', hg⟩ := hown.update law ht (Nat.lt_of_le_of_lt hn hN) (d := .held (.int .i64 (y : Int))) (ps := []) hkey rfl
  have hkl : WideAt.IsKeyLit (.int κ x) := law.key hkey
  refine ⟨w', hr, ⟨n + 1, _, by omega, hown', fun z hz => ?_⟩, hg⟩
  by_cases e : z = x
  · subst e
    simp only [updI, if_true]
    exact ⟨by rw [Maps.has_put_same hown.isMap hkl]; rfl, fun g' h' => by cases h'; exact Maps.atKey_put_same hown.isMap hkl _ _⟩
  · simp only [updI, if_neg e]
    have hne : Lit.int κ z ≠ .int κ x := fun h => e (by cases h; rfl)
    exact ⟨by rw [Maps.has_put_other hne]; exact (hf z hz).1, fun g' h' => by rw [Maps.atKey_put_other hne]; exact (hf z hz).2 g' h'⟩
theorem IM.made (κ : IntKind) (tk : TypeId) (w : World) : IM κ tk (w.alloc (.map #[] 0)) w.heap.size 0 (fun _ => none) :=
  ⟨0, .map [], Nat.le_refl _, World.ownsMap_made w Tryz.prog tk rawE, fun _ _ => ⟨rfl, fun _ h => by cases h⟩⟩
theorem IM.congr {g : Int → Option Nat} (h : IM κ tk w b N f) (e : ∀ k, f k = g k) : IM κ tk w b N g := by
  have : f = g := funext e
  subst this; exact h
end


theorem all_take_succ {α : Type} {p : α → Bool} {l : List α} {k : Nat} (hk : k < l.length) (h : (l.take k).all p = true) (hp : p l[k] = true) : (l.take (k + 1)).all p = true := by
  rw [List.take_add_one, List.getElem?_eq_getElem hk, List.all_append, h]
  simp [hp]
theorem all_false {α : Type} {p : α → Bool} {l : List α} {k : Nat} (hk : k < l.length) (hp : p l[k] = false) : l.all p = false := by
  rw [List.all_eq_false]
  exact ⟨l[k], List.getElem_mem hk, by simp [hp]⟩

end Go.Proofs.YtoidddfpekbliaaGreat
