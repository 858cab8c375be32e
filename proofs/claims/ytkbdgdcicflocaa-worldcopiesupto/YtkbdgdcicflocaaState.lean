/-
  A world of the program: what it is (files, input, descriptors, trace), and how it lies in memory.
-/
import Derived.Test.YtkbdgdcicflocaaBase
namespace Go.Proofs.Ytkbdgdcicflocaa
set_option linter.unusedSimpArgs false
set_option linter.unusedVariables false
open Go.RowKit

structure De where
  kind : Int
  name : ByteArray
  place : Nat
structure Ev where
  kind : Int
  name : ByteArray
  text : List UInt8
/-- a world -/
structure St where
  fs : List UInt8 → Option (List UInt8)
  inp : List UInt8
  rd : Nat
  ds : Nat → De
  tr : List Ev
/-- what a block belongs to -/
inductive Lab where
  | st | inp | mp | tr
  | fl (k : List UInt8)
  | tx (i : Nat)
  | ob

def upd {α : Type} (c : Nat → α) (j : Nat) (v : α) : Nat → α := fun i => if i = j then v else c i
theorem upd_same {α : Type} (c : Nat → α) (j : Nat) (v : α) : upd c j v j = v := by simp [upd]
theorem upd_other {α : Type} (c : Nat → α) {i j : Nat} (v : α) (h : i ≠ j) : upd c j v i = c i := by simp [upd, h]
/-- a file is laid -/
def St.put (S : St) (k : List UInt8) (l : List UInt8) : St := { S with fs := fun x => if x = k then some l else S.fs x }

/-- the world's own cells -/
structure SC (w : World) (p : Nat) (c : Nat → Value) : Prop where
  lt : p < w.heap.size
  cell : ∀ i, i < 61 → w.cell? ⟨p, i, none⟩ = some (c i)
  froz : ∀ i, w.frozen? ⟨p, i, none⟩ = false
theorem SC.set {w : World} {p : Nat} {c : Nat → Value} (h : SC w p c) (j : Nat) (hj : j < 61) (v : Value) : SC (w.setCell ⟨p, j, none⟩ v) p (upd c j v) := by
  refine ⟨by simpa using h.lt, fun i hi => ?_, fun i => by rw [World.frozen?_setCell]; exact h.froz i⟩
  by_cases e : i = j
  · subst e
    rw [World.cell?_setCell_same w _ _ (h.cell i hi), upd_same]
  · rw [World.cell?_setCell_other w _ _ _ (by intro h; cases h; exact e rfl), upd_other _ _ e]
    exact h.cell i hi
theorem SC.kept {w w' : World} {p : Nat} {c : Nat → Value} (h : SC w p c) (hk : w'.heap[p]? = w.heap[p]?) : SC w' p c := by
  refine ⟨?_, fun i hi => ?_, fun i => ?_⟩
  · have : w.heap[p]? = some (w.heap[p]'h.lt) := Array.getElem?_eq_getElem h.lt
    rw [this] at hk
    exact (Array.getElem?_eq_some_iff.1 hk).1
  · rw [World.cell?_of_block (w := w) (a := ⟨p, i, none⟩) hk]; exact h.cell i hi
  · rw [World.frozen?_of_block (w := w) (a := ⟨p, i, none⟩) hk]; exact h.froz i

/-- a map's element, as it is -/
def rawElem (v : Value) : Option (DataW Value × List MemPlace) := some (.held v, [])
def nilV : Value := .slice none 0 0
theorem law9 : Maps.Keyed Try.prog 9 := Maps.string_keyed Try.underlying9
theorem zero64 (w : World) : (zeroValue 64).run Try.prog w = .ok nilV w := by kernel_rfl

/-- the files -/
def FM (w : World) (L : Nat → Option Lab) (N : Nat) (mo : Option Nat) (fs : List UInt8 → Option (List UInt8)) : Prop :=
  (mo = none ∧ ∀ k, fs k = none) ∨ ∃ b n D, mo = some b ∧ n ≤ N ∧ L b = some .mp ∧ w.ownsMap Try.prog 9 rawElem b n D ∧ ∀ k, Maps.has D (.string k) = (fs k).isSome ∧
    ∀ l, fs k = some l → ∃ v, D.atKey (.string k) (.held nilV) = .held v ∧ BR w v l ∧ (∀ g, v.ownBlock = some g → L g = some (.fl k)) ∧ l.length ≤ N

/-- the trace -/
structure EW (w : World) (L : Nat → Option Lab) (N : Nat) (tv : Value) (tr : List Ev) (vs : Nat → Value) : Prop where
  rw : RW w 3 tv tr.length
  lab : ∀ g, tv.ownBlock = some g → L g = some .tr
  len : tr.length ≤ N
  ev : ∀ i e, tr[i]? = some e → vc w tv (3 * i) = some (.int .i64 e.kind) ∧ vc w tv (3 * i + 1) = some (.string e.name) ∧ vc w tv (3 * i + 2) = some (vs i) ∧
    BR w (vs i) e.text ∧ (∀ g, (vs i).ownBlock = some g → L g = some (.tx i)) ∧ e.text.length ≤ N

structure PX (w : World) (p : Nat) (L : Nat → Option Lab) (N : Nat) (S : St) (c : Nat → Value) (mo : Option Nat) (iv tv : Value) (vs : Nat → Value) : Prop where
  sc : SC w p c
  c0 : c 0 = .map mo
  c1 : c 1 = iv
  c2 : c 2 = .int .i64 (S.rd : Int)
  c60 : c 60 = tv
  cd : ∀ i, i < 19 → c (3 + i * 3) = .int .i64 (S.ds i).kind ∧ c (3 + i * 3 + 1) = .string (S.ds i).name ∧ c (3 + i * 3 + 2) = .int .i64 ((S.ds i).place : Int)
  pl : ∀ i, i < 19 → (S.ds i).place ≤ N ∧ (S.ds i).name.size ≤ 255
  labs : L p = some .st
  lt : ∀ k, L k ≠ none → k < w.heap.size
  fm : FM w L N mo S.fs
  inp : BR w iv S.inp
  labi : ∀ g, iv.ownBlock = some g → L g = some .inp
  rd : S.rd ≤ S.inp.length
  ew : EW w L N tv S.tr vs

/-- At block p lies the program's world S; L tells which blocks are its own; N bounds what has grown. -/
def PW (w : World) (p : Nat) (L : Nat → Option Lab) (N : Nat) (S : St) : Prop := ∃ c mo iv tv vs, PX w p L N S c mo iv tv vs

/-- what is left behind a call on it -/
def Lft (w : World) (p : Nat) (L : Nat → Option Lab) (w' : World) (N' : Nat) (S' : St) : Prop :=
  ∃ L', PW w' p L' N' S' ∧ Tn (fun k => L k ≠ none) w w' ∧ ∀ k, k < w.heap.size → L k = none → L' k = none

theorem Lft.trans {w w1 w2 : World} {p : Nat} {L L1 : Nat → Option Lab} {N2 : Nat} {S2 : St} (h : Lft w1 p L1 w2 N2 S2) (t : Tn (fun k => L k ≠ none) w w1) (hl : ∀ k, k < w.heap.size → L k = none → L1 k = none) : Lft w p L w2 N2 S2 := by
  obtain ⟨L2, h2, t2, hl2⟩ := h
  refine ⟨L2, h2, t.trans t2 (fun _ _ e => e) (fun i hi e e' => e (hl i hi e')), fun k hk e => hl2 k (Nat.lt_of_lt_of_le hk t.size) (hl k hk e)⟩

theorem FM.kept2 {w w' : World} {L : Nat → Option Lab} {N : Nat} {mo : Option Nat} {fs : List UInt8 → Option (List UInt8)} (h : FM w L N mo fs) (hk : ∀ k, L k = some .mp ∨ (∃ n, L k = some (.fl n)) → w'.heap[k]? = w.heap[k]?) : FM w' L N mo fs := by
  rcases h with h | ⟨b, n, D, e, hn, hb, hown, hf⟩
  · exact .inl h
  · refine .inr ⟨b, n, D, e, hn, hb, ?_, fun k => ⟨(hf k).1, fun l hl => ?_⟩⟩
    · obtain ⟨es, clock, h1, r⟩ := hown
      exact ⟨es, clock, (hk b (.inl hb)).trans h1, r⟩
    · obtain ⟨v, hv, hbr, hlab, hlen⟩ := (hf k).2 l hl
      exact ⟨v, hv, hbr.kept (fun g hg => hk g (.inr ⟨_, hlab g hg⟩)), hlab, hlen⟩
theorem FM.kept {w w' : World} {L : Nat → Option Lab} {N : Nat} {mo : Option Nat} {fs : List UInt8 → Option (List UInt8)} (h : FM w L N mo fs) (hk : ∀ k, L k ≠ none → w'.heap[k]? = w.heap[k]?) : FM w' L N mo fs :=
  h.kept2 (fun k hl => hk k (by rcases hl with hl | ⟨n, hl⟩ <;> (rw [hl]; simp)))
theorem EW.kept2 {w w' : World} {L : Nat → Option Lab} {N : Nat} {tv : Value} {tr : List Ev} {vs : Nat → Value} (h : EW w L N tv tr vs) (hk : ∀ k, L k = some .tr ∨ (∃ i, L k = some (.tx i)) → w'.heap[k]? = w.heap[k]?) : EW w' L N tv tr vs := by
  have hk1 : ∀ g, tv.ownBlock = some g → w'.heap[g]? = w.heap[g]? := fun g hg => hk g (.inl (h.lab g hg))
  refine ⟨h.rw.kept hk1, h.lab, h.len, fun i e he => ?_⟩
  obtain ⟨a, b, c, d, f, g⟩ := h.ev i e he
  exact ⟨(vc_kept hk1 _).trans a, (vc_kept hk1 _).trans b, (vc_kept hk1 _).trans c, d.kept (fun g hg => hk g (.inr ⟨_, f g hg⟩)), f, g⟩
theorem EW.kept {w w' : World} {L : Nat → Option Lab} {N : Nat} {tv : Value} {tr : List Ev} {vs : Nat → Value} (h : EW w L N tv tr vs) (hk : ∀ k, L k ≠ none → w'.heap[k]? = w.heap[k]?) : EW w' L N tv tr vs :=
  h.kept2 (fun k hl => hk k (by rcases hl with hl | ⟨n, hl⟩ <;> (rw [hl]; simp)))
theorem PX.kept {w w' : World} {p : Nat} {L : Nat → Option Lab} {N : Nat} {S : St} {c : Nat → Value} {mo : Option Nat} {iv tv : Value} {vs : Nat → Value} (h : PX w p L N S c mo iv tv vs) (hs : w.heap.size ≤ w'.heap.size) (hk : ∀ k, L k ≠ none → w'.heap[k]? = w.heap[k]?) : PX w' p L N S c mo iv tv vs :=
  { h with
    sc := h.sc.kept (hk p (by rw [h.labs]; simp))
    lt := fun k hk => Nat.lt_of_lt_of_le (h.lt k hk) hs
    fm := h.fm.kept hk
    inp := h.inp.kept (fun g hg => hk g (by rw [h.labi g hg]; simp))
    ew := h.ew.kept hk }
theorem PX.tn {F : Nat → Prop} {w w' : World} {p : Nat} {L : Nat → Option Lab} {N : Nat} {S : St} {c : Nat → Value} {mo : Option Nat} {iv tv : Value} {vs : Nat → Value} (h : PX w p L N S c mo iv tv vs) (t : Tn F w w') (hF : ∀ k, F k → L k = none) : PX w' p L N S c mo iv tv vs :=
  h.kept t.size (fun k hk => t.block k (h.lt k hk) (fun e => hk (hF k e)))
theorem PX.no {w w' : World} {p : Nat} {L : Nat → Option Lab} {N : Nat} {S : St} {c : Nat → Value} {mo : Option Nat} {iv tv : Value} {vs : Nat → Value} (h : PX w p L N S c mo iv tv vs) (t : Tn No w w') : PX w' p L N S c mo iv tv vs := h.tn t (fun _ e => e.elim)
theorem PW.tn {F : Nat → Prop} {w w' : World} {p : Nat} {L : Nat → Option Lab} {N : Nat} {S : St} (h : PW w p L N S) (t : Tn F w w') (hF : ∀ k, F k → L k = none) : PW w' p L N S := by
  obtain ⟨c, mo, iv, tv, vs, h⟩ := h
  exact ⟨c, mo, iv, tv, vs, h.tn t hF⟩
theorem PW.no {w w' : World} {p : Nat} {L : Nat → Option Lab} {N : Nat} {S : St} (h : PW w p L N S) (t : Tn No w w') : PW w' p L N S := h.tn t (fun _ e => e.elim)
theorem PW.lt {w : World} {p : Nat} {L : Nat → Option Lab} {N : Nat} {S : St} (h : PW w p L N S) : ∀ k, L k ≠ none → k < w.heap.size := by obtain ⟨_, _, _, _, _, h⟩ := h; exact h.lt
theorem PW.plt {w : World} {p : Nat} {L : Nat → Option Lab} {N : Nat} {S : St} (h : PW w p L N S) : p < w.heap.size := by obtain ⟨_, _, _, _, _, h⟩ := h; exact h.sc.lt
theorem PW.labs {w : World} {p : Nat} {L : Nat → Option Lab} {N : Nat} {S : St} (h : PW w p L N S) : L p = some .st := by obtain ⟨_, _, _, _, _, h⟩ := h; exact h.labs
/-- nothing has happened to it -/
theorem PW.same {w w' : World} {p : Nat} {L : Nat → Option Lab} {N : Nat} {S : St} (h : PW w p L N S) (t : Tn No w w') : Lft w p L w' N S := ⟨L, h.no t, t.any, fun _ _ e => e⟩

/-- more room -/
theorem PX.mono {w : World} {p : Nat} {L : Nat → Option Lab} {N N' : Nat} {S : St} {c : Nat → Value} {mo : Option Nat} {iv tv : Value} {vs : Nat → Value} (h : PX w p L N S c mo iv tv vs) (hN : N ≤ N') : PX w p L N' S c mo iv tv vs :=
  { h with
    pl := fun i hi => ⟨Nat.le_trans (h.pl i hi).1 hN, (h.pl i hi).2⟩
    fm := by
      rcases h.fm with h | ⟨b, n, D, e, hn, hb, hown, hf⟩
      · exact .inl h
      · exact .inr ⟨b, n, D, e, Nat.le_trans hn hN, hb, hown, fun k => ⟨(hf k).1, fun l hl => by
          obtain ⟨v, hv, hbr, hlab, hlen⟩ := (hf k).2 l hl
          exact ⟨v, hv, hbr, hlab, Nat.le_trans hlen hN⟩⟩⟩
    ew := ⟨h.ew.rw, h.ew.lab, Nat.le_trans h.ew.len hN, fun i e he => by
      obtain ⟨a, b, c, d, f, g⟩ := h.ew.ev i e he
      exact ⟨a, b, c, d, f, Nat.le_trans g hN⟩⟩ }
theorem PW.mono {w : World} {p : Nat} {L : Nat → Option Lab} {N N' : Nat} {S : St} (h : PW w p L N S) (hN : N ≤ N') : PW w p L N' S := by
  obtain ⟨c, mo, iv, tv, vs, h⟩ := h
  exact ⟨c, mo, iv, tv, vs, h.mono hN⟩
theorem Lft.mono {w w' : World} {p : Nat} {L : Nat → Option Lab} {N N' : Nat} {S : St} (h : Lft w p L w' N S) (hN : N ≤ N') : Lft w p L w' N' S := by
  obtain ⟨L', h1, h2, h3⟩ := h
  exact ⟨L', h1.mono hN, h2, h3⟩

/-- a block that is nobody's is given a name -/
theorem PX.name {w : World} {p : Nat} {L : Nat → Option Lab} {N : Nat} {S : St} {c : Nat → Value} {mo : Option Nat} {iv tv : Value} {vs : Nat → Value} (h : PX w p L N S c mo iv tv vs) (g : Nat) (hg : g < w.heap.size) (hL : L g = none) (b : Lab) : PX w p (upd L g (some b)) N S c mo iv tv vs := by
  have up : ∀ {k : Nat} {x : Lab}, L k = some x → upd L g (some b) k = some x := fun {k x} e => by
    rw [upd_other _ _ (by rintro rfl; rw [hL] at e; cases e)]; exact e
  refine { h with labs := up h.labs, lt := fun k hk => ?_, fm := ?_, labi := fun g hg => up (h.labi g hg), ew := ?_ }
  · by_cases e : k = g
    · subst e; exact hg
    · rw [upd_other _ _ e] at hk; exact h.lt k hk
  · rcases h.fm with h | ⟨b', n, D, e, hn, hb, hown, hf⟩
    · exact .inl h
    · exact .inr ⟨b', n, D, e, hn, up hb, hown, fun k => ⟨(hf k).1, fun l hl => by
        obtain ⟨v, hv, hbr, hlab, hlen⟩ := (hf k).2 l hl
        exact ⟨v, hv, hbr, fun g hg => up (hlab g hg), hlen⟩⟩⟩
  · exact ⟨h.ew.rw, fun g hg => up (h.ew.lab g hg), h.ew.len, fun i e he => by
      obtain ⟨a, b, c, d, f, g⟩ := h.ew.ev i e he
      exact ⟨a, b, c, d, fun g hg => up (f g hg), g⟩⟩

/-- one of its own cells is written -/
theorem PX.store {w : World} {p : Nat} {L : Nat → Option Lab} {N : Nat} {S : St} {c : Nat → Value} {mo : Option Nat} {iv tv : Value} {vs : Nat → Value} (h : PX w p L N S c mo iv tv vs) (j : Nat) (hj : j < 61) (v : Value) :
    SC (w.setCell ⟨p, j, none⟩ v) p (upd c j v) ∧ FM (w.setCell ⟨p, j, none⟩ v) L N mo S.fs ∧ BR (w.setCell ⟨p, j, none⟩ v) iv S.inp ∧ EW (w.setCell ⟨p, j, none⟩ v) L N tv S.tr vs ∧ (w.setCell ⟨p, j, none⟩ v).heap.size = w.heap.size := by
  have hk : ∀ k, L k ≠ some .st → (w.setCell ⟨p, j, none⟩ v).heap[k]? = w.heap[k]? := fun k hk => Below.heap_setCell _ _ _ _ (by rintro rfl; exact hk h.labs)
  refine ⟨h.sc.set j hj v, h.fm.kept2 (fun k hl => hk k ?_), h.inp.kept (fun g hg => hk g (by rw [h.labi g hg]; simp)), h.ew.kept2 (fun k hl => hk k ?_), by simp⟩
  · rcases hl with hl | ⟨n, hl⟩ <;> (rw [hl]; simp)
  · rcases hl with hl | ⟨n, hl⟩ <;> (rw [hl]; simp)
/-- the place in the input is written -/
theorem PX.setRd {w : World} {p : Nat} {L : Nat → Option Lab} {N : Nat} {S : St} {c : Nat → Value} {mo : Option Nat} {iv tv : Value} {vs : Nat → Value} (h : PX w p L N S c mo iv tv vs) (r : Nat) (hr : r ≤ S.inp.length) :
    PX (w.setCell ⟨p, 2, none⟩ (.int .i64 (r : Int))) p L N { S with rd := r } (upd c 2 (.int .i64 (r : Int))) mo iv tv vs := by
  obtain ⟨h1, h2, h3, h4, h5⟩ := h.store 2 (by omega) (.int .i64 (r : Int))
  refine { h with sc := h1, c0 := ?_, c1 := ?_, c2 := upd_same _ _ _, c60 := ?_, cd := fun i hi => ?_, lt := fun k hk => by rw [h5]; exact h.lt k hk, fm := h2, inp := h3, rd := hr, ew := h4 }
  · rw [upd_other _ _ (by omega)]; exact h.c0
  · rw [upd_other _ _ (by omega)]; exact h.c1
  · rw [upd_other _ _ (by omega)]; exact h.c60
  · rw [upd_other _ _ (by omega), upd_other _ _ (by omega), upd_other _ _ (by omega)]; exact h.cd i hi
theorem Tn.own {w : World} {p : Nat} {L : Nat → Option Lab} {a : World} (t : Tn (fun k => L k ≠ none) a w) (hp : L p = some .st) (j : Nat) (v : Value) : Tn (fun k => L k ≠ none) a (w.setCell ⟨p, j, none⟩ v) := t.set _ _ (fun _ => by rw [hp]; simp)

/-- a descriptor's cells -/
theorem PX.de {w : World} {p : Nat} {L : Nat → Option Lab} {N : Nat} {S : St} {c : Nat → Value} {mo : Option Nat} {iv tv : Value} {vs : Nat → Value} (h : PX w p L N S c mo iv tv vs) (i : Nat) (hi : i < 19) :
    w.cell? ⟨p, 3 + i * 3, none⟩ = some (.int .i64 (S.ds i).kind) ∧ w.cell? ⟨p, 3 + i * 3 + 1, none⟩ = some (.string (S.ds i).name) ∧ w.cell? ⟨p, 3 + i * 3 + 2, none⟩ = some (.int .i64 ((S.ds i).place : Int)) := by
  obtain ⟨d0, d1, d2⟩ := h.cd i hi
  exact ⟨by rw [h.sc.cell _ (by omega), d0], by rw [h.sc.cell _ (by omega), d1], by rw [h.sc.cell _ (by omega), d2]⟩

/-- the look-up of a file -/
theorem fm_look {w : World} {L : Nat → Option Lab} {N : Nat} {mo : Option Nat} {fs : List UInt8 → Option (List UInt8)} (h : FM w L N mo fs) (s : ByteArray) (hs : s.size ≤ maxLen) :
    ∃ v, (Instr.lookup 65 (.map mo) (.string s) true).run Try.prog w = .ok (.tuple #[v, .bool (fs s.data.toList).isSome]) w ∧ (Instr.lookup 65 (.map mo) (.string s) false).run Try.prog w = .ok v w ∧
      BR w v ((fs s.data.toList).getD []) ∧ (∀ g, v.ownBlock = some g → L g = some (.fl s.data.toList)) ∧ ((fs s.data.toList).getD []).length ≤ N := by
  have hkey := WideMaps.keyOf_string_mk (P := Try.prog) Try.underlying9 hs
  rcases h with ⟨rfl, hf⟩ | ⟨b, n, D, rfl, hn, hb, hown, hf⟩
  · rw [hf]
    have h1 := Maps.look_nil (P := Try.prog) (w := w) true law9 Try.underlying65 (zero64 w) hkey
    have h2 := Maps.look_nil (P := Try.prog) (w := w) false law9 Try.underlying65 (zero64 w) hkey
    exact ⟨nilV, h1, h2, BR.nil w, fun g h => (by cases h), by simp⟩
  · obtain ⟨v, ps, hr1, hv1⟩ := hown.look_ok law9 Try.underlying65 (zero64 w) (zd := .held nilV) (zp := []) rfl hkey
    obtain ⟨v2, ps2, hr2, hv2⟩ := hown.lookup law9 Try.underlying65 (zero64 w) (zd := .held nilV) (zp := []) rfl hkey
    simp only [rawElem, Option.some.injEq, Prod.mk.injEq] at hv1 hv2
    have e : v2 = v := by
      have := hv2.1.trans hv1.1.symm
      cases this; rfl
    subst e
    rw [(hf s.data.toList).1] at hr1
    refine ⟨v2, hr1, hr2, ?_⟩
    cases hfs : fs s.data.toList with
    | none =>
      have hno : Maps.has D (.string s.data.toList) = false := by rw [(hf _).1, hfs]; rfl
      have := Maps.atKey_of_not_has hno (.held nilV)
      rw [this] at hv1
      have e : v2 = nilV := by cases hv1.1; rfl
      subst e
      exact ⟨BR.nil w, fun g h => (by cases h), by simp⟩
    | some l =>
      obtain ⟨v', hv', hbr, hlab, hlen⟩ := (hf _).2 l hfs
      have e : v2 = v' := by
        have := hv1.1.trans hv'
        cases this; rfl
      subst e
      exact ⟨hbr, hlab, hlen⟩

/-- a file is stored in the map -/
theorem fm_store {w : World} {L : Nat → Option Lab} {N b : Nat} {fs : List UInt8 → Option (List UInt8)} (h : FM w L N (some b) fs) (hN : N < maxLen) (s : ByteArray) (hs : s.size ≤ maxLen) (v : Value) (l : List UInt8) (hv : BR w v l) (hlv : ∀ g, v.ownBlock = some g → L g = some (.fl s.data.toList)) (hll : l.length ≤ N + 1) :
    ∃ w', (Instr.mapUpdate 65 (.map (some b)) (.string s) v).run Try.prog w = .ok () w' ∧ FM w' L (N + 1) (some b) (fun x => if x = s.data.toList then some l else fs x) ∧ w.grownBy w' (some b) ∧ L b = some .mp := by
  have hkey := WideMaps.keyOf_string_mk (P := Try.prog) Try.underlying9 hs
  rcases h with ⟨h, _⟩ | ⟨b', n, D, e, hn, hb, hown, hf⟩
  · cases h
  · cases e
    obtain ⟨w', hr, hown', hg⟩ := hown.update law9 Try.underlying65 (Nat.lt_of_le_of_lt hn hN) (d := .held v) (ps := []) hkey rfl
    have hkl : WideAt.IsKeyLit (.string s.data.toList) := law9.key hkey
    have hkept : ∀ u r, BR w u r → (∀ g, u.ownBlock = some g → ∃ k, L g = some (.fl k)) → BR w' u r := fun u r hu hlu => hu.kept (fun g hg' => hg.block g (hu.lt g hg') (by
      obtain ⟨k, hk⟩ := hlu g hg'
      rintro ⟨⟩
      rw [hb] at hk; cases hk))
    refine ⟨w', hr, .inr ⟨b, n + 1, D.put (.string s.data.toList) (.held v), rfl, by omega, hb, hown', fun k => ?_⟩, hg, hb⟩
    by_cases e : k = s.data.toList
    · subst e
      simp only [if_true]
      refine ⟨by rw [Maps.has_put_same hown.isMap hkl]; rfl, fun l' hl' => ?_⟩
      cases hl'
      exact ⟨v, Maps.atKey_put_same hown.isMap hkl _ _, hkept v l hv (fun g hg => ⟨_, hlv g hg⟩), hlv, hll⟩
    · simp only [if_neg e]
      have hne : Lit.string k ≠ .string s.data.toList := fun h => e (by cases h; rfl)
      refine ⟨by rw [Maps.has_put_other hne]; exact (hf k).1, fun l' hl' => ?_⟩
      obtain ⟨v', hv', hbr, hlab, hlen⟩ := (hf k).2 l' hl'
      exact ⟨v', by rw [Maps.atKey_put_other hne]; exact hv', hkept v' l' hbr (fun g hg => ⟨_, hlab g hg⟩), hlab, by omega⟩
end Go.Proofs.Ytkbdgdcicflocaa
