/-
  heap: what read makes, in plain words; a graph under way.
-/
import Derived.Test.YtlkbnjdhokjfnaaHThingAll
import Derived.Deep.RegionLaw
import Derived.Deep.Light
namespace Go.Proofs.Ytlkbnjdhokjfnaa
set_option linter.unusedSimpArgs false
set_option linter.unusedVariables false
open Go.RowKit

theorem valW_cast (row : List Nat) (x : Nat) : vOf (valW (Hp.cs row) x) = (Hp.value x).map (Hp.pos row) ∧ okR (valW (Hp.cs row) x) := by
  unfold valW Hp.value
  by_cases h : x % 2 = 1
  · rw [if_pos h, if_pos h]
    exact ⟨rfl, .inl rfl⟩
  · rw [if_neg h, if_neg h, Hp.pos_cast]
    exact ⟨rfl, .inr ⟨rfl, by simp⟩⟩
theorem meetW_cast (row : List Nat) (x : Nat) : meetW (Hp.cs row) x = Hp.cs (Hp.meet1 row (Hp.value x)) := by
  unfold meetW Hp.value
  by_cases h : x % 2 = 1
  · rw [if_pos h, if_pos h]; rfl
  · rw [if_neg h, if_neg h]
    simp only [meetI, Hp.mem_cast, Hp.meet1]
    split
    · rfl
    · simp [Hp.cs]
theorem valW_ok {row : List Int} {x : Nat} (hx : x < 18446744073709551616) (hl : row.length ≤ 4294967296) : i64ok (valW (meetW row x) x).1 ∧ i64ok (valW (meetW row x) x).2 := by
  unfold valW
  by_cases h : x % 2 = 1
  · rw [if_pos h]
    refine ⟨by simp [i64ok], ?_⟩
    simp only [i64ok]
    split <;> omega
  · rw [if_neg h]
    refine ⟨by simp [i64ok], ?_⟩
    have hm : meetW row x = meetI row x := by simp [meetW, h]
    rw [hm]
    have := Hp.pos_lt (meetI_has row (x : Int))
    obtain ⟨m, em, hmm⟩ := meetI_more row (x : Int)
    have hl2 : (meetI row (x : Int)).length ≤ 4294967297 := by rw [em]; simp; omega
    simp only [i64ok]
    omega

/-- blocks that turn while a graph is being read -/
def actr (p b : Nat) (mv tv rv : Value) (cb : Nat) (k : Nat) : Prop := RO p b mv k ∨ tv.ownBlock = some k ∨ rv.ownBlock = some k ∨ k = cb

/-- a graph that is being read -/
structure Rd (lo : Nat) (w3 : World) (A0 : Nat → Prop) (p b cb : Nat) (mv tvo rvo : Value) (row : List Int) (out : List Th) (ros : List Rf) (wr : World) : Prop where
  up : Up A0 w3 (actr p b mv tvo rvo cb) wr
  ra : RAU wr p b mv row
  c0 : wr.cell? ⟨cb, 0, none⟩ = some tvo
  c1 : wr.cell? ⟨cb, 1, none⟩ = some rvo
  cf : ∀ j, wr.frozen? ⟨cb, j, none⟩ = false
  cl : cb < wr.heap.size
  cn : ¬ RO p b mv cb
  tl : LR 4 eT wr tvo out
  tn : ∀ g, tvo.ownBlock = some g → lo ≤ g ∧ ¬ RO p b mv g ∧ g ≠ cb
  rl : LR 2 eR wr rvo ros
  rn : ∀ g, rvo.ownBlock = some g → lo ≤ g ∧ ¬ RO p b mv g ∧ g ≠ cb ∧ tvo.ownBlock ≠ some g
  each : ∀ t ∈ out, TO wr lo (actr p b mv tvo rvo cb) t

section
variable {lo : Nat} {w3 : World} {A0 : Nat → Prop} {p b cb : Nat} {mv tvo rvo : Value} {row : List Int} {out : List Th} {ros : List Rf} {wr : World}
/-- the row turns, and what is new -/
theorem Rd.later (h : Rd lo w3 A0 p b cb mv tvo rvo row out ros wr) {w' : World} {mv2 : Value} {row' : List Int} (u : Up (RO p b mv) wr (RO p b mv2) w') (ra : RAU w' p b mv2 row') : Rd lo w3 A0 p b cb mv2 tvo rvo row' out ros w' := by
  have hz := u.tn.size
  have hcl := h.cl
  have hno : ∀ g, g < wr.heap.size → ¬ RO p b mv g → ¬ RO p b mv2 g := fun g hg hn e => by
    rcases u.own g e with e | e
    · exact hn e
    · omega
  have ua : Up (actr p b mv tvo rvo cb) wr (actr p b mv2 tvo rvo cb) w' := u.more (fun k => tvo.ownBlock = some k ∨ rvo.ownBlock = some k ∨ k = cb)
  exact {
    up := h.up.trans ua
    ra := ra
    c0 := by rw [u.tn.cell hcl h.cn]; exact h.c0
    c1 := by rw [u.tn.cell hcl h.cn]; exact h.c1
    cf := fun j => by rw [u.tn.frozen hcl h.cn]; exact h.cf j
    cl := by omega
    cn := hno cb hcl h.cn
    tl := h.tl.tn u.tn (fun g hg => (h.tn g hg).2.1)
    tn := fun g hg => ⟨(h.tn g hg).1, hno g (h.tl.rw.lt g hg) (h.tn g hg).2.1, (h.tn g hg).2.2⟩
    rl := h.rl.tn u.tn (fun g hg => (h.rn g hg).2.1)
    rn := fun g hg => ⟨(h.rn g hg).1, hno g (h.rl.rw.lt g hg) (h.rn g hg).2.1, (h.rn g hg).2.2⟩
    each := fun t ht => (h.each t ht).up ua }
theorem Rd.no (h : Rd lo w3 A0 p b cb mv tvo rvo row out ros wr) {w' : World} (t : Tn No wr w') : Rd lo w3 A0 p b cb mv tvo rvo row out ros w' := h.later (Up.no t) (h.ra.no t)

/-- one more root -/
theorem Rd.root (h : Rd lo w3 A0 p b cb mv tvo rvo row out ros wr) (hlo : lo ≤ wr.heap.size) (r : Rf) (c : Nat) (k0 : wr.cell? ⟨c, 0, none⟩ = some (.int .i64 r.1)) (k1 : wr.cell? ⟨c, 1, none⟩ = some (.int .i64 r.2)) (hl : ros.length + 1 ≤ 4294967296) :
    ∃ rvo' w5, (Builtin.append_ #[22, 22] 22 #[rvo, .slice (some ⟨c, 0, none⟩) 1 1]).run Try.prog wr = .ok rvo' w5 ∧ (∃ a n c, rvo' = .slice a n c) ∧ w5.cell? ⟨cb, 1, none⟩ = some rvo ∧ w5.frozen? ⟨cb, 1, none⟩ = false ∧ cb < w5.heap.size ∧
      Rd lo w3 A0 p b cb mv tvo rvo' row out (ros ++ [r]) (w5.setCell ⟨cb, 1, none⟩ rvo') := by
  obtain ⟨rvo', w5, hrun, hlr, hou⟩ := lref_push h.rl r c k0 k1 hl
  have hcl := h.cl
  have z5 := hou.tn.size
  have rcb : rvo.ownBlock ≠ some cb := fun e => (h.rn cb e).2.2.1 rfl
  have e0 : w5.cell? ⟨cb, 0, none⟩ = some tvo := by rw [hou.tn.cell hcl rcb]; exact h.c0
  have e1 : w5.cell? ⟨cb, 1, none⟩ = some rvo := by rw [hou.tn.cell hcl rcb]; exact h.c1
  have f5 : ∀ j, w5.frozen? ⟨cb, j, none⟩ = false := fun j => by rw [hou.tn.frozen hcl rcb]; exact h.cf j
  have rnew : ∀ g, rvo'.ownBlock = some g → lo ≤ g ∧ ¬ RO p b mv g ∧ g ≠ cb ∧ tvo.ownBlock ≠ some g := fun g hg => by
    rcases hou.own g hg with e | e
    · exact h.rn g e
    · refine ⟨by omega, fun e' => ?_, by omega, fun e' => ?_⟩
      · have := h.ra.olt g e'; omega
      · have := h.tl.rw.lt g e'; omega
  have uo : Up (actr p b mv tvo rvo cb) wr (actr p b mv tvo rvo' cb) w5 := by
    refine ⟨hou.tn.mono (fun k _ e => .inr (.inr (.inl e))), fun k e => ?_⟩
    rcases e with e | e | e | e
    · exact .inl (.inl e)
    · exact .inl (.inr (.inl e))
    · rcases hou.own k e with e | e
      · exact .inl (.inr (.inr (.inl e)))
      · exact .inr e
    · exact .inl (.inr (.inr (.inr e)))
  have uc : Up (actr p b mv tvo rvo' cb) w5 (actr p b mv tvo rvo' cb) (w5.setCell ⟨cb, 1, none⟩ rvo') := ⟨(Tn.refl _ w5).set _ _ (fun _ => .inr (.inr (.inr rfl))), fun _ e => .inl e⟩
  have uall := uo.trans uc
  have tcell : Tn (fun k => k = cb) w5 (w5.setCell ⟨cb, 1, none⟩ rvo') := (Tn.refl (fun k => k = cb) w5).set _ _ (fun _ => rfl)
  refine ⟨rvo', w5, hrun, ?_, e1, f5 1, by omega, ?_⟩
  · obtain ⟨a, c, e, _⟩ := hlr.rw.form
    exact ⟨a, _, c, e⟩
  exact {
    up := h.up.trans uall
    ra := (h.ra.kept hou.tn (fun k hk e => (h.rn k e).2.1 hk)).kept tcell (fun k hk e => h.cn (by rw [← e]; exact hk))
    c0 := by rw [World.cell?_setCell_other _ _ _ _ (by simp)]; exact e0
    c1 := World.cell?_setCell_same w5 _ _ e1
    cf := fun j => by rw [World.frozen?_setCell]; exact f5 j
    cl := by simp; omega
    cn := h.cn
    tl := (h.tl.tn hou.tn (fun g hg e => (h.rn g e).2.2.2 hg)).tn tcell (fun g hg e => (h.tn g hg).2.2 e)
    tn := h.tn
    rl := hlr.tn tcell (fun g hg e => (rnew g hg).2.2.1 e)
    rn := rnew
    each := fun t ht => (h.each t ht).up uall }

/-- one more thing -/
theorem Rd.thing (h : Rd lo w3 A0 p b cb mv tvo rvo row out ros wr) (hlo : lo ≤ wr.heap.size) (t : Th) (hto : TO wr lo (actr p b mv tvo rvo cb) t) (c : Nat) (hc : ∀ j, j < 4 → wr.cell? ⟨c, j, none⟩ = (eT t)[j]?) (hl : out.length + 1 ≤ 4294967296) :
    ∃ tvo' w5, (Builtin.append_ #[25, 25] 25 #[tvo, .slice (some ⟨c, 0, none⟩) 1 1]).run Try.prog wr = .ok tvo' w5 ∧ (∃ a n c, tvo' = .slice a n c) ∧ w5.cell? ⟨cb, 0, none⟩ = some tvo ∧ w5.frozen? ⟨cb, 0, none⟩ = false ∧ cb < w5.heap.size ∧
      Rd lo w3 A0 p b cb mv tvo' rvo row (out ++ [t]) ros (w5.setCell ⟨cb, 0, none⟩ tvo') := by
  obtain ⟨va, vk, hvf, _⟩ := hto.lr.rw.form
  obtain ⟨tvo', w5, hrun, hlr, hou⟩ := lth_push h.tl t (by rw [hvf]; rfl) c hc hl
  have hcl := h.cl
  have z5 := hou.tn.size
  have tcb : tvo.ownBlock ≠ some cb := fun e => (h.tn cb e).2.2 rfl
  have e0 : w5.cell? ⟨cb, 0, none⟩ = some tvo := by rw [hou.tn.cell hcl tcb]; exact h.c0
  have e1 : w5.cell? ⟨cb, 1, none⟩ = some rvo := by rw [hou.tn.cell hcl tcb]; exact h.c1
  have f5 : ∀ j, w5.frozen? ⟨cb, j, none⟩ = false := fun j => by rw [hou.tn.frozen hcl tcb]; exact h.cf j
  have tnew : ∀ g, tvo'.ownBlock = some g → lo ≤ g ∧ ¬ RO p b mv g ∧ g ≠ cb := fun g hg => by
    rcases hou.own g hg with e | e
    · exact h.tn g e
    · refine ⟨by omega, fun e' => ?_, by omega⟩
      have := h.ra.olt g e'; omega
  have uo : Up (actr p b mv tvo rvo cb) wr (actr p b mv tvo' rvo cb) w5 := by
    refine ⟨hou.tn.mono (fun k _ e => .inr (.inl e)), fun k e => ?_⟩
    rcases e with e | e | e | e
    · exact .inl (.inl e)
    · rcases hou.own k e with e | e
      · exact .inl (.inr (.inl e))
      · exact .inr e
    · exact .inl (.inr (.inr (.inl e)))
    · exact .inl (.inr (.inr (.inr e)))
  have uc : Up (actr p b mv tvo' rvo cb) w5 (actr p b mv tvo' rvo cb) (w5.setCell ⟨cb, 0, none⟩ tvo') := ⟨(Tn.refl _ w5).set _ _ (fun _ => .inr (.inr (.inr rfl))), fun _ e => .inl e⟩
  have uall := uo.trans uc
  have tcell : Tn (fun k => k = cb) w5 (w5.setCell ⟨cb, 0, none⟩ tvo') := (Tn.refl (fun k => k = cb) w5).set _ _ (fun _ => rfl)
  refine ⟨tvo', w5, hrun, ?_, e0, f5 0, by omega, ?_⟩
  · obtain ⟨a, c, e, _⟩ := hlr.rw.form
    exact ⟨a, _, c, e⟩
  exact {
    up := h.up.trans uall
    ra := (h.ra.kept hou.tn (fun k hk e => (h.tn k e).2.1 hk)).kept tcell (fun k hk e => h.cn (by rw [← e]; exact hk))
    c0 := World.cell?_setCell_same w5 _ _ e0
    c1 := by rw [World.cell?_setCell_other _ _ _ _ (by simp)]; exact e1
    cf := fun j => by rw [World.frozen?_setCell]; exact f5 j
    cl := by simp; omega
    cn := h.cn
    tl := hlr.tn tcell (fun g hg e => (tnew g hg).2.2 e)
    tn := tnew
    rl := (h.rl.tn hou.tn (fun g hg e => (h.rn g hg).2.2.2 e)).tn tcell (fun g hg e => (h.rn g hg).2.2.1 e)
    rn := fun g hg => ⟨(h.rn g hg).1, (h.rn g hg).2.1, (h.rn g hg).2.2.1, fun e => by
      rcases hou.own g e with e | e
      · exact (h.rn g hg).2.2.2 e
      · have := h.rl.rw.lt g hg; omega⟩
    each := fun x hx => by
      rcases List.mem_append.1 hx with hx | hx
      · exact (h.each x hx).up uall
      · simp only [List.mem_singleton] at hx
        subst hx
        exact hto.up uall }
end
end Go.Proofs.Ytlkbnjdhokjfnaa
namespace Go.Proofs.Ytlkbnjdhokjfnaa
set_option linter.unusedSimpArgs false
set_option linter.unusedVariables false
open Go.RowKit

/-- the words that bytes are -/
def wordsIn (v : List UInt8) : List Nat := (List.range (v.length / 8)).map (fun k => Hp.num ((v.drop (8 * k)).take 8))
def fromL (b : List UInt8) (at_ x : Nat) : List UInt8 := if fromB (at_ : Int) b.length (x : Int) then b.drop ((x : Int) - (at_ : Int)).toNat else []
def readT (b : List UInt8) (at_ x : Nat) : Option TR := thingP (fromL b at_ x)
def TR.nd (T : TR) : Hp.Nd Nat := ⟨T.kind, T.tag, T.bytes, (wordsIn T.vals).map Hp.value⟩
def getN (b : List UInt8) (at_ : Nat) : Nat → Option (Hp.Nd Nat) := fun x => (readT b at_ x).map TR.nd
/-- all words that lie anywhere in bytes -/
def anyW (b : List UInt8) : List Nat := (List.range b.length).map (fun o => Hp.num ((b.drop o).take 8))

theorem thingP_vals {l : List UInt8} {T : TR} (h : thingP l = some T) : 8 ≤ l.length ∧ (∃ o n, T.vals = (l.drop o).take n) ∧ T.vals.length ≤ l.length ∧ T.bytes.length ≤ l.length := by
  unfold thingP at h
  simp only at h
  split at h
  · cases h
  · rename_i h8
    split at h
    · cases h
    · have hil : (insOf l).length ≤ l.length := by unfold insOf; simp; omega
      split at h
      · split at h
        · simp only [Option.some.injEq] at h
          subst h
          exact ⟨by omega, ⟨0, 0, by simp⟩, by simp, hil⟩
        · cases h
      · split at h
        · split at h
          · cases h
          · split at h
            · simp only [Option.some.injEq] at h
              subst h
              refine ⟨by omega, ⟨8 + 8, cutLen (hdr l / 16777216) (Hp.isRow ((hdr l / 2 % 16 : Nat) : Int)) - 8, ?_⟩, by simp; omega, by simp⟩
              simp only [insOf, List.drop_take, List.drop_drop]
            · cases h
        · split at h
          · simp only [Option.some.injEq] at h
            subst h
            exact ⟨by omega, ⟨8, _, rfl⟩, hil, by simp⟩
          · cases h

theorem fromL_drop (b : List UInt8) (at_ x : Nat) : ∃ o, fromL b at_ x = b.drop o := by
  unfold fromL
  split
  · exact ⟨_, rfl⟩
  · exact ⟨b.length, by simp⟩
theorem words_any {b : List UInt8} {at_ x : Nat} {T : TR} (h : readT b at_ x = some T) : ∀ y ∈ wordsIn T.vals, y ∈ anyW b := by
  obtain ⟨_, ⟨o, n, e⟩, _⟩ := thingP_vals h
  obtain ⟨o', eo⟩ := fromL_drop b at_ x
  rw [eo, List.drop_drop] at e
  intro y hy
  simp only [wordsIn, List.mem_map, List.mem_range] at hy
  obtain ⟨k, hk, rfl⟩ := hy
  have hlen : T.vals.length = min n (b.length - (o' + o)) := by rw [e]; simp
  have hsub : (T.vals.drop (8 * k)).take 8 = (b.drop (o' + o + 8 * k)).take 8 := by
    rw [e, List.drop_take, List.take_take, List.drop_drop]
    rw [Nat.min_eq_left (by omega)]
  rw [hsub]
  exact List.mem_map.2 ⟨o' + o + 8 * k, List.mem_range.2 (by omega), rfl⟩
theorem value_all {y : Nat} {D : Nat → Prop} (h : D y) : (Hp.value y).all D := by
  unfold Hp.value
  split
  · exact trivial
  · exact h
theorem steps_in {b : List UInt8} {at_ : Nat} {roots : List Nat} {i : Nat} {row : List Nat} (st : Hp.Steps (getN b at_) (Hp.meet [] (roots.map Hp.value)) i row) : (∀ k ∈ row, k ∈ roots ++ anyW b) ∧ row.Nodup ∧ row.length ≤ roots.length + b.length := by
  have h1 : ∀ k ∈ row, k ∈ roots ++ anyW b := by
    refine st.from (D := (· ∈ roots ++ anyW b)) (fun k t _ ht v hv => ?_) (Hp.meet_from (fun v hv => ?_) (by intro k hk; cases hk))
    · simp only [getN, Option.map_eq_some_iff] at ht
      obtain ⟨T, hT, rfl⟩ := ht
      simp only [TR.nd, List.mem_map] at hv
      obtain ⟨y, hy, rfl⟩ := hv
      exact value_all (List.mem_append_right _ (words_any hT y hy))
    · obtain ⟨y, hy, rfl⟩ := List.mem_map.1 hv
      exact value_all (List.mem_append_left _ hy)
  have h2 := st.nodup (Hp.meet_nodup (by simp))
  refine ⟨h1, h2, ?_⟩
  have := Hp.nodup_len row (roots ++ anyW b) h2 h1
  simpa [anyW] using this
theorem readT_lt {b : List UInt8} {at_ x : Nat} {T : TR} (h : readT b at_ x = some T) : at_ ≤ x ∧ x < at_ + b.length := by
  have h8 := (thingP_vals h).1
  unfold fromL at h8
  split at h8
  · rename_i hf
    simp only [fromB, decide_eq_true_eq] at hf
    simp at h8
    omega
  · simp at h8
theorem steps_lt {b : List UInt8} {at_ : Nat} {roots : List Nat} {i : Nat} {row : List Nat} (st : Hp.Steps (getN b at_) (Hp.meet [] (roots.map Hp.value)) i row) : i ≤ b.length := by
  have hn := (steps_in st).2.1
  have hh := st.holds
  have hle := st.le
  have h1 : ∀ k ∈ row.take i, k ∈ (List.range b.length).map (fun o => at_ + o) := by
    intro k hk
    obtain ⟨j, hj⟩ := List.getElem?_of_mem hk
    have hji : j < i := by have := (List.getElem?_eq_some_iff.1 hj).1; simp at this; omega
    rw [List.getElem?_take_of_lt hji] at hj
    obtain ⟨k', t', e', g', _⟩ := hh j hji
    rw [e'] at hj; cases hj
    simp only [getN, Option.map_eq_some_iff] at g'
    obtain ⟨T, hT, _⟩ := g'
    have := readT_lt hT
    exact List.mem_map.2 ⟨k - at_, List.mem_range.2 (by omega), by omega⟩
  have := Hp.nodup_len (row.take i) _ (List.Nodup.sublist (List.take_sublist i row) hn) h1
  simp at this
  omega
/-- a row of words is met -/
theorem meetWs_cast (l : List Nat) : ∀ (row : List Nat), l.foldl meetW (Hp.cs row) = Hp.cs (Hp.meet row (l.map Hp.value)) := by
  induction l with
  | nil => intro row; rfl
  | cons x l ih =>
    intro row
    simp only [List.foldl_cons, List.map_cons, Hp.meet_cons]
    rw [meetW_cast, ih]
end Go.Proofs.Ytlkbnjdhokjfnaa
namespace Go.Proofs.Ytlkbnjdhokjfnaa
set_option linter.unusedSimpArgs false
set_option linter.unusedVariables false
open Go.RowKit
attribute [local go_sem ↓] Go.wp_at_zero Go.wp_at_succ

theorem wp_app {ops : Array Oper} {o : Oper} {a : Act} {W : World} {K : Act → World → Prop} {Q : Exit → Act → World → Prop} {E : Prop} (hg : o.guard = none) (s x : Operand) (t tx : TypeId) (ho : o.op = .call { callee := .builtin .append, args := #[s, x], argTypes := #[t, tx] })
    (v xv : Value) (hs : a.eval s = v) (hx : a.eval x = xv) (v' : Value) (w' : World) (hrun : (Builtin.append_ #[t, tx] o.type #[v, xv]).run Try.prog W = .ok v' w') (hK : K (a.put o.dst v') w') :
    if Region.wanted o (yielded ops a.tmps) = true then Oper.wp Try.prog o a W K Q else E := by
  have hw : Region.wanted o (yielded ops a.tmps) = true := by simp [Region.wanted, hg]
  rw [if_pos hw]
  unfold Oper.wp
  simp [execOp, ho, resolve, invoke, builtin, hs, hx, hrun, Result.andThen]
  exact hK
theorem wp_fcall {ops : Array Oper} {o : Oper} {a : Act} {W : World} {K : Act → World → Prop} {Q : Exit → Act → World → Prop} {E : Prop} (hg : o.guard = none) (f : FuncId) (args : Array Value) (hrun : (execOp a.eval o).run Try.prog W = .ok (.enter f args) W)
    {R : Ending → World → Prop} (hc : Calls Try.prog f args W R) (hK : ∀ e w', R e w' → ∃ v, e = .returned v ∧ K (a.put o.dst v) w') :
    if Region.wanted o (yielded ops a.tmps) = true then Oper.wp Try.prog o a W K Q else E := by
  have hw : Region.wanted o (yielded ops a.tmps) = true := by simp [Region.wanted, hg]
  rw [if_pos hw]
  unfold Oper.wp
  rw [hrun, Oper.upon_enter]
  refine hc.mono fun e w'' hh => ?_
  obtain ⟨v, rfl, h⟩ := hK e w'' hh
  exact h

/-- a statement that ends in one way, and writes the slots from lo on -/
theorem wp_norm {s : Code} {Q : Exit → Act → World → Prop} {l : List Value} {ds : List Deferred} {w : World} (lo n : Nat) (R : World → Prop)
    (h : ∀ G : Act → Prop, Hid (∀ a' : Act, a'.tmps.toList.take lo = l.take lo → a'.tmps.toList.drop (lo + n) = l.drop (lo + n) → ((a'.tmps.toList.drop lo).take n).length = n → a'.defers = ds → G a') → s.wp Try.prog (fun e a' w' => match e with | .normal => G a' ∧ R w' | _ => False) ⟨l.toArray, ds⟩ w)
    (hk : ∀ xs w', xs.length = n → R w' → Q .normal ⟨(l.take lo ++ xs ++ l.drop (lo + n)).toArray, ds⟩ w') : s.wp Try.prog Q ⟨l.toArray, ds⟩ w := by
  refine wp_mono (h (fun a' => ∃ xs : List Value, xs.length = n ∧ a' = ⟨(l.take lo ++ xs ++ l.drop (lo + n)).toArray, ds⟩) (fun a' h1 h2 h3 h4 => ⟨(a'.tmps.toList.drop lo).take n, h3, ?_⟩)) (fun e a' w' hh => ?_)
  · obtain ⟨tm, df⟩ := a'
    simp only at h1 h2 h3 h4
    subst h4
    rw [← h1, ← h2, ← List.drop_drop, List.append_assoc, List.take_append_drop, List.take_append_drop]
  · cases e with
    | normal =>
      obtain ⟨⟨xs, hx, rfl⟩, hr⟩ := hh
      exact hk xs w' hx hr
    | _ => exact hh.elim


theorem valW_more {row m : List Int} {l : List Nat} (h : ∀ x ∈ l, x % 2 ≠ 1 → (x : Int) ∈ row) : l.map (valW (row ++ m)) = l.map (valW row) := by
  apply List.map_congr_left
  intro x hx
  unfold valW
  split
  · rfl
  · rename_i e; rw [Hp.pos_append (h x hx e)]
theorem meetW_more (row : List Int) (x : Nat) : ∃ m, meetW row x = row ++ m ∧ m.length ≤ 1 := by
  unfold meetW; split
  · exact ⟨[], by simp, by simp⟩
  · exact meetI_more row x
theorem meetWs_more (l : List Nat) : ∀ row : List Int, ∃ m, l.foldl meetW row = row ++ m ∧ m.length ≤ l.length := by
  induction l with
  | nil => exact fun row => ⟨[], by simp, by simp⟩
  | cons x l ih =>
    intro row
    obtain ⟨m, e, h⟩ := meetW_more row x
    obtain ⟨m', e', h'⟩ := ih (meetW row x)
    refine ⟨m ++ m', ?_, by simp; omega⟩
    simp only [List.foldl_cons]
    rw [e', e, List.append_assoc]
theorem meetWs_has (l : List Nat) : ∀ (row : List Int), ∀ x ∈ l, x % 2 ≠ 1 → (x : Int) ∈ l.foldl meetW row := by
  induction l with
  | nil => intro row x h; cases h
  | cons y l ih =>
    intro row x hx e
    simp only [List.foldl_cons]
    rcases List.mem_cons.1 hx with h | h
    · subst h
      obtain ⟨m, e', _⟩ := meetWs_more l (meetW row x)
      rw [e']
      apply List.mem_append_left
      unfold meetW
      rw [if_neg e]
      exact meetI_has row x
    · exact ih (meetW row y) x h e
theorem val_succ {row : List Int} {l : List Nat} {k : Nat} (hk : k < l.length) : (l.take (k + 1)).foldl meetW row = meetW ((l.take k).foldl meetW row) l[k] ∧
    (l.take (k + 1)).map (valW ((l.take (k + 1)).foldl meetW row)) = (l.take k).map (valW ((l.take k).foldl meetW row)) ++ [valW (meetW ((l.take k).foldl meetW row) l[k]) l[k]] := by
  have e : l.take (k + 1) = l.take k ++ [l[k]] := by rw [List.take_add_one, List.getElem?_eq_getElem hk]; rfl
  have e2 : (l.take (k + 1)).foldl meetW row = meetW ((l.take k).foldl meetW row) l[k] := by rw [e, List.foldl_append]; rfl
  refine ⟨e2, ?_⟩
  rw [e2, e, List.map_append]
  obtain ⟨m, em, _⟩ := meetW_more ((l.take k).foldl meetW row) l[k]
  congr 1
  rw [em]
  exact valW_more (meetWs_has (l.take k) row)

section
variable {lo : Nat} {w3 : World} {A0 : Nat → Prop} {p b cb : Nat} {mv tvo rvo : Value} {row : List Int} {out : List Th} {ros : List Rf} {wr : World}
/-- a word's value is asked for, and laid behind the roots -/
theorem Rd.rootval (h : Rd lo w3 A0 p b cb mv tvo rvo row out ros wr) (hlo : lo ≤ wr.heap.size) (x : Nat) (hx : x < 18446744073709551616) (hl : row.length + 1 ≤ 4294967296) (hl2 : ros.length + 1 ≤ 4294967296) (u : World) (t : Tn No wr u) :
    Calls Try.prog 70 #[.int .u64 (x : Int), .pointer (some ⟨p, 0, none⟩)] u fun e w2 => ∃ mv2 r1 r2, e = .returned (.agg #[.int .i64 r1, .int .i64 r2]) ∧ (w2.cell? ⟨cb, 1, none⟩ = some rvo ∧ cb < w2.heap.size) ∧
      ∃ rvo' w5, (Builtin.append_ #[22, 22] 22 #[rvo, .slice (some ⟨w2.heap.size, 0, none⟩) 1 1]).run Try.prog (w2.alloc (.cells #[.int .i64 r1, .int .i64 r2] 61)) = .ok rvo' w5 ∧ (∃ a n c, rvo' = .slice a n c) ∧ w5.cell? ⟨cb, 1, none⟩ = some rvo ∧ w5.frozen? ⟨cb, 1, none⟩ = false ∧ cb < w5.heap.size ∧
        Rd lo w3 A0 p b cb mv2 tvo rvo' (meetW row x) out (ros ++ [valW (meetW row x) x]) (w5.setCell ⟨cb, 1, none⟩ rvo') := by
  have hu := h.no t
  refine (value_raw p b mv row x u hu.ra hx hl).mono ?_
  rintro e w2 ⟨mv2, he, ra2, up2⟩
  have h2 := hu.later up2 ra2
  have t3 : Tn No w2 (w2.alloc (.cells #[.int .i64 (valW (meetW row x) x).1, .int .i64 (valW (meetW row x) x).2] 61)) := (Tn.refl No w2).alloc _
  have hz := t.size
  have hz2 := up2.tn.size
  obtain ⟨rvo', w5, a1, a2, a3, a4, a5, a6⟩ := (h2.no t3).root (by simp; omega) (valW (meetW row x) x) w2.heap.size (by rw [World.cell?_alloc_new]; rfl) (by rw [World.cell?_alloc_new]; rfl) hl2
  exact ⟨mv2, _, _, he, ⟨h2.c1, h2.cl⟩, rvo', w5, a1, a2, a3, a4, a5, a6⟩
end

/-- what read leaves, where all is there -/
def ReadOk (b : List UInt8) (at_ : Nat) (roots : List Nat) (w : World) (e : Ending) (w' : World) : Prop :=
  ∃ tv rv out ros row, e = .returned (.tuple #[.agg #[tv, rv], .bool true]) ∧ Made w tv rv out ros w' ∧ Hp.Walk (getN b at_) 0 (Hp.meet [] (roots.map Hp.value)) row ∧ out.map Th.nd = Hp.things (getN b at_) row ∧ ros.map vOf = Hp.roots row (roots.map Hp.value)
/-- where it isn't -/
def ReadNo (b : List UInt8) (at_ : Nat) (roots : List Nat) (w : World) (e : Ending) (w' : World) : Prop :=
  e = .returned (.tuple #[.agg #[.slice none 0 0, .slice none 0 0], .bool false]) ∧ Tn No w w' ∧ ∃ i row k, Hp.Steps (getN b at_) (Hp.meet [] (roots.map Hp.value)) i row ∧ row[i]? = some k ∧ getN b at_ k = none

end Go.Proofs.Ytlkbnjdhokjfnaa
namespace Go.Proofs.Ytlkbnjdhokjfnaa
set_option linter.unusedSimpArgs false
set_option linter.unusedVariables false
open Go.RowKit
attribute [local go_sem ↓] Go.wp_at_zero Go.wp_at_succ

theorem pos_le {l : List Int} {k : Int} : Hp.pos l k ≤ l.length := by
  induction l with
  | nil => simp [Hp.pos]
  | cons x l ih => simp only [Hp.pos, List.length_cons]; split <;> omega
theorem valW_ok2 {row : List Int} {x : Nat} (hx : x < 18446744073709551616) (hl : row.length ≤ 8589934592) : i64ok (valW row x).1 ∧ i64ok (valW row x).2 := by
  unfold valW
  by_cases h : x % 2 = 1
  · rw [if_pos h]
    refine ⟨by simp [i64ok], ?_⟩
    simp only [i64ok]
    split <;> omega
  · rw [if_neg h]
    refine ⟨by simp [i64ok], ?_⟩
    have := pos_le (l := row) (k := (x : Int))
    simp only [i64ok]
    omega
theorem wordsIn_lt (v : List UInt8) : ∀ x ∈ wordsIn v, x < 18446744073709551616 := by
  intro x hx
  simp only [wordsIn, List.mem_map, List.mem_range] at hx
  obtain ⟨k, hk, rfl⟩ := hx
  have := Hp.num_lt ((v.drop (8 * k)).take 8)
  have hl : ((v.drop (8 * k)).take 8).length = 8 := by simp; omega
  rw [hl] at this
  exact this
theorem wordsIn_length (v : List UInt8) : (wordsIn v).length = v.length / 8 := by simp [wordsIn]

theorem LR.set2 {w : World} {g n c : Nat} {l : List Rf} (h : LR 2 eR w (.slice (some ⟨g, 0, none⟩) n c) l) (k : Nat) (hk : k < l.length) (r : Rf) :
    LR 2 eR ((w.setCell ⟨g, k * 2, none⟩ (.int .i64 r.1)).setCell ⟨g, k * 2 + 1, none⟩ (.int .i64 r.2)) (.slice (some ⟨g, 0, none⟩) n c) (l.set k r) := by
  obtain ⟨hrw, hat⟩ := h
  have hrw' := hrw
  rcases hrw with ⟨e, _⟩ | ⟨g', cap, e, hg, h1, h2, h3⟩
  · cases e
  · simp only [Value.slice.injEq, Option.some.injEq, Addr.mk.injEq, true_and, and_true] at e
    obtain ⟨rfl, hn, rfl⟩ := e
    have hz : ∀ j, j < c * 2 → ∃ u, w.cell? ⟨g, j, none⟩ = some u := fun j hj => Option.isSome_iff_exists.1 (h3 j hj).1
    obtain ⟨u0, hu0⟩ := hz (k * 2) (by omega)
    obtain ⟨u1, hu1⟩ := hz (k * 2 + 1) (by omega)
    have s1 : (w.setCell ⟨g, k * 2, none⟩ (.int .i64 r.1)).cell? ⟨g, k * 2 + 1, none⟩ = some u1 := by rw [World.cell?_setCell_other _ _ _ _ (by simp)]; exact hu1
    have hcell : ∀ j, ((w.setCell ⟨g, k * 2, none⟩ (.int .i64 r.1)).setCell ⟨g, k * 2 + 1, none⟩ (.int .i64 r.2)).cell? ⟨g, j, none⟩ = if j = k * 2 then some (.int .i64 r.1) else if j = k * 2 + 1 then some (.int .i64 r.2) else w.cell? ⟨g, j, none⟩ := by
      intro j
      by_cases e1 : j = k * 2 + 1
      · subst e1
        rw [if_neg (by omega), if_pos rfl, World.cell?_setCell_same _ _ _ s1]
      · rw [World.cell?_setCell_other _ _ _ _ (by simp <;> omega)]
        by_cases e0 : j = k * 2
        · subst e0
          rw [if_pos rfl, World.cell?_setCell_same _ _ _ hu0]
        · rw [World.cell?_setCell_other _ _ _ _ (by simp <;> omega), if_neg e0, if_neg e1]
    refine ⟨.inr ⟨g, c, by rw [List.length_set, hn], by simpa using hg, by rw [List.length_set]; exact h1, h2, fun j hj => ⟨?_, ?_⟩⟩, fun i hi j hj => ?_⟩
    · rw [hcell]
      split
      · rfl
      · split
        · rfl
        · exact (h3 j hj).1
    · rw [World.frozen?_setCell, World.frozen?_setCell]
      exact (h3 j hj).2
    · rw [List.length_set] at hi
      show World.cell? _ ⟨g, i * 2 + j, none⟩ = _
      rw [hcell]
      by_cases e : i = k
      · subst e
        rw [List.getElem_set_self]
        have : j = 0 ∨ j = 1 := by omega
        rcases this with rfl | rfl
        · rw [if_pos (by omega)]; rfl
        · rw [if_neg (by omega), if_pos rfl]; rfl
      · rw [List.getElem_set_ne (fun h => e h.symm), if_neg (by omega), if_neg (by omega)]
        exact hat i hi j hj

/-- a thing whose values are being read, j of n -/
structure In (wr0 : World) (p q : Nat) (mv0 : Value) (tb : Nat) (kd tg : Int) (s : ByteArray) (rv : Value) (ws : List Nat) (row0 : List Int) (j : Nat) (mv : Value) (wr : World) : Prop where
  up : Up (RO p q mv0) wr0 (RO p q mv) wr
  ra : RAU wr p q mv ((ws.take j).foldl meetW row0)
  lr : LR 2 eR wr rv ((ws.take j).map (valW ((ws.take j).foldl meetW row0)) ++ List.replicate (ws.length - j) (0, 0))
  c0 : wr.cell? ⟨tb, 0, none⟩ = some (.int .i64 kd)
  c1 : wr.cell? ⟨tb, 1, none⟩ = some (.int .i64 tg)
  c2 : wr.cell? ⟨tb, 2, none⟩ = some (.string s)
  c3 : wr.cell? ⟨tb, 3, none⟩ = some rv
  tb0 : wr0.heap.size ≤ tb
  tb1 : tb < wr.heap.size
  rvn : ∀ g, rv.ownBlock = some g → wr0.heap.size ≤ g ∧ g ≠ tb ∧ ¬ RO p q mv g
  tbn : ¬ RO p q mv tb

section
variable {wr0 : World} {p q : Nat} {mv0 : Value} {tb : Nat} {kd tg : Int} {s : ByteArray} {rv : Value} {ws : List Nat} {row0 : List Int} {j : Nat} {mv : Value} {wr : World}
theorem In.later (h : In wr0 p q mv0 tb kd tg s rv ws row0 j mv wr) {w' : World} (t : Tn No wr w') : In wr0 p q mv0 tb kd tg s rv ws row0 j mv w' :=
  ⟨h.up.trans (Up.no t), h.ra.no t, h.lr.no t, by rw [t.cell h.tb1 (fun e => e)]; exact h.c0, by rw [t.cell h.tb1 (fun e => e)]; exact h.c1, by rw [t.cell h.tb1 (fun e => e)]; exact h.c2, by rw [t.cell h.tb1 (fun e => e)]; exact h.c3, h.tb0, Nat.lt_of_lt_of_le h.tb1 t.size, h.rvn, h.tbn⟩
/-- one more value -/
theorem In.value (h : In wr0 p q mv0 tb kd tg s rv ws row0 j mv wr) (hj : j < ws.length) {g n c : Nat} (hrv : rv = .slice (some ⟨g, 0, none⟩) n c) (hx : ws[j] < 18446744073709551616) (hl : ((ws.take j).foldl meetW row0).length + 1 ≤ 4294967296) (u : World) (t : Tn No wr u) :
    Calls Try.prog 70 #[.int .u64 (ws[j] : Int), .pointer (some ⟨p, 0, none⟩)] u fun e w2 => ∃ mv2 r1 r2, e = .returned (.agg #[.int .i64 r1, .int .i64 r2]) ∧ (w2.cell? ⟨tb, 3, none⟩ = some rv ∧ tb < w2.heap.size ∧ g < w2.heap.size ∧ (∃ u0, w2.cell? ⟨g, j * 2, none⟩ = some u0) ∧ (∃ u1, w2.cell? ⟨g, j * 2 + 1, none⟩ = some u1) ∧ w2.frozen? ⟨g, j * 2, none⟩ = false ∧ w2.frozen? ⟨g, j * 2 + 1, none⟩ = false) ∧
      In wr0 p q mv0 tb kd tg s rv ws row0 (j + 1) mv2 ((w2.setCell ⟨g, j * 2, none⟩ (.int .i64 r1)).setCell ⟨g, j * 2 + 1, none⟩ (.int .i64 r2)) := by
  have hu := h.later t
  refine (value_raw p q mv _ ws[j] u hu.ra hx hl).mono ?_
  rintro e w2 ⟨mv2, he, ra2, up2⟩
  obtain ⟨s1, s2⟩ := val_succ (row := row0) hj
  have hz := up2.tn.size
  have hno : ∀ g, g < u.heap.size → ¬ RO p q mv g → ¬ RO p q mv2 g := fun g hg hn e => by
    rcases up2.own g e with e | e
    · exact hn e
    · omega
  have hb1 := hu.tb1
  have hgl := hu.lr.rw.lt g (by rw [hrv]; rfl)
  obtain ⟨r1, r2, r3⟩ := hu.rvn g (by rw [hrv]; rfl)
  have hlr2 := hu.lr.tn up2.tn (fun g hg => (hu.rvn g hg).2.2)
  have hlen : ((ws.take j).map (valW ((ws.take j).foldl meetW row0)) ++ List.replicate (ws.length - j) (0, 0)).length = ws.length := by simp; omega
  have hset := (hrv ▸ hlr2).set2 j (by rw [hlen]; exact hj) (valW (meetW ((ws.take j).foldl meetW row0) ws[j]) ws[j])
  have eset : ((ws.take j).map (valW ((ws.take j).foldl meetW row0)) ++ List.replicate (ws.length - j) (0, 0)).set j (valW (meetW ((ws.take j).foldl meetW row0) ws[j]) ws[j]) = (ws.take (j + 1)).map (valW ((ws.take (j + 1)).foldl meetW row0)) ++ List.replicate (ws.length - (j + 1)) (0, 0) := by
    rw [s2]
    rw [show ws.length - j = (ws.length - (j + 1)) + 1 by omega, List.replicate_succ, List.set_append_right _ _ (by simp; omega)]
    have : j - ((ws.take j).map (valW ((ws.take j).foldl meetW row0))).length = 0 := by simp; omega
    rw [this]
    simp
  rw [eset] at hset
  have hcl := hlr2.rw
  have tS : Tn (fun k => k = g) w2 ((w2.setCell ⟨g, j * 2, none⟩ (.int .i64 (valW (meetW ((ws.take j).foldl meetW row0) ws[j]) ws[j]).1)).setCell ⟨g, j * 2 + 1, none⟩ (.int .i64 (valW (meetW ((ws.take j).foldl meetW row0) ws[j]) ws[j]).2)) := ((Tn.refl (fun k => k = g) w2).set _ _ (fun _ => rfl)).set _ _ (fun _ => rfl)
  have hne : tb ≠ g := fun e => r2 e.symm
  have cells : ∀ i x, u.cell? ⟨tb, i, none⟩ = some x → ((w2.setCell ⟨g, j * 2, none⟩ (.int .i64 (valW (meetW ((ws.take j).foldl meetW row0) ws[j]) ws[j]).1)).setCell ⟨g, j * 2 + 1, none⟩ (.int .i64 (valW (meetW ((ws.take j).foldl meetW row0) ws[j]) ws[j]).2)).cell? ⟨tb, i, none⟩ = some x := fun i x hx => by
    rw [tS.cell (by omega) hne, up2.tn.cell hb1 hu.tbn]; exact hx
  refine ⟨mv2, _, _, he, ⟨by rw [up2.tn.cell hb1 hu.tbn]; exact hu.c3, by omega, by omega, ?_⟩, ?_⟩
  · rw [hlen] at hcl
    rcases hcl with ⟨e, e'⟩ | ⟨g', cap, e, hg', h1, h2, h3⟩
    · omega
    · rw [hrv] at e
      simp only [Value.slice.injEq, Option.some.injEq, Addr.mk.injEq, true_and, and_true] at e
      obtain ⟨rfl, hn, rfl⟩ := e
      exact ⟨Option.isSome_iff_exists.1 (h3 _ (by omega)).1, Option.isSome_iff_exists.1 (h3 _ (by omega)).1, (h3 _ (by omega)).2, (h3 _ (by omega)).2⟩
  · have u2 : Up (RO p q mv0) wr0 (RO p q mv2) w2 := hu.up.trans up2
    exact {
      up := ⟨u2.tn.trans tS (fun _ _ e => e) (fun i hi e => by omega), u2.own⟩
      ra := by rw [s1]; exact ra2.kept tS (fun k hk e => hno g hgl r3 (by rw [← e]; exact hk))
      lr := by rw [hrv]; exact hset
      c0 := cells 0 _ hu.c0
      c1 := cells 1 _ hu.c1
      c2 := cells 2 _ hu.c2
      c3 := cells 3 _ hu.c3
      tb0 := hu.tb0
      tb1 := by simp; omega
      rvn := fun g' hg' => ⟨(hu.rvn g' hg').1, (hu.rvn g' hg').2.1, hno g' (hu.lr.rw.lt g' hg') (hu.rvn g' hg').2.2⟩
      tbn := hno tb hb1 hu.tbn }
end
/-- what thingIn says, laid into its own block: the values are to be read -/
theorem In.begin {wr0 wr : World} {p q : Nat} {mv0 : Value} {tb : Nat} {kd tg : Int} {s : ByteArray} {rv : Value} {ws : List Nat} {row0 : List Int} (h : RAU wr0 p q mv0 row0) (t : Tn No wr0 wr) (hlr : LR 2 eR wr rv (List.replicate ws.length (0, 0))) (hrv : ∀ g, rv.ownBlock = some g → wr0.heap.size ≤ g ∧ g ≠ tb)
    (c0 : wr.cell? ⟨tb, 0, none⟩ = some (.int .i64 kd)) (c1 : wr.cell? ⟨tb, 1, none⟩ = some (.int .i64 tg)) (c2 : wr.cell? ⟨tb, 2, none⟩ = some (.string s)) (c3 : wr.cell? ⟨tb, 3, none⟩ = some rv) (tb0 : wr0.heap.size ≤ tb) (tb1 : tb < wr.heap.size) : In wr0 p q mv0 tb kd tg s rv ws row0 0 mv0 wr :=
  ⟨Up.no t, h.no t, by simpa using hlr, c0, c1, c2, c3, tb0, tb1, fun g hg => ⟨(hrv g hg).1, (hrv g hg).2, fun e => by have := h.olt g e; have := (hrv g hg).1; omega⟩, fun e => by have := h.olt _ e; omega⟩

theorem TR.bounds {l : List UInt8} {T : TR} (h : thingP l = some T) : i64ok T.kind ∧ i64ok T.tag := by
  unfold thingP at h
  simp only at h
  have hfar : ∀ l : List UInt8, fnB l = true → 0 ≤ farOf l / 16 ∧ farOf l / 16 ≤ 4194303 := fun l hf => by
    simp only [fnB, decide_eq_true_eq] at hf
    have : 0 ≤ farOf l := by unfold farOf; omega
    omega
  split at h
  · cases h
  · split at h
    · cases h
    · split at h
      · split at h
        · simp only [Option.some.injEq] at h
          subst h
          simp only [i64ok]; omega
        · cases h
      · split at h
        · split at h
          · cases h
          · rename_i hf
            have := hfar _ (by simpa using hf)
            split at h
            · simp only [Option.some.injEq] at h
              subst h
              simp only [i64ok]; omega
            · cases h
        · split at h
          · simp only [Option.some.injEq] at h
            subst h
            simp only [i64ok]; omega
          · cases h

section
variable {lo : Nat} {w3 : World} {A0 : Nat → Prop} {p q cb : Nat} {mv tvo rvo : Value} {row : List Nat} {out : List Th} {ros : List Rf} {wr : World} {b : List UInt8} {at_ : Nat} {s0 : List Nat} {i : Nat}
/-- a thing whose values are all read is laid behind the others -/
theorem Rd.next (h : Rd lo w3 A0 p q cb mv tvo rvo (Hp.cs row) out ros wr) (hlo : lo ≤ wr.heap.size) (hst : Hp.Steps (getN b at_) s0 i row) (hnds : out.map Th.nd = Hp.upto (getN b at_) row i) (hoks : ∀ t ∈ out, okT t.pl) (hb : b.length ≤ 1073741824)
    {x : Nat} {T : TR} (hx : row[i]? = some x) (hT : readT b at_ x = some T) {tb : Nat} {rv mv2 : Value} {w2 : World} (hin : In wr p q mv tb T.kind T.tag ⟨T.bytes.toArray⟩ rv (wordsIn T.vals) (Hp.cs row) (wordsIn T.vals).length mv2 w2) (hrow : row.length ≤ 2147483648) (hol : out.length + 1 ≤ 4294967296) (u : World) (t : Tn No w2 u) :
    ∃ row' : List Nat, ∃ tvo' w5, u.cell? ⟨cb, 0, none⟩ = some tvo ∧ cb < u.heap.size ∧ (Builtin.append_ #[25, 25] 25 #[tvo, .slice (some ⟨u.heap.size, 0, none⟩) 1 1]).run Try.prog (u.alloc (.cells #[.int .i64 T.kind, .int .i64 T.tag, .string ⟨T.bytes.toArray⟩, rv] 24)) = .ok tvo' w5 ∧ (∃ a n c, tvo' = .slice a n c) ∧ w5.cell? ⟨cb, 0, none⟩ = some tvo ∧ w5.frozen? ⟨cb, 0, none⟩ = false ∧ cb < w5.heap.size ∧
      ∃ out', Hp.Steps (getN b at_) s0 (i + 1) row' ∧ Rd lo w3 A0 p q cb mv2 tvo' rvo (Hp.cs row') out' ros (w5.setCell ⟨cb, 0, none⟩ tvo') ∧ out'.map Th.nd = Hp.upto (getN b at_) row' (i + 1) ∧ ∀ t ∈ out', okT t.pl := by
  have hP := thingP_vals hT
  have hBd := TR.bounds hT
  have hfl : (fromL b at_ x).length ≤ b.length := by
    obtain ⟨o, e⟩ := fromL_drop b at_ x
    rw [e]; simp
  have hwl := wordsIn_length T.vals
  have htk : (wordsIn T.vals).take (wordsIn T.vals).length = wordsIn T.vals := List.take_of_length_le (Nat.le_refl _)
  have hu := hin.later t
  have hra := hu.ra
  have hlr := hu.lr
  rw [htk] at hra hlr
  have hcs := meetWs_cast (wordsIn T.vals) row
  rw [hcs] at hra hlr
  simp only [Nat.sub_self, List.replicate_zero, List.append_nil] at hlr
  obtain ⟨row', hrow'⟩ : ∃ row', Hp.meet row ((wordsIn T.vals).map Hp.value) = row' := ⟨_, rfl⟩
  rw [hrow'] at hra hlr
  have hrl' : (Hp.cs row').length ≤ 8589934592 := by
    rw [← hrow', ← hcs]
    obtain ⟨m, em, hm⟩ := meetWs_more (wordsIn T.vals) (Hp.cs row)
    rw [em]; simp [Hp.cs] at hm ⊢; omega
  have hg : getN b at_ x = some T.nd := by simp [getN, hT]
  have hst' : Hp.Steps (getN b at_) s0 (i + 1) row' := by
    have := Hp.Steps.succ hst hx hg
    rw [← hrow']; exact this
  have h2 := h.later hu.up hra
  obtain ⟨th, hth⟩ : ∃ th : Th, th = ⟨T.kind, T.tag, ⟨T.bytes.toArray⟩, rv, (wordsIn T.vals).map (valW (Hp.cs row'))⟩ := ⟨_, rfl⟩
  have hz := hin.up.tn.size
  have hz2 := t.size
  have hto : TO u lo (actr p q mv2 tvo rvo cb) th := by
    rw [hth]
    refine ⟨hlr, fun g hg' => ?_, hBd.1, hBd.2, ?_, ?_, ?_⟩
    · obtain ⟨r1, r2, r3⟩ := hu.rvn g hg'
      refine ⟨by omega, fun e => ?_⟩
      rcases e with e | e | e | e
      · exact r3 e
      · have := h.tl.rw.lt g e; omega
      · have := h.rl.rw.lt g e; omega
      · have := h.cl; omega
    · intro r hr
      obtain ⟨y, hy, rfl⟩ := List.mem_map.1 hr
      exact valW_ok2 (wordsIn_lt _ y hy) hrl'
    · have : (ByteArray.mk T.bytes.toArray).size = T.bytes.length := by simp [ByteArray.size]
      show (ByteArray.mk T.bytes.toArray).size ≤ _
      omega
    · simp only [List.length_map]; omega
  have t3 : Tn No u (u.alloc (.cells #[.int .i64 T.kind, .int .i64 T.tag, .string ⟨T.bytes.toArray⟩, rv] 24)) := (Tn.refl No u).alloc _
  obtain ⟨tvo', w5, a1, a2, a3, a4, a5, a6⟩ := (h2.no t3).thing (by simp; omega) th (hto.up (Up.no t3)) u.heap.size (fun j hj => by
    rw [World.cell?_alloc_new, hth]
    match j, hj with
    | 0, _ => rfl
    | 1, _ => rfl
    | 2, _ => rfl
    | 3, _ => rfl) hol
  have hnd : th.nd = T.nd.map (Hp.pos row') := by
    rw [hth]
    simp only [Th.nd, TR.nd, Hp.Nd.map, Hp.Nd.mk.injEq, true_and, List.map_map]
    apply List.map_congr_left
    intro y _
    exact (valW_cast row' y).1
  refine ⟨row', tvo', w5, h2.c0, h2.cl, a1, a2, a3, a4, a5, out ++ [th], hst', a6, ?_, ?_⟩
  · rw [List.map_append, hnds]
    have := hst.upto hx hg
    have e : Hp.meet row T.nd.refs = row' := hrow'
    rw [e] at this
    rw [this]
    simp [hnd]
  · intro y hy
    rcases List.mem_append.1 hy with hy | hy
    · exact hoks y hy
    · simp only [List.mem_singleton] at hy
      subst hy
      rw [hth]
      intro r hr
      obtain ⟨z, _, rfl⟩ := List.mem_map.1 hr
      exact (valW_cast row' z).2
end

/-- a statement that ends in one way, and what its slots hold then -/
theorem wp_norm2 {s : Code} {Q : Exit → Act → World → Prop} {l : List Value} {ds : List Deferred} {w : World} (lo n : Nat) (R : List Value → World → Prop)
    (h : ∀ G : Act → Prop, Hid (∀ a' : Act, a'.tmps.toList.take lo = l.take lo → a'.tmps.toList.drop (lo + n) = l.drop (lo + n) → ((a'.tmps.toList.drop lo).take n).length = n → a'.defers = ds → G a') → s.wp Try.prog (fun e a' w' => match e with | .normal => G a' ∧ R ((a'.tmps.toList.drop lo).take n) w' | _ => False) ⟨l.toArray, ds⟩ w)
    (hk : ∀ xs w', xs.length = n → R xs w' → Q .normal ⟨(l.take lo ++ xs ++ l.drop (lo + n)).toArray, ds⟩ w') : s.wp Try.prog Q ⟨l.toArray, ds⟩ w := by
  refine wp_mono (h (fun a' => ((a'.tmps.toList.drop lo).take n).length = n ∧ a' = ⟨(l.take lo ++ (a'.tmps.toList.drop lo).take n ++ l.drop (lo + n)).toArray, ds⟩) (fun a' h1 h2 h3 h4 => ⟨h3, ?_⟩)) (fun e a' w' hh => ?_)
  · obtain ⟨tm, df⟩ := a'
    simp only at h1 h2 h3 h4
    subst h4
    rw [← h1, ← h2, ← List.drop_drop, List.append_assoc, List.take_append_drop, List.take_append_drop]
  · cases e with
    | normal =>
      obtain ⟨⟨hx, ha⟩, hr⟩ := hh
      rw [ha]
      exact hk _ w' hx hr
    | _ => exact hh.elim
end Go.Proofs.Ytlkbnjdhokjfnaa
