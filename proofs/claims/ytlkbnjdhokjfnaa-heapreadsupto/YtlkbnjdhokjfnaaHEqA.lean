/-
  heap: are two graphs the same, field by field?
-/
import Derived.Test.YtlkbnjdhokjfnaaHLayAll
namespace Go.Proofs.Ytlkbnjdhokjfnaa
set_option linter.unusedSimpArgs false
set_option linter.unusedVariables false
open Go.RowKit
attribute [local go_sem ↓] Go.wp_at_zero Go.wp_at_succ

theorem take_ext {α : Type} {l m : List α} {k : Nat} (h1 : k < l.length) (h2 : k < m.length) (h : l.take k = m.take k) (e : l[k] = m[k]) : l.take (k + 1) = m.take (k + 1) := by
  rw [List.take_add_one, List.take_add_one, h, List.getElem?_eq_getElem h1, List.getElem?_eq_getElem h2, e]
theorem ne_at {α : Type} {l m : List α} {k : Nat} (h1 : k < l.length) (h2 : k < m.length) (e : l[k] ≠ m[k]) : l ≠ m := fun h => e (by subst h; rfl)

set_option maxHeartbeats 4000000 in
set_option maxRecDepth 100000 in
theorem sEqual_raw (v v' : Value) (l l' : List Rf) (w : World) (h : LD 2 eR w v l) (h' : LD 2 eR w v' l') (hl : l.length ≤ 1073741824) (hl' : l'.length ≤ 1073741824) :
    Calls Try.prog 60 #[v, v'] w fun e w' => e = .returned (.bool (decide (l = l'))) ∧ Tn No w w' := by
  obtain ⟨a, c, rfl, hc, hcm, hat⟩ := h
  obtain ⟨a', c', rfl, hc', hcm', hat'⟩ := h'
  by_cases hlen : l.length = l'.length
  · have HAT := hid hat
    have HAT' := hid hat'
    obtain ⟨m, hm⟩ : ∃ m, l.length = m := ⟨_, rfl⟩
    have HM := hid hm
    have HM' := hid (hlen.symm.trans hm)
    rw [← hlen] at hc' hl' ⊢
    rw [hm] at hc hl hc' hl' ⊢
    clear hat hat' hm hlen
    go_enter Try.func60, Try.ntmps60
    go_wp2_with fail
    go_loopw [13] (fun i wr => ∃ k : Nat, k ≤ m ∧ i = .int .i64 (k : Int) ∧ l.take k = l'.take k ∧ Tn No w wr) (fun i _ => m - (intOf i).toNat)
    case atStart => exact ⟨0, by omega, rfl, by simp, Tn.refl _ _⟩
    case round =>
      obtain ⟨k, hk, rfl, htk, ht⟩ := hrel
      by_cases hlt : k < m
      · have hkl : k < l.length := by have := HM.out; omega
        have hkl' : k < l'.length := by have := HM'.out; omega
        obtain ⟨g, o, rfl, hg, hcell⟩ := HAT.out (by omega)
        obtain ⟨g', o', rfl, hg', hcell'⟩ := HAT'.out (by omega)
        obtain ⟨q0, q1⟩ := ref_cells hcell k hkl
        obtain ⟨p0, p1⟩ := ref_cells hcell' k hkl'
        rw [← ht.cell hg (fun e => e)] at q0 q1
        rw [← ht.cell hg' (fun e => e)] at p0 p1
        have HT : Hid (∀ q, Tn No w (wr.drewN q)) := hid (fun q => ht.drewN q)
        have HY : Hid (l[k] = l'[k] → l.take (k + 1) = l'.take (k + 1)) := hid (take_ext hkl hkl' htk)
        have HN : Hid (l[k] ≠ l'[k] → l ≠ l') := hid (ne_at hkl hkl')
        obtain ⟨r, hr⟩ : ∃ r, l[k] = r := ⟨_, rfl⟩
        obtain ⟨r', hr'⟩ : ∃ r, l'[k] = r := ⟨_, rfl⟩
        rw [hr] at q0 q1 HY HN
        rw [hr'] at p0 p1 HY HN
        obtain ⟨x, y⟩ := r
        obtain ⟨x', y'⟩ := r'
        simp only at q0 q1 p0 p1
        have hki : (k : Int) < (m : Int) := by omega
        clear hcell hcell' hr hr' htk HAT HAT' ht
        by_cases he : (x, y) = (x', y')
        · have HY2 := hid (HY.out he)
          obtain ⟨rfl, rfl⟩ : x = x' ∧ y = y' := by simpa using he
          clear HY HN he
          go_wp2_with fail
          go_quiet (fail)
          go_wp2_with fail
          go_roundw
          case rel => exact ⟨k + 1, by omega, by go_num, HY2.out, HT.out _⟩
          case measure => simp [intOf]; omega
        · have HN2 := hid (HN.out he)
          by_cases hx : x = x'
          · subst hx
            have d2 : (y == y') = false := by
              rw [Bool.eq_false_iff]; intro h; apply he; rw [eq_of_beq h]
            clear HY HN he
            go_wp2_with fail
            go_quiet (fail)
            go_wp2_with fail
            go_ret
            exact ⟨ret_bool (by simp [HN2.out]), HT.out _⟩
          · have d1 : (x == x') = false := by simpa using hx
            clear HY HN he hx
            go_wp2_with fail
            go_quiet (fail)
            go_wp2_with fail
            go_ret
            exact ⟨ret_bool (by simp [HN2.out]), HT.out _⟩
      · obtain rfl : k = m := by omega
        have HT := hid htk
        have HTW := hid ht
        clear htk ht
        go_wp2
        go_ret
        have := HT.out
        rw [List.take_of_length_le (by have := HM.out; omega), List.take_of_length_le (by have := HM'.out; omega)] at this
        exact ⟨ret_bool (by simp [this]), HTW.out⟩
  · have hd : ((l.length : Int) == (l'.length : Int)) = false := by simp; omega
    have HN : Hid (l ≠ l') := hid (fun e => hlen (by rw [e]))
    clear hat hat' hlen
    go_enter Try.func60, Try.ntmps60
    go_wp2
    go_ret
    exact ⟨ret_bool (by simp [HN.out]), Tn.refl _ _⟩
end Go.Proofs.Ytlkbnjdhokjfnaa
namespace Go.Proofs.Ytlkbnjdhokjfnaa
set_option linter.unusedSimpArgs false
set_option linter.unusedVariables false
open Go.RowKit
attribute [local go_sem ↓] Go.wp_at_zero Go.wp_at_succ

/-- a thing without where its values lie -/
structure Pt where
  kind : Int
  tag : Int
  bytes : ByteArray
  refs : List Rf
  deriving DecidableEq
def Th.pl (t : Th) : Pt := ⟨t.kind, t.tag, t.bytes, t.refs⟩

set_option maxHeartbeats 4000000 in
set_option maxRecDepth 100000 in
theorem eqThings_raw (t t' : Th) (w : World) (h : TA w t) (h' : TA w t') : Calls Try.prog 62 #[t.val, t'.val] w fun e w' => e = .returned (.bool (decide (t.pl = t'.pl))) ∧ Tn No w w' := by
  obtain ⟨a, c, ea⟩ := h.form
  obtain ⟨a', c', ea'⟩ := h'.form
  have HS : Hid (∀ u, Tn No w u → Calls Try.prog 60 #[t.rv, t'.rv] u fun e w' => e = .returned (.bool (decide (t.refs = t'.refs))) ∧ Tn No u w') := hid (fun u tn => sEqual_raw _ _ _ _ u (h.refs.no tn) (h'.refs.no tn) h.len h'.len)
  obtain ⟨r, hr⟩ : ∃ r, decide (t.pl = t'.pl) = r := ⟨_, rfl⟩
  rw [hr]
  unfold Th.val
  rw [ea, ea'] at HS ⊢
  have HR : Hid (r = decide (t.kind = t'.kind ∧ t.tag = t'.tag ∧ t.bytes = t'.bytes ∧ t.refs = t'.refs)) := hid (by rw [← hr]; simp only [Th.pl, Pt.mk.injEq])
  obtain ⟨kind, tag, bytes, rv, refs⟩ := t
  obtain ⟨kind', tag', bytes', rv', refs'⟩ := t'
  dsimp only at HS HR ⊢
  clear hr
  have HTT : Hid (∀ o o', Tn No w ((w.alloc o).alloc o')) := hid (fun o o' => ((Tn.refl No w).alloc o).alloc o')
  clear h h' ea ea'
  obtain ⟨n, hn⟩ : ∃ n, refs.length = n := ⟨_, rfl⟩
  obtain ⟨n', hn'⟩ : ∃ n, refs'.length = n := ⟨_, rfl⟩
  rw [hn, hn'] at HS ⊢
  clear hn hn'
  by_cases h1 : kind = kind'
  · subst h1
    by_cases h2 : tag = tag'
    · subst h2
      by_cases h3 : bytes = bytes'
      · subst h3
        have e : r = decide (refs = refs') := by rw [HR.out]; simp
        rw [e]
        clear HR
        obtain ⟨b, hb⟩ : ∃ b, decide (refs = refs') = b := ⟨_, rfl⟩
        rw [hb] at HS ⊢
        clear e hb
        go_enter Try.func62, Try.ntmps62
        go_wp2_with (go_at_call 60; refine (HS.out _ (HTT.out _ _)).mono ?_; rintro e w2 ⟨rfl, t2⟩; have HT2 := hid ((HTT.out _ _).then t2); clear t2)
        go_ret
        exact ⟨rfl, HT2.out⟩
      · have d3 : (bytes.toList == bytes'.toList) = false := by
          rw [Bool.eq_false_iff]; intro h; apply h3
          have := eq_of_beq h
          rw [bl, bl] at this
          exact WideShapes.bytes_inj this
        obtain rfl : r = false := by rw [HR.out]; simp [h3]
        clear HR h3
        go_enter Try.func62, Try.ntmps62
        go_wp2
        go_ret
        exact ⟨rfl, HTT.out _ _⟩
    · have d2 : (tag == tag') = false := by simpa using h2
      obtain rfl : r = false := by rw [HR.out]; simp [h2]
      clear HR h2
      go_enter Try.func62, Try.ntmps62
      go_wp2
      go_ret
      exact ⟨rfl, HTT.out _ _⟩
  · have d1 : (kind == kind') = false := by simpa using h1
    obtain rfl : r = false := by rw [HR.out]; simp [h1]
    clear HR h1
    go_enter Try.func62, Try.ntmps62
    go_wp2
    go_ret
    exact ⟨rfl, HTT.out _ _⟩

theorem map_take_ext {α β : Type} (f : α → β) {l m : List α} {k : Nat} (h1 : k < l.length) (h2 : k < m.length) (h : (l.take k).map f = (m.take k).map f) (e : f l[k] = f m[k]) : (l.take (k + 1)).map f = (m.take (k + 1)).map f := by
  rw [map_take_succ f h1, map_take_succ f h2, h, e]
theorem map_ne_at {α β : Type} (f : α → β) {l m : List α} {k : Nat} (h1 : k < l.length) (h2 : k < m.length) (e : f l[k] ≠ f m[k]) : l.map f ≠ m.map f := fun h => e (by
  have := congrArg (fun x => x[k]?) h
  simpa [h1, h2] using this)

set_option maxHeartbeats 4000000 in
set_option maxRecDepth 100000 in
theorem eqFunc_raw (v v' : Value) (l l' : List Th) (w : World) (h : TL w v l) (h' : TL w v' l') :
    Calls Try.prog 61 #[v, v', .func (.func 62) #[] #[]] w fun e w' => e = .returned (.bool (decide (l.map Th.pl = l'.map Th.pl))) ∧ Tn No w w' := by
  have hl := h.tlen
  have hl' := h'.tlen
  have HE : Hid (∀ t ∈ l, ∀ t' ∈ l', ∀ u, Tn No w u → Calls Try.prog 62 #[t.val, t'.val] u fun e w' => e = .returned (.bool (decide (t.pl = t'.pl))) ∧ Tn No u w') := hid (fun t ht t' ht' u tn => eqThings_raw t t' u ((h.each t ht).no tn) ((h'.each t' ht').no tn))
  have HF : Hid (∀ t ∈ l, ∃ a c, t.rv = .slice a t.refs.length c) := hid (fun t ht => (h.each t ht).form)
  have HF' : Hid (∀ t ∈ l', ∃ a c, t.rv = .slice a t.refs.length c) := hid (fun t ht => (h'.each t ht).form)
  obtain ⟨a, c, rfl, hc, hcm, hat⟩ := h.things
  obtain ⟨a', c', rfl, hc', hcm', hat'⟩ := h'.things
  clear h h'
  by_cases hlen : l.length = l'.length
  · have HAT := hid hat
    have HAT' := hid hat'
    obtain ⟨m, hm⟩ : ∃ m, l.length = m := ⟨_, rfl⟩
    have HM := hid hm
    have HM' := hid (hlen.symm.trans hm)
    rw [← hlen] at hc' hl' ⊢
    rw [hm] at hc hl hc' hl' ⊢
    clear hat hat' hm hlen
    go_enter Try.func61, Try.ntmps61
    go_wp2_with fail
    go_loopw [17] (fun i wr => ∃ k : Nat, k ≤ m ∧ i = .int .i64 (k : Int) ∧ (l.take k).map Th.pl = (l'.take k).map Th.pl ∧ Tn No w wr) (fun i _ => m - (intOf i).toNat)
    case atStart => exact ⟨0, by omega, rfl, by simp, Tn.refl _ _⟩
    case round =>
      obtain ⟨k, hk, rfl, htk, ht⟩ := hrel
      by_cases hlt : k < m
      · have hkl : k < l.length := by have := HM.out; omega
        have hkl' : k < l'.length := by have := HM'.out; omega
        obtain ⟨g, o, rfl, hg, hcell⟩ := HAT.out (by omega)
        obtain ⟨g', o', rfl, hg', hcell'⟩ := HAT'.out (by omega)
        obtain ⟨q0, q1, q2, q3⟩ := thing_cells hcell k hkl
        obtain ⟨p0, p1, p2, p3⟩ := thing_cells hcell' k hkl'
        rw [← ht.cell hg (fun e => e)] at q0 q1 q2 q3
        rw [← ht.cell hg' (fun e => e)] at p0 p1 p2 p3
        have HY : Hid (l[k].pl = l'[k].pl → (l.take (k + 1)).map Th.pl = (l'.take (k + 1)).map Th.pl) := hid (map_take_ext Th.pl hkl hkl' htk)
        have HN : Hid (l[k].pl ≠ l'[k].pl → l.map Th.pl ≠ l'.map Th.pl) := hid (map_ne_at Th.pl hkl hkl')
        have hce := HE.out _ (List.getElem_mem hkl) _ (List.getElem_mem hkl')
        obtain ⟨xa, xc, hx⟩ := HF.out _ (List.getElem_mem hkl)
        obtain ⟨xa', xc', hx'⟩ := HF'.out _ (List.getElem_mem hkl')
        unfold Th.val at hce
        rw [hx] at q3 hce
        rw [hx'] at p3 hce
        have hglt : g' < wr.heap.size := Nat.lt_of_lt_of_le hg' ht.size
        have HCE : Hid (∀ o o', _) := hid (fun o o' => hce _ ((ht.alloc o).alloc o'))
        have HT : Hid (∀ o o' u, Tn No ((wr.alloc o).alloc o') u → Tn No w u) := hid (fun o o' u t => ((ht.alloc o).alloc o').then t)
        have hki : (k : Int) < (m : Int) := by omega
        cases hb : decide (l[k].pl = l'[k].pl) with
        | true =>
          have HY2 := hid (HY.out (of_decide_eq_true hb))
          rw [hb] at HCE
          generalize l[k].refs.length = n1 at *
          generalize l'[k].refs.length = n2 at *
          generalize l[k].kind = k1 at *
          generalize l'[k].kind = k2 at *
          generalize l[k].tag = t1 at *
          generalize l'[k].tag = t2 at *
          generalize l[k].bytes = b1 at *
          generalize l'[k].bytes = b2 at *
          clear HY HN hb hce hx hx' hcell hcell' HAT HAT' HF HF' HE htk ht hkl hkl'
          go_wp2_with (go_at_call 62; refine (HCE.out _ _).mono ?_; rintro e w2 ⟨rfl, t2⟩; have HT2 := hid (HT.out _ _ _ t2); clear t2)
          go_roundw
          case rel => exact ⟨k + 1, by omega, by go_num, HY2.out, HT2.out⟩
          case measure => simp [intOf]; omega
        | false =>
          have HN2 := hid (HN.out (of_decide_eq_false hb))
          rw [hb] at HCE
          generalize l[k].refs.length = n1 at *
          generalize l'[k].refs.length = n2 at *
          generalize l[k].kind = k1 at *
          generalize l'[k].kind = k2 at *
          generalize l[k].tag = t1 at *
          generalize l'[k].tag = t2 at *
          generalize l[k].bytes = b1 at *
          generalize l'[k].bytes = b2 at *
          clear HY HN hb hce hx hx' hcell hcell' HAT HAT' HF HF' HE htk ht hkl hkl'
          go_wp2_with (go_at_call 62; refine (HCE.out _ _).mono ?_; rintro e w2 ⟨rfl, t2⟩; have HT2 := hid (HT.out _ _ _ t2); clear t2)
          go_ret
          exact ⟨ret_bool (by simp [HN2.out]), HT2.out⟩
      · obtain rfl : k = m := by omega
        have HT := hid htk
        have HTW := hid ht
        clear htk ht
        go_wp2
        go_ret
        have := HT.out
        rw [List.take_of_length_le (by have := HM.out; omega), List.take_of_length_le (by have := HM'.out; omega)] at this
        exact ⟨ret_bool (by simp [this]), HTW.out⟩
  · have hd : ((l.length : Int) == (l'.length : Int)) = false := by simp; omega
    have HN : Hid (l.map Th.pl ≠ l'.map Th.pl) := hid (fun e => hlen (by have := congrArg List.length e; simpa using this))
    clear hat hat' hlen
    go_enter Try.func61, Try.ntmps61
    go_wp2
    go_ret
    exact ⟨ret_bool (by simp [HN.out]), Tn.refl _ _⟩
end Go.Proofs.Ytlkbnjdhokjfnaa
namespace Go.Proofs.Ytlkbnjdhokjfnaa
set_option linter.unusedSimpArgs false
set_option linter.unusedVariables false
open Go.RowKit
attribute [local go_sem ↓] Go.wp_at_zero Go.wp_at_succ

/-- what happens to blocks of a set: those of F may turn, those of G are of F, or new -/
structure Up (F : Nat → Prop) (w : World) (G : Nat → Prop) (w' : World) : Prop where
  tn : Tn F w w'
  own : ∀ k, G k → F k ∨ w.heap.size ≤ k
theorem Up.refl (F : Nat → Prop) (w : World) : Up F w F w := ⟨Tn.refl _ _, fun _ h => .inl h⟩
theorem Up.trans {F G H : Nat → Prop} {w w1 w2 : World} (h : Up F w G w1) (k : Up G w1 H w2) : Up F w H w2 := by
  refine ⟨h.tn.trans k.tn (fun _ _ e => e) (fun i hi e => ?_), fun g hg => ?_⟩
  · rcases h.own i e with e | e
    · exact e
    · omega
  · rcases k.own g hg with e | e
    · exact h.own g e
    · exact .inr (Nat.le_trans h.tn.size e)
theorem Up.no {F : Nat → Prop} {w w1 : World} (t : Tn No w w1) : Up F w F w1 := ⟨t.any, fun _ h => .inl h⟩
theorem Up.of {w w' : World} {v v' : Value} (h : Ou w v w' v') : Up (fun k => v.ownBlock = some k) w (fun k => v'.ownBlock = some k) w' := ⟨h.tn, h.own⟩
/-- a set made greater -/
theorem Up.more {F G : Nat → Prop} {w w' : World} (h : Up F w G w') (E : Nat → Prop) : Up (fun k => F k ∨ E k) w (fun k => G k ∨ E k) w' :=
  ⟨h.tn.mono (fun _ _ e => .inl e), fun k e => by
    rcases e with e | e
    · rcases h.own k e with e | e
      · exact .inl (.inl e)
      · exact .inr e
    · exact .inl (.inr e)⟩
theorem Up.less {F G H : Nat → Prop} {w w' : World} (h : Up F w G w') (hh : ∀ k, H k → G k) : Up F w H w' := ⟨h.tn, fun k e => h.own k (hh k e)⟩
theorem Up.wide {F F' G : Nat → Prop} {w w' : World} (h : Up F w G w') (hh : ∀ k, F k → F' k) : Up F' w G w' := ⟨h.tn.mono (fun k _ e => hh k e), fun k e => (h.own k e).imp (hh k) id⟩
/-- what is all new -/
theorem Up.fresh {F G : Nat → Prop} {w w1 w2 : World} (t : Tn No w w1) (hF : ∀ k, F k → w.heap.size ≤ k) (h : Up F w1 G w2) : Tn No w w2 ∧ ∀ k, G k → w.heap.size ≤ k := by
  refine ⟨t.trans h.tn (fun _ _ e => e) (fun i hi e => ?_), fun g hg => ?_⟩
  · have := hF i e; omega
  · rcases h.own g hg with e | e
    · exact hF g e
    · exact Nat.le_trans t.size e
/-- what isn't among those that may turn stays, and isn't among them behind it -/
theorem LR.up {α : Type} {size : Nat} {en : α → List Value} {w w' : World} {v : Value} {l : List α} {F G : Nat → Prop} (h : LR size en w v l) (u : Up F w G w') (hn : ∀ g, v.ownBlock = some g → ¬ F g) : LR size en w' v l ∧ ∀ g, v.ownBlock = some g → ¬ G g := by
  refine ⟨h.tn u.tn hn, fun g hg e => ?_⟩
  rcases u.own g e with e | e
  · exact hn g hg e
  · have := h.rw.lt g hg; omega

def rawE (v : Value) : Option (DataW Value × List MemPlace) := some (.held v, [])
def updI {α : Type} (f : Int → α) (x : Int) (y : α) : Int → α := fun k => if k = x then y else f k

/-- a map from integers of one kind to integers -/
def IM (κ : IntKind) (tk : TypeId) (w : World) (b N : Nat) (f : Int → Option Nat) : Prop :=
  ∃ n D, n ≤ N ∧ w.ownsMap Try.prog tk rawE b n D ∧ ∀ x : Int, (Lit.int κ x).wf = true → Maps.has D (.int κ x) = (f x).isSome ∧ ∀ y, f x = some y → D.atKey (.int κ x) (.held (.int .i64 0)) = .held (.int .i64 (y : Int))

section
variable {κ : IntKind} {tk te tm : TypeId} {w w' : World} {b N : Nat} {f : Int → Option Nat}
theorem IM.kept (h : IM κ tk w b N f) (hk : w'.heap[b]? = w.heap[b]?) : IM κ tk w' b N f := by
  obtain ⟨n, D, hn, hown, hf⟩ := h
  obtain ⟨es, clock, h1, r⟩ := hown
  exact ⟨n, D, hn, ⟨es, clock, hk.trans h1, r⟩, hf⟩
theorem IM.lt (h : IM κ tk w b N f) : b < w.heap.size := by
  obtain ⟨n, D, hn, ⟨es, clock, h1, r⟩, hf⟩ := h
  exact (Array.getElem?_eq_some_iff.1 h1).1
theorem IM.look (h : IM κ tk w b N f) (hk : Try.prog.underlying tk = some (.int κ)) (ht : Try.prog.underlying tm = some (.map tk te)) (hz : (zeroValue te).run Try.prog w = .ok (.int .i64 0) w) (x : Int) (hx : (Lit.int κ x).wf = true) :
    (Instr.lookup tm (.map (some b)) (.int κ x) true).run Try.prog w = .ok (.tuple #[.int .i64 (((f x).getD 0 : Nat) : Int), .bool (f x).isSome]) w := by
  have law := Maps.int_keyed (P := Try.prog) hk
  have hkey := Maps.keyOf_int_mk (P := Try.prog) hk hx
  obtain ⟨n, D, hn, hown, hf⟩ := h
  obtain ⟨v, ps, hr, hv⟩ := hown.look_ok law ht hz (zd := .held (.int .i64 0)) (zp := []) rfl hkey
  simp only [rawE, Option.some.injEq, Prod.mk.injEq] at hv
  rw [hr, (hf x hx).1]
  cases e : f x with
  | none =>
    have hno : Maps.has D (.int κ x) = false := by rw [(hf x hx).1, e]; rfl
    have := Maps.atKey_of_not_has hno (.held (.int .i64 0))
    rw [this] at hv
    cases hv.1; rfl
  | some y =>
    have := (hf x hx).2 y e
    rw [this] at hv
    cases hv.1; rfl
theorem IM.store (h : IM κ tk w b N f) (hN : N < maxLen) (hk : Try.prog.underlying tk = some (.int κ)) (ht : Try.prog.underlying tm = some (.map tk te)) (x : Int) (hx : (Lit.int κ x).wf = true) (y : Nat) :
    ∃ w', (Instr.mapUpdate tm (.map (some b)) (.int κ x) (.int .i64 (y : Int))).run Try.prog w = .ok () w' ∧ IM κ tk w' b (N + 1) (updI f x (some y)) ∧ w.grownBy w' (some b) := by
  have law := Maps.int_keyed (P := Try.prog) hk
  have hkey := Maps.keyOf_int_mk (P := Try.prog) hk hx
  obtain ⟨n, D, hn, hown, hf⟩ := h
  obtain ⟨w', hr, hown', hg⟩ := hown.update law ht (Nat.lt_of_le_of_lt hn hN) (d := .held (.int .i64 (y : Int))) (ps := []) hkey rfl
  have hkl : WideAt.IsKeyLit (.int κ x) := law.key hkey
  refine ⟨w', hr, ⟨n + 1, _, by omega, hown', fun z hz => ?_⟩, hg⟩
  by_cases e : z = x
  · subst e
    simp only [updI, if_true]
    exact ⟨by rw [Maps.has_put_same hown.isMap hkl]; rfl, fun g' h' => by cases h'; exact Maps.atKey_put_same hown.isMap hkl _ _⟩
  · simp only [updI, if_neg e]
    have hne : Lit.int κ z ≠ .int κ x := fun h => e (by cases h; rfl)
    exact ⟨by rw [Maps.has_put_other hne]; exact (hf z hz).1, fun g' h' => by rw [Maps.atKey_put_other hne]; exact (hf z hz).2 g' h'⟩
theorem IM.made (κ : IntKind) (tk : TypeId) (w : World) : IM κ tk (w.alloc (.map #[] 0)) w.heap.size 0 (fun _ => none) :=
  ⟨0, .map [], Nat.le_refl _, World.ownsMap_made w Try.prog tk rawE, fun _ _ => ⟨rfl, fun _ h => by cases h⟩⟩
theorem IM.congr {g : Int → Option Nat} (h : IM κ tk w b N f) (e : ∀ k, f k = g k) : IM κ tk w b N g := by
  have : f = g := funext e
  subst this; exact h
end

theorem wpList_lookw (w : World) {tm : TypeId} {ops : Array Oper} {rest : List Oper} {o : Oper} {a : Act} {Q : Exit → Act → World → Prop} (hg : o.guard = none) (m x : Operand) (c : Bool) (hop : o.op = Op.lookup tm m x c)
    (mo : Option Nat) (hm : a.eval m = .map mo) (k : Value) (hx : a.eval x = k) (r : Value) (hrun : (Instr.lookup tm (.map mo) k c).run Try.prog w = .ok r w)
    (hK : wpList Try.prog ops Q rest (a.put o.dst r) w) : wpList Try.prog ops Q (o :: rest) a w := by
  refine wpList_plain hg fun K' hK' => ?_
  unfold Oper.wp
  simp [execOp, hop, hm, hx, hrun, Result.andThen]
  exact hK' _ _ hK
theorem wpList_putw (w : World) {tm : TypeId} {ops : Array Oper} {rest : List Oper} {o : Oper} {a : Act} {Q : Exit → Act → World → Prop} (hg : o.guard = none) (m x y : Operand) (hop : o.op = Op.mapUpdate tm m x y)
    (mo : Option Nat) (hm : a.eval m = .map mo) (k : Value) (hx : a.eval x = k) (v : Value) (hy : a.eval y = v) (w' : World) (hrun : (Instr.mapUpdate tm (.map mo) k v).run Try.prog w = .ok () w')
    (hK : wpList Try.prog ops Q rest (a.put o.dst undef) w') : wpList Try.prog ops Q (o :: rest) a w := by
  refine wpList_plain hg fun K' hK' => ?_
  unfold Oper.wp
  simp [execOp, hop, hm, hx, hy, hrun, Result.andThen]
  exact hK' _ _ hK

/-- where something stands in a row -/
def num (row : List Int) (x : Int) : Option Nat := if x ∈ row then some (Hp.pos row x) else none
/-- something is met -/
def meetI (row : List Int) (x : Int) : List Int := if x ∈ row then row else row ++ [x]
theorem num_push {row : List Int} {x : Int} (h : x ∉ row) : ∀ k, updI (num row) x (some row.length) k = num (row ++ [x]) k := by
  intro k
  unfold updI num
  by_cases e : k = x
  · subst e
    simp [Hp.pos_new h]
  · rw [if_neg e]
    by_cases hk : k ∈ row
    · rw [if_pos hk, if_pos (by simp [hk]), Hp.pos_append hk]
    · rw [if_neg hk, if_neg (by simp [hk, e])]
def eK (κ : IntKind) (x : Int) : List Value := [.int κ x]

/-- a row's blocks -/
def RO (p b : Nat) (mv : Value) (k : Nat) : Prop := k = p ∨ k = b ∨ mv.ownBlock = some k
/-- a row in memory -/
structure RA (κ : IntKind) (tk : TypeId) (w : World) (p b : Nat) (mv : Value) (row : List Int) : Prop where
  c0 : w.cell? ⟨p, 0, none⟩ = some mv
  c1 : w.cell? ⟨p, 1, none⟩ = some (.map (some b))
  lt : p < w.heap.size
  fz : ∀ i, w.frozen? ⟨p, i, none⟩ = false
  met : LR 1 (eK κ) w mv row
  map : IM κ tk w b row.length (num row)
  nd : row.Nodup
  wf : ∀ x ∈ row, (Lit.int κ x).wf = true
  pb : p ≠ b
  pm : mv.ownBlock ≠ some p
  bm : mv.ownBlock ≠ some b
theorem RA.kept {κ : IntKind} {tk : TypeId} {w w' : World} {p b : Nat} {mv : Value} {row : List Int} {F : Nat → Prop} (h : RA κ tk w p b mv row) (t : Tn F w w') (hn : ∀ k, RO p b mv k → ¬ F k) : RA κ tk w' p b mv row :=
  ⟨by rw [t.cell h.lt (hn _ (.inl rfl))]; exact h.c0, by rw [t.cell h.lt (hn _ (.inl rfl))]; exact h.c1, Nat.lt_of_lt_of_le h.lt t.size, fun i => by rw [t.frozen h.lt (hn _ (.inl rfl))]; exact h.fz i,
    h.met.tn t (fun g hg => hn g (.inr (.inr hg))), h.map.kept (t.block b h.map.lt (hn _ (.inr (.inl rfl)))), h.nd, h.wf, h.pb, h.pm, h.bm⟩
theorem RA.no {κ : IntKind} {tk : TypeId} {w w' : World} {p b : Nat} {mv : Value} {row : List Int} (h : RA κ tk w p b mv row) (t : Tn No w w') : RA κ tk w' p b mv row := h.kept t (fun _ _ e => e)
theorem RA.olt {κ : IntKind} {tk : TypeId} {w : World} {p b : Nat} {mv : Value} {row : List Int} (h : RA κ tk w p b mv row) : ∀ k, RO p b mv k → k < w.heap.size := by
  intro k hk
  rcases hk with rfl | rfl | hk
  · exact h.lt
  · exact h.map.lt
  · exact h.met.rw.lt k hk
/-- what is met when something is -/
theorem meetI_nodup {row : List Int} (h : row.Nodup) (x : Int) : (meetI row x).Nodup := Hp.meet1_nodup h (.thing x)
theorem meetI_has (row : List Int) (x : Int) : x ∈ meetI row x := by
  unfold meetI; split
  · assumption
  · simp
end Go.Proofs.Ytlkbnjdhokjfnaa
