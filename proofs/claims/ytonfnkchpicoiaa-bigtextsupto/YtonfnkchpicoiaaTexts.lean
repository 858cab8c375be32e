/-
  The walk of the law BigTexts: it answers true.
-/
import Derived.Test.YtonfnkchpicoiaaAwake
import Derived.Test.YtonfnkchpicoiaaParseAll
import Derived.Test.YtonfnkchpicoiaaRefText
namespace Go.Proofs.Ytonfnkchpicoiaa
set_option linter.unusedSimpArgs false
set_option linter.unusedVariables false
open Go.RowKit
attribute [local go_sem ↓] Go.wp_at_zero Go.wp_at_succ

/-- what a Parse answers: a number as it should stand, and a word -/
def PR (w : World) (z err : Int) (e : Ending) (w' : World) : Prop :=
  ∃ s a l, e = .returned (.tuple #[.agg #[.bool s, .slice a l.length l.length], .int .i64 err]) ∧ SL w' a l.length l.length l ∧ Nrm l ∧ (s = true → l ≠ []) ∧ iv s l = z ∧ w.grownBy w' none
theorem PR.yes {w : World} {z : Int} {k : Nat} {e : Ending} {w' : World} (h : ParseYes w z k e w') : PR w z 0 e w' := by
  obtain ⟨s, a, l, h1, h2, h3, h4, h5, h6, h7⟩ := h
  exact ⟨s, a, l, h1, h2.sl, h3, h4, h5, h7⟩
theorem PR.no {w : World} {e : Ending} {w' : World} (h : ParseNo w e w') : PR w 0 11 e w' :=
  ⟨false, none, [], h.1, SL.nil' _, .inl rfl, (by simp), rfl, h.2⟩
theorem parse_pair (s : ByteArray) (hs : s.size ≤ 100000000) : ∃ z err : Int, (∀ w, Calls Try.prog 35 #[.string s] w (PR w z err)) ∧ ∀ w, Calls Try.prog 36 #[.string s] w (PR w z err) := by
  rcases parse_both s hs with ⟨h1, h2⟩ | ⟨z, h1, h2⟩
  · exact ⟨0, 11, fun w => (h1 w).mono fun _ _ h => PR.no h, fun w => (h2 w).mono fun _ _ h => PR.no h⟩
  · exact ⟨z, 0, fun w => (h1 w).mono fun _ _ h => PR.yes h, fun w => (h2 w).mono fun _ _ h => PR.yes h⟩

set_option maxHeartbeats 12800000 in
set_option maxRecDepth 100000 in
theorem texts_walk (st : ByteArray) (s1 : Bool) (a1 : Option Addr) (n1 c1 : Nat) (x1 : List Nat) (w : World) (SA : SL w a1 n1 c1 x1) (h1 : n1 ≤ 1048576) (h2 : st.size ≤ 1048576) :
    Calls Try.prog 6 #[.string st, .agg #[.bool s1, .slice a1 n1 c1]] w fun e w' => e = .returned (.bool true) ∧ w.grownBy w' none := by
  obtain ⟨z, err, hB, hR⟩ := parse_pair st (by omega)
  have HB := hid hB
  have HR := hid hR
  clear hB hR
  go_enter Try.func6, Try.ntmps6
  go_wp2_with fail
  refine (awake_raw _).mono ?_
  rintro e w1 ⟨rfl, hg1⟩
  obtain ⟨kA1, mA1, jA1⟩ := box_kept w.heap.size hg1 (by first | (simp; done) | (simp; omega) | omega)
  go_wp2_with fail
  refine (HB.out _).mono ?_
  rintro e wN ⟨sN, aN, lN, rfl, hoN, hnN, hsN, hiN, hgN⟩
  have HIN := hid hiN
  clear hiN
  obtain ⟨kAN, mAN, jAN⟩ := box_kept w.heap.size hgN (by first | (simp; done) | (simp; omega) | omega)
  go_wp2_with fail
  refine (HR.out _).mono ?_
  rintro e wW ⟨sW, aW, lW, rfl, hoW, hnW, hsW, hiW, hgW⟩
  have HIW := hid hiW
  clear hiW
  obtain ⟨kAW, mAW, jAW⟩ := box_kept w.heap.size hgW (by first | (simp; done) | (simp; omega) | omega)
  go_wp2_with fail
  refine (text_raw s1 a1 n1 c1 x1 _ (by exact SA.grown (by repeat (first | exact gb_refl _ _ | apply gb_drew | apply gb_alloc | (refine gb_then ?_ (by assumption) (by simp))))) (by omega)).mono ?_
  rintro e wT ⟨t, rfl, htT, hkT, hgT⟩
  obtain ⟨kAT, mAT, jAT⟩ := box_kept w.heap.size hgT (by first | (simp; done) | (simp; omega) | omega)
  go_wp2_with fail
  refine (parse_text (iv s1 x1) t _ htT (by omega)).mono ?_
  rintro e wK ⟨sK, aK, lK, rfl, hoK, hnK, hsK, hiK, hkK, hgK⟩
  have HIK := hid hiK
  clear hiK
  obtain ⟨kAK, mAK, jAK⟩ := box_kept w.heap.size hgK (by first | (simp; done) | (simp; omega) | omega)
  go_wp2_with fail
  have XA : Bx (wK.alloc (.cells #[.bool sK, .slice aK lK.length lK.length] 24)) w.heap.size (.bool s1) (.slice a1 n1 c1) := (Bx.new w _ _ _ 24 rfl).kept (by repeat (first | exact gb_refl _ _ | apply gb_drew | apply gb_alloc | (refine gb_then ?_ (by assumption) (by simp)))) (by simp)
  have XN : Bx (wK.alloc (.cells #[.bool sK, .slice aK lK.length lK.length] 24)) wN.heap.size (.bool sN) (.slice aN lN.length lN.length) := (Bx.new wN _ _ _ 24 rfl).kept (by repeat (first | exact gb_refl _ _ | apply gb_drew | apply gb_alloc | (refine gb_then ?_ (by assumption) (by simp)))) (by simp)
  have XW : Bx (wK.alloc (.cells #[.bool sK, .slice aK lK.length lK.length] 24)) wW.heap.size (.bool sW) (.slice aW lW.length lW.length) := (Bx.new wW _ _ _ 24 rfl).kept (by repeat (first | exact gb_refl _ _ | apply gb_drew | apply gb_alloc | (refine gb_then ?_ (by assumption) (by simp)))) (by simp)
  have XK : Bx (wK.alloc (.cells #[.bool sK, .slice aK lK.length lK.length] 24)) wK.heap.size (.bool sK) (.slice aK lK.length lK.length) := Bx.new wK _ _ _ 24 rfl
  have SN : SL (wK.alloc (.cells #[.bool sK, .slice aK lK.length lK.length] 24)) aN lN.length lN.length lN := hoN.grown (by repeat (first | exact gb_refl _ _ | apply gb_drew | apply gb_alloc | (refine gb_then ?_ (by assumption) (by simp))))
  have SW : SL (wK.alloc (.cells #[.bool sK, .slice aK lK.length lK.length] 24)) aW lW.length lW.length lW := hoW.grown (by repeat (first | exact gb_refl _ _ | apply gb_drew | apply gb_alloc | (refine gb_then ?_ (by assumption) (by simp))))
  have SK : SL (wK.alloc (.cells #[.bool sK, .slice aK lK.length lK.length] 24)) aK lK.length lK.length lK := hoK.sl.grown (by repeat (first | exact gb_refl _ _ | apply gb_drew | apply gb_alloc | (refine gb_then ?_ (by assumption) (by simp))))
  replace SA : SL (wK.alloc (.cells #[.bool sK, .slice aK lK.length lK.length] 24)) a1 n1 c1 x1 := SA.grown (by repeat (first | exact gb_refl _ _ | apply gb_drew | apply gb_alloc | (refine gb_then ?_ (by assumption) (by simp))))
  have G : w.grownBy (wK.alloc (.cells #[.bool sK, .slice aK lK.length lK.length] 24)) none := (by repeat (first | exact gb_refl _ _ | apply gb_drew | apply gb_alloc | (refine gb_then ?_ (by assumption) (by simp))))
  have qA0 := XA.c0
  have qA1 := XA.c1
  have qA2 := XA.lt
  have qN0 := XN.c0
  have qN1 := XN.c1
  have qN2 := XN.lt
  have qW0 := XW.c0
  have qW1 := XW.c1
  have qW2 := XW.lt
  have qK0 := XK.c0
  have qK1 := XK.c1
  have qK2 := XK.lt
  clear hg1 kA1 mA1 jA1 hgN kAN mAN jAN hgW kAW mAW jAW hgT kAT mAT jAT hgK kAK mAK jAK hoN hoW hoK
  generalize wK.alloc (.cells #[.bool sK, .slice aK lK.length lK.length] 24) = wF at *
  go_wp2
  go_region_held3 (fun w' => w'.cell? ⟨w.heap.size, 0, none⟩ = some (.bool s1) ∧ w'.cell? ⟨w.heap.size, 1, none⟩ = some (.slice a1 n1 c1) ∧ w'.cell? ⟨wN.heap.size, 0, none⟩ = some (.bool sN) ∧ w'.cell? ⟨wN.heap.size, 1, none⟩ = some (.slice aN lN.length lN.length) ∧ w'.cell? ⟨wW.heap.size, 0, none⟩ = some (.bool sW) ∧ w'.cell? ⟨wW.heap.size, 1, none⟩ = some (.slice aW lW.length lW.length) ∧ w'.cell? ⟨wK.heap.size, 0, none⟩ = some (.bool sK) ∧ w'.cell? ⟨wK.heap.size, 1, none⟩ = some (.slice aK lK.length lK.length)) (go_keep) (first
    | (go_at_call_of 15 (Value.agg #[Value.bool sK, Value.slice aK lK.length lK.length]); have hgd := hg22; clear hgd; refine (is_true sK s22 aK a22 _ _ _ _ lK l22 _ (by exact SK.grown (by repeat (first | exact gb_refl _ _ | apply gb_drew | apply gb_alloc | (refine gb_then ?_ (by assumption) (by simp))))) (by exact ho22.sl.grown (by repeat (first | exact gb_refl _ _ | apply gb_drew | apply gb_alloc | (refine gb_then ?_ (by assumption) (by simp))))) (std_of hnK hsK) (by rw [HIK.out, HI22.out])).mono ?_; rintro e w23 ⟨rfl, hg23⟩; obtain ⟨kA23, mA23, jA23⟩ := box_kept w.heap.size hg23 (by first | (simp; done) | (simp; omega) | omega); obtain ⟨kN23, mN23, jN23⟩ := box_kept wN.heap.size hg23 (by first | (simp; done) | (simp; omega) | omega); obtain ⟨kW23, mW23, jW23⟩ := box_kept wW.heap.size hg23 (by first | (simp; done) | (simp; omega) | omega); obtain ⟨kK23, mK23, jK23⟩ := box_kept wK.heap.size hg23 (by first | (simp; done) | (simp; omega) | omega))
    | (go_at_call_of 15 (Value.agg #[Value.bool sN, Value.slice aN lN.length lN.length]); refine (is_true sN sW aN aW _ _ _ _ lN lW _ (by exact SN.grown (by repeat (first | exact gb_refl _ _ | apply gb_drew | apply gb_alloc | (refine gb_then ?_ (by assumption) (by simp))))) (by exact SW.grown (by repeat (first | exact gb_refl _ _ | apply gb_drew | apply gb_alloc | (refine gb_then ?_ (by assumption) (by simp))))) (std_of hnN hsN) (by rw [HIN.out, HIW.out])).mono ?_; rintro e w20 ⟨rfl, hg20⟩; obtain ⟨kA20, mA20, jA20⟩ := box_kept w.heap.size hg20 (by first | (simp; done) | (simp; omega) | omega); obtain ⟨kN20, mN20, jN20⟩ := box_kept wN.heap.size hg20 (by first | (simp; done) | (simp; omega) | omega); obtain ⟨kW20, mW20, jW20⟩ := box_kept wW.heap.size hg20 (by first | (simp; done) | (simp; omega) | omega); obtain ⟨kK20, mK20, jK20⟩ := box_kept wK.heap.size hg20 (by first | (simp; done) | (simp; omega) | omega))
    | (go_at_call 38; refine (rtext_raw s1 a1 n1 c1 x1 _ (by exact SA.grown (by repeat (first | exact gb_refl _ _ | apply gb_drew | apply gb_alloc | (refine gb_then ?_ (by assumption) (by simp))))) (by omega)).mono ?_; rintro e w21 ⟨t2, rfl, ht2, hk21, hg21⟩; obtain rfl : t = t2 := (by rw [← Lib.mk_data t, ← Lib.mk_data t2, text_unique htT ht2]); obtain ⟨kA21, mA21, jA21⟩ := box_kept w.heap.size hg21 (by first | (simp; done) | (simp; omega) | omega); obtain ⟨kN21, mN21, jN21⟩ := box_kept wN.heap.size hg21 (by first | (simp; done) | (simp; omega) | omega); obtain ⟨kW21, mW21, jW21⟩ := box_kept wW.heap.size hg21 (by first | (simp; done) | (simp; omega) | omega); obtain ⟨kK21, mK21, jK21⟩ := box_kept wK.heap.size hg21 (by first | (simp; done) | (simp; omega) | omega))
    | (go_at_call 17; refine (rnorm_raw s1 a1 n1 c1 x1 _ (by exact SA.grown (by repeat (first | exact gb_refl _ _ | apply gb_drew | apply gb_alloc | (refine gb_then ?_ (by assumption) (by simp)))))).mono ?_; rintro e w22 ⟨s22, a22, l22, rfl, ho22, hn22, hs22, hi22, hk22, hg22⟩; have HI22 := hid hi22; clear hi22; obtain ⟨kA22, mA22, jA22⟩ := box_kept w.heap.size hg22 (by first | (simp; done) | (simp; omega) | omega); obtain ⟨kN22, mN22, jN22⟩ := box_kept wN.heap.size hg22 (by first | (simp; done) | (simp; omega) | omega); obtain ⟨kW22, mW22, jW22⟩ := box_kept wW.heap.size hg22 (by first | (simp; done) | (simp; omega) | omega); obtain ⟨kK22, mK22, jK22⟩ := box_kept wK.heap.size hg22 (by first | (simp; done) | (simp; omega) | omega)))
  all_goals go_wp2
  all_goals go_ret
  all_goals exact ⟨by first | rfl | simp, (by repeat (first | exact gb_refl _ _ | apply gb_drew | apply gb_alloc | (refine gb_then ?_ (by assumption) (by simp))))⟩
end Go.Proofs.Ytonfnkchpicoiaa
