/-
  heap: thingIn, whole.
-/
import Derived.Test.YtlkbnjdhokjfnaaHThingA8
import Derived.Test.YtlkbnjdhokjfnaaHThingB
import Derived.Test.YtlkbnjdhokjfnaaHThingB8
import Derived.Test.YtlkbnjdhokjfnaaHThingC
import Derived.Test.YtlkbnjdhokjfnaaHThingC8
namespace Go.Proofs.Ytlkbnjdhokjfnaa
set_option linter.unusedSimpArgs false
set_option linter.unusedVariables false
open Go.RowKit

theorem thingIn_raw (v : Value) (l : List UInt8) (w : World) (h : LD 1 eB w v l) (hl : l.length ≤ 1073741824) : Calls Try.prog 71 #[v] w (ThingPost v l w) := by
  by_cases hs : l.length < 8
  · exact thingIn_short v l w h hs
  · have h8 : 8 ≤ l.length := by omega
    obtain ⟨a, c, rfl, hcl, hcm⟩ := h.form
    obtain ⟨b, hb⟩ : ∃ b, cutB (l.drop 8) (cutLen (hdr l / 16777216) (Hp.isRow ((hdr l / 2 % 16 : Nat) : Int))) = b := ⟨_, rfl⟩
    obtain ⟨r, hr⟩ : ∃ r, Hp.isRow ((hdr l / 2 % 16 : Nat) : Int) = r := ⟨_, rfl⟩
    obtain ⟨f, hf⟩ : ∃ f, fnB (insOf l) = f := ⟨_, rfl⟩
    by_cases hc : c = 8
    · have hl8 : l.length = 8 := by omega
      subst hc
      rw [hl8] at h ⊢
      cases b
      · exact thingIn_no8 a l w h hl8 hb
      · cases r
        · by_cases h3 : ((hdr l / 2 % 16 : Nat) : Int) = 8
          · cases f
            · exact thingIn_nofn8 a l w h hl8 hb hr h3 hf
            · exact thingIn_clo8 a l w h hl8 hb hr h3 hf
          · exact thingIn_vals8 a l w h hl8 hb hr h3
        · exact thingIn_row8 a l w h hl8 hb hr
    · cases b
      · exact thingIn_no a c l w h hcl hcm hl h8 hc hb
      · cases r
        · by_cases h3 : ((hdr l / 2 % 16 : Nat) : Int) = 8
          · cases f
            · exact thingIn_nofn a c l w h hcl hcm hl h8 hc hb hr h3 hf
            · exact thingIn_clo a c l w h hcl hcm hl h8 hc hb hr h3 hf
          · exact thingIn_vals a c l w h hcl hcm hl h8 hc hb hr h3
        · exact thingIn_row a c l w h hcl hcm hl h8 hc hb hr
end Go.Proofs.Ytlkbnjdhokjfnaa
