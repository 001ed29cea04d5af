/- Some: with an input inverted or not. -/
import Derived.Test.YtfamdckaljniiaaIte06b
namespace Go.Proofs.Ytfamdckaljniiaa
open Go.RowKit Go.Joins

/-- What Some says: the bit of level L either way. -/
def someF (S : St) (L : Nat) (f : Int) (c : Nat → Bool) : Bool := says S (setB c L false) f || says S (setB c L true) f
theorem someF_ext {S T : St} (hV : VSt S) (hx : Ext S T) {L : Nat} {f : Int} (f0 : 0 ≤ lvl S f) (c : Nat → Bool) : someF T L f c = someF S L f c := by
  unfold someF
  rw [hx.says hV _ f0, hx.says hV _ f0]
theorem someF_off {S : St} (hV : VSt S) {L : Nat} {f : Int} (h : (L : Int) < lvl S f) (c : Nat → Bool) : says S c f = someF S L f c := by
  unfold someF
  rw [says_above hV c (by omega) h, says_above hV c (by omega) h, Bool.or_self]
theorem someF_at {S : St} (hV : VSt S) {L : Nat} {f : Int} (h : (L : Int) ≤ lvl S f) (hL : L < 24) (c : Nat → Bool) : iteF S (halfI S f L false) 1 (halfI S f L true) c = someF S L f c := by
  unfold iteF someF
  rw [half_off hV c h hL, half_off hV c h hL, says_one]
  cases says S c (halfI S f L false) <;> rfl
theorem someF_half {S : St} (hV : VSt S) {L l : Nat} {f : Int} (hne : l ≠ L) (c : Nat → Bool) : someF S L f c = if c l then someF S L (halfI S f l true) c else someF S L (halfI S f l false) c := by
  have h0 := half_says hV (setB c L false) (id := f) (l := l)
  have h1 := half_says hV (setB c L true) (id := f) (l := l)
  rw [setB_off hne] at h0 h1
  unfold someF
  cases hb : c l
  · rw [hb] at h0 h1
    rw [h0, h1]; rfl
  · rw [hb] at h0 h1
    rw [h0, h1]; rfl
end Go.Proofs.Ytfamdckaljniiaa
