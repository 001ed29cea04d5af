/- Both halves, and the node above them: join, for every closure that keeps its word. -/
import Derived.Test.YtfamdckaljniiaaNew06
namespace Go.Proofs.Ytfamdckaljniiaa
open Go.RowKit Go.Joins

/-- What is left behind a call that makes nodes. -/
def Made (M : Nat → Prop) (w : World) (B bb ab bm : Nat) (ov : Value) (room : Nat) (o : List Nat) (P : World → St → Int → Int → Prop) (e : Ending) (w' : World) : Prop :=
  ∃ (v' : Value) (full' : Nat) (T : St) (id er : Int), e = .returned (.tuple #[.int .i64 id, .int .i64 er]) ∧ BdAt w' B bb ab bm ov v' room full' T o ∧ Below B w w' ∧ Kep M w w' ∧ P w' T id er
theorem Made.mono {M : Nat → Prop} {w : World} {B bb ab bm : Nat} {ov : Value} {room : Nat} {o : List Nat} {P P' : World → St → Int → Int → Prop} {e : Ending} {w' : World} (h : Made M w B bb ab bm ov room o P e w') (hP : ∀ T id er, P w' T id er → P' w' T id er) : Made M w B bb ab bm ov room o P' e w' := by
  obtain ⟨v', f, T, id, er, h1, h2, h3, h4, h5⟩ := h
  exact ⟨v', f, T, id, er, h1, h2, h3, h4, hP _ _ _ h5⟩
set_option maxHeartbeats 1000000 in
theorem bjoin_any {q : Prop} {G F F0 F1 : (Nat → Bool) → Bool} {M : Nat → Prop} {w : World} {B bb ab bm : Nat} {ov v : Value} {room full : Nat} {S : St} {o : List Nat} (R1 R2 R : World → St → Prop) (fk : Nat) (caps : Array Value)
    (hcf : ∀ (args : Array Value) (w1 : World), (Sem.run Try.prog (callFunc fk args) w1) = .ok (.enter fk args) w1)
    (h : BdAt w B bb ab bm ov v room full S o) (hM : M bm) (l k : Nat) (hl : l < o.length)
    (hF : ∀ c, F c = if c l then F1 c else F0 c) (hG : q → ∃ a, a < 2 ^ l ∧ ∀ u, F (joinB l 0 u) = G (joinB l a u))
    (hlow : Calls Try.prog fk (#[.bool false] ++ caps) w (Made M w B bb ab bm ov room o fun w' T id er => OutOf q o.length k ((l : Int) + 1) room S G F0 T id er ∧ R1 w' T))
    (hhigh : ∀ w1 v1 full1 T a, BdAt w1 B bb ab bm ov v1 room full1 T o → Below B w w1 → Kep M w w1 → OutOf q o.length k ((l : Int) + 1) room S G F0 T a 0 → R1 w1 T →
      Calls Try.prog fk (#[.bool true] ++ caps) w1 (Made M w1 B bb ab bm ov room o fun w' U id er => OutOf q o.length k ((l : Int) + 1) room T G F1 U id er ∧ R2 w' U))
    (hR1 : ∀ w' T, R1 w' T → R w' T) (hR2 : ∀ w' U, R2 w' U → R w' U)
    (hR3 : ∀ w1 w2 U V, R2 w1 U → Kep (· = bm) w1 w2 → Ext U V → RSt V → R w2 V) :
    Calls Try.prog 47 #[.pointer (some ⟨bb, 0, none⟩), .int .i64 l, .func (.func fk) #[] caps] w
      (Made M w B bb ab bm ov room o fun w' T id er => OutOf q o.length (k + 1) l room S G F T id er ∧ R w' T) := by
  go_enter Try.func47, Try.ntmps47
  go_wp2_with fail
  refine hlow.mono ?_
  rintro e w1 ⟨v1, full1, T, a, e1, rfl, hd1, hb1, hk1, hO1, hr1⟩
  clear hlow
  rcases hO1.1.kind with rfl | ⟨rfl, rfl⟩
  · have HH := hhigh w1 v1 full1 T a hd1 hb1 hk1 hO1 hr1
    clear hhigh hr1
    go_wp2_with fail
    refine HH.mono ?_
    rintro e w2 ⟨v2, full2, U, b, e2, rfl, hd2, hb2, hk2, hO2, hr2⟩
    clear HH
    rcases hO2.1.kind with rfl | ⟨rfl, rfl⟩
    · have hOO := Lib.hid hO1
      have hOP := Lib.hid hO2
      by_cases hab : a = b
      · subst hab
        clear hO1 hO2
        go_wp2
        go_ret2
        exact ⟨v2, full2, U, a, 0, rfl, hd2, hb1.trans hb2, hk1.trans hk2, hOO.out.same hOP.out hF, hR2 _ _ hr2⟩
      · have HM := make_any hd2.ar hd2.ok l a b
        have habb : (a == b) = false := by simpa using hab
        have habH := Lib.hid hab
        have h24 := h.eight
        have hOM := Lib.hid (hO1.make hO2 hl (by omega) hab hF hG)
        obtain ⟨c0, c1, cf⟩ := now2 hd2.head rfl
        unfold MakeDone at HM
        clear hO1 hO2 hab
        go_wp2_with fail
        refine HM.mono ?_
        rintro e w3 ⟨rfl, v3, full3, hA3, hok3, hoff3⟩
        have hk3 := Kep.of_off hd2.ar hoff3
        have hb3 := hd2.ar.off_below hoff3
        have hd3 := hd2.kep hk3 hA3 hok3 hOM.out.1.rst hOM.out.1.lst
        have hr3 := hR3 _ _ _ _ hr2 hk3 (Ext.mk room U ((l : Int), a, b)) hOM.out.1.rst
        clear HM c0 c1 cf
        go_wp2
        go_ret2
        exact ⟨v3, full3, _, _, _, rfl, hd3, hb1.trans (hb2.trans hb3), hk1.trans (hk2.trans (hk3.mono fun k hk => by rw [hk]; exact hM)), hOM.out, hr3⟩
    · have hOO := Lib.hid (hO1.fail1 (l := (l : Int)) (F := F) hO2 (by decide))
      clear hO1 hO2
      go_wp2
      go_ret2
      exact ⟨v2, full2, U, 0, 5, rfl, hd2, hb1.trans hb2, hk1.trans hk2, hOO.out, hR2 _ _ hr2⟩
  · have hOO := Lib.hid (hO1.fail0 (l := (l : Int)) (F := F) (by decide))
    clear hO1 hhigh
    go_wp2
    go_ret2
    exact ⟨v1, full1, T, 0, 5, rfl, hd1, hb1, hk1, hOO.out, hR1 _ _ hr1⟩
end Go.Proofs.Ytfamdckaljniiaa
