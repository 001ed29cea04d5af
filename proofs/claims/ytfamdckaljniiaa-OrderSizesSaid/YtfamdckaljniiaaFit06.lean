/- Of: a set that fits is told as an id; one that doesn't is refused. -/
import Derived.Test.YtfamdckaljniiaaOf06
namespace Go.Proofs.Ytfamdckaljniiaa
open Go.RowKit Go.Joins

theorem fits_any {w : World} {B bb ab bm : Nat} {ov v : Value} {room full : Nat} {S : St} {o : List Nat} (h : BdAt w B bb ab bm ov v room full S o) (X : BitVec 256) :
    Calls Try.prog 31 #[.pointer (some ⟨bb, 0, none⟩), sv X] w fun e w' => e = .returned (.bool (decide (X &&& ~~~(allB o.length) = 0))) ∧ Below w.heap.size w w' := by
  have HA := fun w => all_any o.length h.eight w
  have HW := fun w => within_any X (allB o.length) w
  have hB := below_alloc1 w (.cells (sa X) 42)
  have hbx := heap_alloc_new w (.cells (sa X) 42)
  have hd := h.below hB
  obtain ⟨A, c, rfl⟩ := own_form h.row
  obtain ⟨c0, c1, -⟩ := now2 hd.head rfl
  unfold sa at hbx
  unfold sv wv at *
  unfold sa wv at hB hd c0 c1
  go_enter Try.func31, Try.ntmps31
  go_wp2_with fail
  refine (HA _).mono ?_
  rintro e w1 ⟨rfl, hb1⟩
  have hB1 := hB.trans (hb1.mono hB.size)
  have hbx1 := keep_blk hb1 hbx
  clear HA c0 c1 hB hb1 hbx
  have hB2 := hB1.alloc hB1.size (.cells #[.int .u64 (wd (allB o.length) 0).toNat, .int .u64 (wd (allB o.length) 1).toNat, .int .u64 (wd (allB o.length) 2).toNat, .int .u64 (wd (allB o.length) 3).toNat] 42)
  have hbx2 := keep_alloc (x := .cells #[.int .u64 (wd (allB o.length) 0).toNat, .int .u64 (wd (allB o.length) 1).toNat, .int .u64 (wd (allB o.length) 2).toNat, .int .u64 (wd (allB o.length) 3).toNat] 42) hbx1
  obtain ⟨s0, s1, s2, s3, -⟩ := now4 hbx2 rfl
  go_wp2_with fail
  refine (HW _).mono ?_
  rintro e w2 ⟨rfl, hb2⟩
  clear HW s0 s1 s2 s3
  go_wp2
  go_ret
  exact ⟨rfl, hB2.trans (hb2.mono hB2.size)⟩
theorem bof_no {w : World} {B bb ab bm : Nat} {ov v : Value} {room full : Nat} {S : St} {o : List Nat} (h : BdAt w B bb ab bm ov v room full S o) (X : BitVec 256) (hX : ¬ (X &&& ~~~(allB o.length) = 0)) :
    Calls Try.prog 20 #[.pointer (some ⟨bb, 0, none⟩), sv X] w fun e w' => e = .returned (.tuple #[.int .i64 0, .int .i64 1]) ∧ Below w.heap.size w w' := by
  have hB := below_alloc1 w (.cells (sa X) 42)
  have hbx := heap_alloc_new w (.cells (sa X) 42)
  have hd := h.below hB
  have HF := fits_any hd X
  rw [decide_eq_false hX] at HF
  obtain ⟨s0, s1, s2, s3, -⟩ := now4 hbx rfl
  unfold sv wv at *
  unfold sa wv at hB HF s0 s1 s2 s3
  go_enter Try.func20, Try.ntmps20
  go_wp2_with fail
  refine HF.mono ?_
  rintro e w1 ⟨rfl, hb1⟩
  clear HF s0 s1 s2 s3
  go_wp2
  go_ret2
  exact ⟨rfl, hB.trans (hb1.mono hB.size)⟩
theorem bof_yes {w : World} {B bb ab bm : Nat} {ov v : Value} {room full : Nat} {S : St} {o : List Nat} (h : BdAt w B bb ab bm ov v room full S o) (X : BitVec 256) (hX : X &&& ~~~(allB o.length) = 0) :
    Calls Try.prog 20 #[.pointer (some ⟨bb, 0, none⟩), sv X] w
      (Made (· = bm) w B bb ab bm ov room o fun _ T id er => OutOf True o.length o.length 0 room S (setF o X) (setF o X) T id er) := by
  have hB := below_alloc1 w (.cells (sa X) 42)
  have hbx := heap_alloc_new w (.cells (sa X) 42)
  have hd := h.below hB
  have HF := fits_any hd X
  have hlow : B ≤ w.heap.size := by have := h.ar.lt; omega
  rw [decide_eq_true hX] at HF
  have hz : Hid (∀ e w1 w', Made (· = bm) w1 B bb ab bm ov room o (fun _ T id er => OutOf True o.length o.length ((0 : Nat) : Int) room S (setF o X) (setFk o X 0 fun _ => false) T id er) e w' → Made (· = bm) w1 B bb ab bm ov room o (fun _ T id er => OutOf True o.length o.length 0 room S (setF o X) (setF o X) T id er) e w') := Lib.hid fun e w1 w' hm => hm.mono fun T id er ho => ⟨ho.1.wide (Nat.le_refl _) (Int.le_refl _) (fun c => setFk_zero o X _ c), ho.2⟩
  obtain ⟨s0, s1, s2, s3, -⟩ := now4 hbx rfl
  unfold sv wv at *
  unfold sa wv at hB HF s0 s1 s2 s3 hbx hd
  go_enter Try.func20, Try.ntmps20
  go_wp2_with fail
  refine HF.mono ?_
  rintro e w1 ⟨rfl, hb1⟩
  have hd1 := hd.below hb1
  have HO := ofAll_any o.length X hd1 0 (by omega) (fun _ => false)
  rw [ptK_zero] at HO
  have hbx1 := keep_blk hb1 hbx
  have hB1 := hB.trans (hb1.mono hB.size)
  clear HF s0 s1 s2 s3 hbx
  obtain ⟨s0, s1, s2, s3, -⟩ := now4 hbx1 rfl
  unfold sv wv at HO
  go_wp2_with fail
  refine HO.mono ?_
  intro e w2 hm
  obtain ⟨v2, full2, T, id, er, rfl, hd2, hb2, hk2, hO2⟩ := hz.out e w1 w2 hm
  clear HO s0 s1 s2 s3 hm hz
  go_wp2
  go_ret2
  exact ⟨v2, full2, T, id, er, rfl, hd2, (hB1.mono hlow).trans hb2, (Kep.of_below hB1).trans hk2, hO2⟩
end Go.Proofs.Ytfamdckaljniiaa
