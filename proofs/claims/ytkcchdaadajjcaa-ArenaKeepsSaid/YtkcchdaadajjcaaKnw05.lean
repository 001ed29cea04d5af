/- The document's example, and the statement of a nil arena. -/
import Derived.Test.YtkcchdaadajjcaaRch05
namespace Go.Proofs.Ytkcchdaadajjcaa
open Go.RowKit Go.Joins

theorem mk_k1 : mkS 2 [] (5, 0, 1) = ([some (5, 0, 1)], 2, 0) := by decide
theorem mk_k2 : mkS 2 [some (5, 0, 1)] (3, 2, 1) = ([some (5, 0, 1), some (3, 2, 1)], 3, 0) := by decide
theorem mk_k3 : mkS 2 [some (5, 0, 1), some (3, 2, 1)] (5, 0, 1) = ([some (5, 0, 1), some (3, 2, 1)], 2, 0) := by decide
theorem mk_k4 : mkS 2 [some (5, 0, 1), some (3, 2, 1)] (4, 0, 1) = ([some (5, 0, 1), some (3, 2, 1)], 0, 5) := by decide
theorem cnt_k : cnt [some ((5, 0, 1) : Nd), some (3, 2, 1)] = 2 := by decide
theorem rch_k (i : Nat) (h : i < 2) : Rch [some ((5, 0, 1) : Nd), some (3, 2, 1)] [3] i := by
  have h1 : Rch [some ((5, 0, 1) : Nd), some (3, 2, 1)] [3] 1 := .here (n := (3, 2, 1)) rfl (by simp)
  match i, h with
  | 0, _ => exact .lo h1 (n := (3, 2, 1)) (m := (5, 0, 1)) rfl rfl rfl
  | 1, _ => exact h1
theorem idsK_two {f : Nat → Bool} (h : ∀ i, i < 2 → f i = true) : idsK f 2 = [0, 1] := by
  unfold idsK
  simp [List.range_succ, h 0 (by omega), h 1 (by omega)]
theorem ArOk.nil (room : Nat) (h : room ≤ 20000) : ArOk room 0 [] := ⟨VSt.nil, Nat.zero_le _, h, Nat.le_refl _, fun j hj => by omega⟩
set_option maxHeartbeats 1000000 in
theorem knows5_any (w : World) : Calls Try.prog 7 #[] w fun e w' => e = .returned (.bool true) ∧ Below w.heap.size w w' := by
  have HN := new_yes 2 w (by omega)
  go_enter Try.func7, Try.ntmps7
  go_wp2_with fail
  refine HN.mono ?_
  rintro e w1 ⟨ab, bm, rfl, h1, hb1⟩
  have H := make_any h1 (ArOk.nil 2 (by omega)) 5 0 1
  unfold MakeDone at H
  rw [mk_k1] at H
  clear HN
  go_wp2_with fail
  refine H.mono ?_
  rintro e w2 ⟨rfl, v2, f2, h2, o2, off2⟩
  have hb2 := hb1.trans (h1.off_below off2)
  have H := make_any h2 o2 3 2 1
  unfold MakeDone at H
  rw [mk_k2] at H
  clear h1 off2 hb1
  go_wp2_with fail
  refine H.mono ?_
  rintro e w3 ⟨rfl, v3, f3, h3, o3, off3⟩
  have hb3 := hb2.trans (h2.off_below off3)
  have H := make_any h3 o3 5 0 1
  unfold MakeDone at H
  rw [mk_k3] at H
  clear h2 o2 off3 hb2
  go_wp2_with fail
  refine H.mono ?_
  rintro e w4 ⟨rfl, v4, f4, h4, o4, off4⟩
  have hb4 := hb3.trans (h3.off_below off4)
  have H := make_any h4 o4 4 0 1
  unfold MakeDone at H
  rw [mk_k4] at H
  clear h3 o3 off4 hb3
  go_wp2_with fail
  refine H.mono ?_
  rintro e w5 ⟨rfl, v5, f5, h5, o5, off5⟩
  have hb5 := hb4.trans (h4.off_below off5)
  have HL := len_any h5
  rw [cnt_k] at HL
  have HR := reach_any h5 o5 3
  clear h4 o4 off5 hb4 H
  go_wp2_with fail
  refine HL.mono ?_
  rintro e w6 ⟨rfl, rfl⟩
  clear HL
  go_wp2_with fail
  refine HR.mono ?_
  rintro e w6 ⟨v6, f, rfl, hf, ho6, hb6⟩
  have hids : idsK f 2 = [0, 1] := idsK_two (fun i hi => (hf i (by simpa using hi)).2 (rch_k i hi))
  have ho6' : w6.ownsRow w5.heap.size 3 1 v6 2 (idsV [0, 1]) := by
    have e : ([some ((5, 0, 1) : Nd), some (3, 2, 1)] : St).length = 2 := rfl
    rw [e, hids] at ho6
    exact ho6
  obtain ⟨A, c, rfl⟩ := own_form ho6'
  clear HR hf hids ho6 ho6' h5 o5
  go_wp2
  go_ret
  exact ⟨rfl, hb5.trans (hb6.mono hb5.size)⟩
theorem node_empty {w : World} {B ab bm : Nat} {v : Value} {room full : Nat} (h : ArAt w B ab bm v room full []) (id : Int) :
    Calls Try.prog 14 #[.pointer (some ⟨ab, 0, none⟩), .int .i64 id] w fun e w' => e = .returned (.tuple #[.int .i64 0, .int .i64 0, .int .i64 0, .bool false]) ∧ Below w.heap.size w w' := by
  have H := node_any h (by simp) id
  rw [show ndAt [] id = none by unfold ndAt; simp] at H
  exact H
set_option maxHeartbeats 1000000 in
theorem arenaNil_any (l lo hi id : Int) (w : World) : Calls Try.prog 5 #[.int .i64 l, .int .i64 lo, .int .i64 hi, .int .i64 id] w fun e w' => e = .returned (.bool true) ∧ Below w.heap.size w w' := by
  have HM := make_nil l lo hi w
  have HNn := fun w => node_nil id w
  have HS := fun v w => sweep_nil v w
  have HNew := fun w => new_yes 0 w (by omega)
  have HL := fun w => len_nil w
  have HRn := fun w => reach_nil id w
  go_enter Try.func5, Try.ntmps5
  go_wp2_with fail
  refine HM.mono ?_
  rintro e w1 ⟨rfl, hb1⟩
  clear HM
  go_wp2_with fail
  refine (HNn _).mono ?_
  rintro e w2 ⟨rfl, rfl⟩
  clear HNn
  go_wp2_with fail
  refine (HS _ _).mono ?_
  rintro e w2 ⟨rfl, rfl⟩
  clear HS
  have hb2 := hb1.alloc hb1.size (.cells #[.int .i64 id] 3 (0, 0))
  go_wp2_with fail
  refine (HNew _).mono ?_
  rintro e w3 ⟨ab, bm, rfl, h3, hb3⟩
  have hb3' := hb2.trans (hb3.mono hb2.size)
  have HN := fun id => node_empty h3 id
  clear HNew hb3
  go_wp2_with fail
  refine (HN _).mono ?_
  rintro e w4 ⟨rfl, hb4⟩
  have h4 := h3.below hb4
  have hb4' := hb3'.trans (hb4.mono hb3'.size)
  have HR := reach_any h4 (ArOk.nil 0 (by omega)) 1
  clear HN h3 hb4
  go_wp2_with fail
  refine (HL _).mono ?_
  rintro e w5 ⟨rfl, rfl⟩
  clear HL
  go_wp2_with fail
  refine (HRn _).mono ?_
  rintro e w5 ⟨rfl, rfl⟩
  clear HRn
  go_wp2_with fail
  refine HR.mono ?_
  rintro e w6 ⟨v6, f, rfl, hf, ho6, hb6⟩
  have ho6' : w6.ownsRow w4.heap.size 3 1 v6 0 [] := ho6
  obtain ⟨A, c, rfl⟩ := own_form ho6'
  have hb6' := hb4'.trans (hb6.mono hb4'.size)
  have HK := knows5_any w6
  clear HR hf ho6 ho6' h4
  go_wp2_with fail
  refine HK.mono ?_
  rintro e w7 ⟨rfl, hb7⟩
  clear HK
  go_wp2
  go_ret
  exact ⟨rfl, hb6'.trans (hb7.mono hb6'.size)⟩
end Go.Proofs.Ytkcchdaadajjcaa
