/- OrderSifts and OrderShrinks. -/
import Derived.Test.YtfamdckaljniiaaLaw07
namespace Go.Proofs.Ytfamdckaljniiaa
open Go.RowKit Go.Joins

theorem mayO_parts {Ss : List (BitVec 256)} {zs : List Int} (h : mayO Ss zs = true) : ∃ o, zs = ofN o ∧ OrdOk o ∧ o.length ≤ 8 ∧ Ss.length ≤ 4 ∧ fitS Ss o.length = true := by
  unfold mayO at h
  simp only [Bool.and_eq_true, decide_eq_true_eq] at h
  obtain ⟨h4, ho, hf⟩ := h
  obtain ⟨o, rfl, hoo, h8⟩ := ordI_nat ho
  rw [ofN_len] at hf
  exact ⟨o, rfl, hoo, h8, h4, hf⟩
set_option maxHeartbeats 2000000 in
set_option maxRecDepth 100000 in
theorem sifts7_great (w : World) (V v : Value) (r : Int) (Ss : List (BitVec 256)) (zs : List Int) (hS : SetsAt w w.heap.size V Ss) (hz : IntsAt w w.heap.size v zs) (hg : (decide (20 < Ss.length) || decide (20 < zs.length)) = true) :
    Calls Try.prog 5 #[V, v, .int .i64 r] w fun e w' => e = .returned (.bool true) ∧ Below w.heap.size w w' := by
  have HG := great7_any V v Ss zs w hS hz
  rw [hg] at HG
  have HK := fun w => knows7_any w
  clear hg
  obtain ⟨A, c, rfl, -, -⟩ := hz
  obtain ⟨A2, c2, rfl⟩ := hS.form
  clear hS
  go_enter Try.func5, Try.ntmps5
  go_wp2_with fail
  refine HG.mono ?_
  rintro e w1 ⟨rfl, rfl⟩
  clear HG
  have hb0 := Below.refl w.heap.size w
  go_wp2_with fail
  refine (HK _).mono ?_
  rintro e w9 ⟨rfl, hb9⟩
  clear HK
  go_wp2
  go_ret
  exact ⟨rfl, hb0.trans (hb9.mono hb0.size)⟩
set_option maxHeartbeats 2000000 in
set_option maxRecDepth 100000 in
theorem sifts7_long (w : World) (V v : Value) (r : Int) (Ss : List (BitVec 256)) (zs : List Int) (hS : SetsAt w w.heap.size V Ss) (hz : IntsAt w w.heap.size v zs) (hg : (decide (20 < Ss.length) || decide (20 < zs.length)) = false) (h5 : 5 < zs.length) (hm : mayO Ss zs = true) :
    Calls Try.prog 5 #[V, v, .int .i64 r] w fun e w' => e = .returned (.bool true) ∧ Below w.heap.size w w' := by
  have HG := great7_any V v Ss zs w hS hz
  rw [hg] at HG
  have HK := fun w => knows7_any w
  have HY := fun w1 (hb : Below w.heap.size w w1) => may7_any V v Ss zs w1 ((hS.below hb).more hb.size) ((hz.below hb).more hb.size)
  rw [hm] at HY
  have HY := HY w (Below.refl _ _)
  clear hg hm
  obtain ⟨A, c, rfl, -, -⟩ := hz
  obtain ⟨A2, c2, rfl⟩ := hS.form
  clear hS
  go_enter Try.func5, Try.ntmps5
  go_wp2_with fail
  refine HG.mono ?_
  rintro e w1 ⟨rfl, rfl⟩
  clear HG
  go_wp2_with fail
  refine HY.mono ?_
  rintro e w2 ⟨rfl, hb2⟩
  clear HY
  go_wp2_with fail
  refine (HK _).mono ?_
  rintro e w9 ⟨rfl, hb9⟩
  clear HK
  go_wp2
  go_ret
  exact ⟨rfl, hb2.trans (hb9.mono hb2.size)⟩
set_option maxHeartbeats 2000000 in
set_option maxRecDepth 100000 in
theorem sifts7_no5 (w : World) (V v : Value) (r : Int) (Ss : List (BitVec 256)) (zs : List Int) (hS : SetsAt w w.heap.size V Ss) (hz : IntsAt w w.heap.size v zs) (hg : (decide (20 < Ss.length) || decide (20 < zs.length)) = false) (h5 : 5 < zs.length) (hm : mayO Ss zs = false) :
    Calls Try.prog 5 #[V, v, .int .i64 r] w fun e w' => e = .returned (.bool true) ∧ Below w.heap.size w w' := by
  have HG := great7_any V v Ss zs w hS hz
  rw [hg] at HG
  have HK := fun w => knows7_any w
  have HY := fun w1 (hb : Below w.heap.size w w1) => may7_any V v Ss zs w1 ((hS.below hb).more hb.size) ((hz.below hb).more hb.size)
  rw [hm] at HY
  have HT := fun w1 (hb : Below w.heap.size w w1) => osift_no w1 V v Ss zs r ((hS.below hb).more hb.size) ((hz.below hb).more hb.size) hm
  clear hg hm
  obtain ⟨A, c, rfl, -, -⟩ := hz
  obtain ⟨A2, c2, rfl⟩ := hS.form
  clear hS
  go_enter Try.func5, Try.ntmps5
  go_wp2_with fail
  refine HG.mono ?_
  rintro e w1 ⟨rfl, rfl⟩
  clear HG
  go_wp2_with fail
  refine (HY _ (Below.refl _ _)).mono ?_
  rintro e w2 ⟨rfl, hb2⟩
  have HT := HT _ hb2
  go_wp2_with fail
  refine HT.mono ?_
  rintro e w3 ⟨rfl, hb3⟩
  have hb3' := hb2.trans (hb3.mono hb2.size)
  have HY := HY _ hb3'
  clear HT
  go_wp2_with fail
  refine HY.mono ?_
  rintro e w4 ⟨rfl, hb4⟩
  have hb4' := hb3'.trans (hb4.mono hb3'.size)
  clear HY
  go_wp2_with fail
  refine (HK _).mono ?_
  rintro e w9 ⟨rfl, hb9⟩
  clear HK
  go_wp2
  go_ret
  exact ⟨rfl, hb4'.trans (hb9.mono hb4'.size)⟩
set_option maxHeartbeats 2000000 in
set_option maxRecDepth 100000 in
theorem sifts7_no (w : World) (V v : Value) (r : Int) (Ss : List (BitVec 256)) (zs : List Int) (hS : SetsAt w w.heap.size V Ss) (hz : IntsAt w w.heap.size v zs) (hg : (decide (20 < Ss.length) || decide (20 < zs.length)) = false) (h5 : ¬ 5 < zs.length) (hm : mayO Ss zs = false) :
    Calls Try.prog 5 #[V, v, .int .i64 r] w fun e w' => e = .returned (.bool true) ∧ Below w.heap.size w w' := by
  have HG := great7_any V v Ss zs w hS hz
  rw [hg] at HG
  have HK := fun w => knows7_any w
  have HY := fun w1 (hb : Below w.heap.size w w1) => may7_any V v Ss zs w1 ((hS.below hb).more hb.size) ((hz.below hb).more hb.size)
  rw [hm] at HY
  have HT := fun w1 (hb : Below w.heap.size w w1) => osift_no w1 V v Ss zs r ((hS.below hb).more hb.size) ((hz.below hb).more hb.size) hm
  clear hg hm
  obtain ⟨A, c, rfl, -, -⟩ := hz
  obtain ⟨A2, c2, rfl⟩ := hS.form
  clear hS
  go_enter Try.func5, Try.ntmps5
  go_wp2_with fail
  refine HG.mono ?_
  rintro e w1 ⟨rfl, rfl⟩
  clear HG
  have hb2 := Below.refl w.heap.size w
  have HT := HT _ hb2
  go_wp2_with fail
  refine HT.mono ?_
  rintro e w3 ⟨rfl, hb3⟩
  have hb3' := hb2.trans (hb3.mono hb2.size)
  have HY := HY _ hb3'
  clear HT
  go_wp2_with fail
  refine HY.mono ?_
  rintro e w4 ⟨rfl, hb4⟩
  have hb4' := hb3'.trans (hb4.mono hb3'.size)
  clear HY
  go_wp2_with fail
  refine (HK _).mono ?_
  rintro e w9 ⟨rfl, hb9⟩
  clear HK
  go_wp2
  go_ret
  exact ⟨rfl, hb4'.trans (hb9.mono hb4'.size)⟩
set_option maxHeartbeats 2000000 in
set_option maxRecDepth 100000 in
theorem sifts7_low (w : World) (V v : Value) (r : Int) (Ss : List (BitVec 256)) (zs : List Int) (hS : SetsAt w w.heap.size V Ss) (hz : IntsAt w w.heap.size v zs) (hg : (decide (20 < Ss.length) || decide (20 < zs.length)) = false) (h5 : ¬ 5 < zs.length) (hm : mayO Ss zs = true) (hr : r < 0) :
    Calls Try.prog 5 #[V, v, .int .i64 r] w fun e w' => e = .returned (.bool true) ∧ Below w.heap.size w w' := by
  have HG := great7_any V v Ss zs w hS hz
  rw [hg] at HG
  have HK := fun w => knows7_any w
  have HY := fun w1 (hb : Below w.heap.size w w1) => may7_any V v Ss zs w1 ((hS.below hb).more hb.size) ((hz.below hb).more hb.size)
  rw [hm] at HY
  obtain ⟨o, rfl, hoo, h8, h4, hf⟩ := mayO_parts hm
  have HT := osift_yes w V v Ss o r hS hz hoo h8 h4 hf
  have hr4 : rnd r ≤ 4 := by unfold rnd; omega
  have hrr : ((rnd r : Nat) : Int) = 0 := by unfold rnd; omega
  have HR := fun w1 (hb : Below w.heap.size w w1) => rsift_any w1 V v Ss o (rnd r) hr4 ((hS.below hb).more hb.size) ((hz.below hb).more hb.size) hoo h8 h4
  rw [hrr] at HR
  have hsl : (ofN (siftN Ss o (rnd r))).length = o.length := by rw [ofN_len]; exact (sift_ok Ss hoo h8 h4 (rnd r)).2.1
  have hsH := Lib.hid hsl
  rw [ofN_len] at h5
  generalize siftN Ss o (rnd r) = sn at *
  clear hsl hg hm hf hrr hr4
  obtain ⟨A, c, rfl, -, -⟩ := hz
  obtain ⟨A2, c2, rfl⟩ := hS.form
  clear hS
  go_enter Try.func5, Try.ntmps5
  rw [ofN_len] at *
  go_wp2_with fail
  refine HG.mono ?_
  rintro e w1 ⟨rfl, rfl⟩
  clear HG
  go_wp2_with fail
  refine HT.mono ?_
  rintro e w3 ⟨v3, rfl, hI3, hb3⟩
  have HY := HY _ hb3
  have hI3k := hI3
  obtain ⟨A3, c3, rfl, -, -⟩ := hI3
  clear HT
  go_wp2_with fail
  refine HY.mono ?_
  rintro e w4 ⟨rfl, hb4⟩
  have hb4' := hb3.trans (hb4.mono hb3.size)
  have HR := HR _ hb4'
  clear HY
  go_wp2_with fail
  refine HR.mono ?_
  rintro e w5 ⟨v5, rfl, hI5, hb5⟩
  have hb5' := hb4'.trans (hb5.mono hb4'.size)
  have h35 := hb4.trans (hb5.mono hb4.size)
  have HE := rsame7_any w5 _ v5 _ _ ((hI3k.below h35).more h35.size) hI5
  rw [decide_eq_true rfl] at HE
  obtain ⟨A5, c5, rfl, -, -⟩ := hI5
  clear HR hI3k
  go_wp2_with fail
  refine HE.mono ?_
  rintro e w6 ⟨rfl, hb6⟩
  have hb6' := hb5'.trans (hb6.mono hb5'.size)
  clear HE
  go_wp2_with fail
  refine (HK _).mono ?_
  rintro e w9 ⟨rfl, hb9⟩
  clear HK
  go_wp2
  go_ret
  exact ⟨rfl, hb6'.trans (hb9.mono hb6'.size)⟩
set_option maxHeartbeats 2000000 in
set_option maxRecDepth 100000 in
theorem sifts7_high (w : World) (V v : Value) (r : Int) (Ss : List (BitVec 256)) (zs : List Int) (hS : SetsAt w w.heap.size V Ss) (hz : IntsAt w w.heap.size v zs) (hg : (decide (20 < Ss.length) || decide (20 < zs.length)) = false) (h5 : ¬ 5 < zs.length) (hm : mayO Ss zs = true) (hr : 4 < r) :
    Calls Try.prog 5 #[V, v, .int .i64 r] w fun e w' => e = .returned (.bool true) ∧ Below w.heap.size w w' := by
  have HG := great7_any V v Ss zs w hS hz
  rw [hg] at HG
  have HK := fun w => knows7_any w
  have HY := fun w1 (hb : Below w.heap.size w w1) => may7_any V v Ss zs w1 ((hS.below hb).more hb.size) ((hz.below hb).more hb.size)
  rw [hm] at HY
  obtain ⟨o, rfl, hoo, h8, h4, hf⟩ := mayO_parts hm
  have HT := osift_yes w V v Ss o r hS hz hoo h8 h4 hf
  have hr4 : rnd r ≤ 4 := by unfold rnd; omega
  have hrr : ((rnd r : Nat) : Int) = 4 := by unfold rnd; omega
  have HR := fun w1 (hb : Below w.heap.size w w1) => rsift_any w1 V v Ss o (rnd r) hr4 ((hS.below hb).more hb.size) ((hz.below hb).more hb.size) hoo h8 h4
  rw [hrr] at HR
  have hsl : (ofN (siftN Ss o (rnd r))).length = o.length := by rw [ofN_len]; exact (sift_ok Ss hoo h8 h4 (rnd r)).2.1
  have hsH := Lib.hid hsl
  rw [ofN_len] at h5
  generalize siftN Ss o (rnd r) = sn at *
  clear hsl hg hm hf hrr hr4
  obtain ⟨A, c, rfl, -, -⟩ := hz
  obtain ⟨A2, c2, rfl⟩ := hS.form
  clear hS
  go_enter Try.func5, Try.ntmps5
  rw [ofN_len] at *
  go_wp2_with fail
  refine HG.mono ?_
  rintro e w1 ⟨rfl, rfl⟩
  clear HG
  go_wp2_with fail
  refine HT.mono ?_
  rintro e w3 ⟨v3, rfl, hI3, hb3⟩
  have HY := HY _ hb3
  have hI3k := hI3
  obtain ⟨A3, c3, rfl, -, -⟩ := hI3
  clear HT
  go_wp2_with fail
  refine HY.mono ?_
  rintro e w4 ⟨rfl, hb4⟩
  have hb4' := hb3.trans (hb4.mono hb3.size)
  have HR := HR _ hb4'
  clear HY
  go_wp2_with fail
  refine HR.mono ?_
  rintro e w5 ⟨v5, rfl, hI5, hb5⟩
  have hb5' := hb4'.trans (hb5.mono hb4'.size)
  have h35 := hb4.trans (hb5.mono hb4.size)
  have HE := rsame7_any w5 _ v5 _ _ ((hI3k.below h35).more h35.size) hI5
  rw [decide_eq_true rfl] at HE
  obtain ⟨A5, c5, rfl, -, -⟩ := hI5
  clear HR hI3k
  go_wp2_with fail
  refine HE.mono ?_
  rintro e w6 ⟨rfl, hb6⟩
  have hb6' := hb5'.trans (hb6.mono hb5'.size)
  clear HE
  go_wp2_with fail
  refine (HK _).mono ?_
  rintro e w9 ⟨rfl, hb9⟩
  clear HK
  go_wp2
  go_ret
  exact ⟨rfl, hb6'.trans (hb9.mono hb6'.size)⟩
set_option maxHeartbeats 2000000 in
set_option maxRecDepth 100000 in
theorem sifts7_mid (w : World) (V v : Value) (r : Int) (Ss : List (BitVec 256)) (zs : List Int) (hS : SetsAt w w.heap.size V Ss) (hz : IntsAt w w.heap.size v zs) (hg : (decide (20 < Ss.length) || decide (20 < zs.length)) = false) (h5 : ¬ 5 < zs.length) (hm : mayO Ss zs = true) (hr : 0 ≤ r ∧ r ≤ 4) :
    Calls Try.prog 5 #[V, v, .int .i64 r] w fun e w' => e = .returned (.bool true) ∧ Below w.heap.size w w' := by
  have HG := great7_any V v Ss zs w hS hz
  rw [hg] at HG
  have HK := fun w => knows7_any w
  have HY := fun w1 (hb : Below w.heap.size w w1) => may7_any V v Ss zs w1 ((hS.below hb).more hb.size) ((hz.below hb).more hb.size)
  rw [hm] at HY
  obtain ⟨o, rfl, hoo, h8, h4, hf⟩ := mayO_parts hm
  have HT := osift_yes w V v Ss o r hS hz hoo h8 h4 hf
  have hr4 : rnd r ≤ 4 := by unfold rnd; omega
  have hrr : ((rnd r : Nat) : Int) = r := by unfold rnd; omega
  have HR := fun w1 (hb : Below w.heap.size w w1) => rsift_any w1 V v Ss o (rnd r) hr4 ((hS.below hb).more hb.size) ((hz.below hb).more hb.size) hoo h8 h4
  rw [hrr] at HR
  have hsl : (ofN (siftN Ss o (rnd r))).length = o.length := by rw [ofN_len]; exact (sift_ok Ss hoo h8 h4 (rnd r)).2.1
  have hsH := Lib.hid hsl
  rw [ofN_len] at h5
  generalize siftN Ss o (rnd r) = sn at *
  clear hsl hg hm hf hrr hr4
  obtain ⟨A, c, rfl, -, -⟩ := hz
  obtain ⟨A2, c2, rfl⟩ := hS.form
  clear hS
  go_enter Try.func5, Try.ntmps5
  rw [ofN_len] at *
  go_wp2_with fail
  refine HG.mono ?_
  rintro e w1 ⟨rfl, rfl⟩
  clear HG
  go_wp2_with fail
  refine HT.mono ?_
  rintro e w3 ⟨v3, rfl, hI3, hb3⟩
  have HY := HY _ hb3
  have hI3k := hI3
  obtain ⟨A3, c3, rfl, -, -⟩ := hI3
  clear HT
  go_wp2_with fail
  refine HY.mono ?_
  rintro e w4 ⟨rfl, hb4⟩
  have hb4' := hb3.trans (hb4.mono hb3.size)
  have HR := HR _ hb4'
  clear HY
  go_wp2_with fail
  refine HR.mono ?_
  rintro e w5 ⟨v5, rfl, hI5, hb5⟩
  have hb5' := hb4'.trans (hb5.mono hb4'.size)
  have h35 := hb4.trans (hb5.mono hb4.size)
  have HE := rsame7_any w5 _ v5 _ _ ((hI3k.below h35).more h35.size) hI5
  rw [decide_eq_true rfl] at HE
  obtain ⟨A5, c5, rfl, -, -⟩ := hI5
  clear HR hI3k
  go_wp2_with fail
  refine HE.mono ?_
  rintro e w6 ⟨rfl, hb6⟩
  have hb6' := hb5'.trans (hb6.mono hb5'.size)
  clear HE
  go_wp2_with fail
  refine (HK _).mono ?_
  rintro e w9 ⟨rfl, hb9⟩
  clear HK
  go_wp2
  go_ret
  exact ⟨rfl, hb6'.trans (hb9.mono hb6'.size)⟩
set_option maxHeartbeats 2000000 in
set_option maxRecDepth 100000 in
theorem shrinks7_no (w : World) (V v : Value) (r : Int) (Ss : List (BitVec 256)) (zs : List Int) (hS : SetsAt w w.heap.size V Ss) (hz : IntsAt w w.heap.size v zs) (hm : mayO Ss zs = false) :
    Calls Try.prog 6 #[V, v, .int .i64 r] w fun e w' => e = .returned (.bool true) ∧ Below w.heap.size w w' := by
  have HK := fun w => knows7_any w
  have HY := fun w1 (hb : Below w.heap.size w w1) => may7_any V v Ss zs w1 ((hS.below hb).more hb.size) ((hz.below hb).more hb.size)
  rw [hm] at HY
  have HY := HY w (Below.refl _ _)
  clear hm
  obtain ⟨A, c, rfl, -, -⟩ := hz
  obtain ⟨A2, c2, rfl⟩ := hS.form
  clear hS
  go_enter Try.func6, Try.ntmps6
  go_wp2_with fail
  refine HY.mono ?_
  rintro e w2 ⟨rfl, hb2⟩
  clear HY
  go_wp2_with fail
  refine (HK _).mono ?_
  rintro e w9 ⟨rfl, hb9⟩
  clear HK
  go_wp2
  go_ret
  exact ⟨rfl, hb2.trans (hb9.mono hb2.size)⟩
set_option maxHeartbeats 2000000 in
set_option maxRecDepth 100000 in
theorem shrinks7_yes (w : World) (V v : Value) (r : Int) (Ss : List (BitVec 256)) (zs : List Int) (hS : SetsAt w w.heap.size V Ss) (hz : IntsAt w w.heap.size v zs) (hm : mayO Ss zs = true) :
    Calls Try.prog 6 #[V, v, .int .i64 r] w fun e w' => e = .returned (.bool true) ∧ Below w.heap.size w w' := by
  have HK := fun w => knows7_any w
  have HY := fun w1 (hb : Below w.heap.size w w1) => may7_any V v Ss zs w1 ((hS.below hb).more hb.size) ((hz.below hb).more hb.size)
  rw [hm] at HY
  have HY := HY w (Below.refl _ _)
  obtain ⟨o, rfl, hoo, h8, h4, hf⟩ := mayO_parts hm
  have HT := fun w1 (hb : Below w.heap.size w w1) => osift_yes w1 V v Ss o r ((hS.below hb).more hb.size) ((hz.below hb).more hb.size) hoo h8 h4 hf
  have HA := fun w1 (hb : Below w.heap.size w w1) => osize_good w1 V v Ss o ((hS.below hb).more hb.size) ((hz.below hb).more hb.size) hoo h8 h4
  obtain ⟨hso, hsl, hsz⟩ := sift_ok Ss hoo h8 h4 (rnd r)
  generalize siftN Ss o (rnd r) = sn at *
  have HB := fun w1 (hb : Below w.heap.size w w1) (u : Value) (hu : IntsAt w1 w1.heap.size u (ofN sn)) => osize_good w1 V u Ss sn ((hS.below hb).more hb.size) hu hso (by omega) h4
  have HO := fun w1 (u : Value) (hu : IntsAt w1 w1.heap.size u (ofN sn)) => rorder_any w1 u (ofN sn) hu
  rw [decide_eq_true (nat_ordI hso (by omega))] at HO
  unfold szE at HA HB
  rw [if_pos hf] at HA
  rw [hsl, if_pos hf] at HB
  have hle : (szs Ss sn : Int) ≤ (szs Ss o : Int) := by omega
  have hle2 : ¬ (szs Ss o : Int) < (szs Ss sn : Int) := by omega
  have hll : (((ofN sn).length : Int) == ((ofN o).length : Int)) = true := by rw [ofN_len, ofN_len, hsl]; simp
  generalize szs Ss sn = n2 at *
  generalize szs Ss o = n1 at *
  have hso' := Lib.hid hso
  clear hm hf hsl hsz hso
  obtain ⟨A, c, rfl, -, -⟩ := hz
  obtain ⟨A2, c2, rfl⟩ := hS.form
  clear hS
  go_enter Try.func6, Try.ntmps6
  go_wp2_with fail
  refine HY.mono ?_
  rintro e w1 ⟨rfl, hb1⟩
  have HT := HT w1 hb1
  clear HY
  go_wp2_with fail
  refine HT.mono ?_
  rintro e w2 ⟨v2, rfl, hI2, hb2⟩
  have hb2' := hb1.trans (hb2.mono hb1.size)
  have HA := HA _ hb2'
  clear HT
  go_wp2_with fail
  refine HA.mono ?_
  rintro e w3 ⟨rfl, hb3⟩
  have hb3' := hb2'.trans (hb3.mono hb2'.size)
  have hI3 := (hI2.below hb3).more hb3.size
  have HB := HB _ hb3' _ hI3
  obtain ⟨A3, c3, rfl, -, -⟩ := hI2
  clear HA
  go_wp2_with fail
  refine HB.mono ?_
  rintro e w4 ⟨rfl, hb4⟩
  have hb4' := hb3'.trans (hb4.mono hb3'.size)
  have hI4 := (hI3.below hb4).more hb4.size
  have HO := HO _ _ hI4
  clear HB hI3
  go_wp2_with fail
  refine HO.mono ?_
  rintro e w5 ⟨rfl, hb5⟩
  have hb5' := hb4'.trans (hb5.mono hb4'.size)
  clear HO hI4
  go_wp2_with fail
  refine (HK _).mono ?_
  rintro e w9 ⟨rfl, hb9⟩
  clear HK
  go_wp2
  go_ret
  exact ⟨rfl, hb5'.trans (hb9.mono hb5'.size)⟩
end Go.Proofs.Ytfamdckaljniiaa
