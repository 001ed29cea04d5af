/- OrderSizes and OrderMoves. -/
import Derived.Test.YtfamdckaljniiaaKnw07
namespace Go.Proofs.Ytfamdckaljniiaa
open Go.RowKit Go.Joins

set_option maxHeartbeats 1000000 in
theorem sizes7_great (w : World) (V v : Value) (n : Int) (Ss : List (BitVec 256)) (zs : List Int) (hS : SetsAt w w.heap.size V Ss) (hz : IntsAt w w.heap.size v zs) (hg : (decide (20 < Ss.length) || decide (20 < zs.length)) = true) :
    Calls Try.prog 3 #[V, v, .int .i64 n] w fun e w' => e = .returned (.bool true) ∧ Below w.heap.size w w' := by
  have HG := great7_any V v Ss zs w hS hz
  rw [hg] at HG
  obtain ⟨A, c, rfl, -, -⟩ := hz
  obtain ⟨A2, c2, rfl⟩ := hS.form
  clear hS
  have HK := fun w => knows7_any w
  go_enter Try.func3, Try.ntmps3
  go_wp2_with fail
  refine HG.mono ?_
  rintro e w1 ⟨rfl, rfl⟩
  clear HG
  go_wp2_with fail
  refine (HK _).mono ?_
  rintro e w2 ⟨rfl, hb2⟩
  clear HK
  go_wp2
  go_ret
  exact ⟨rfl, hb2⟩
/-- Plain, in one word. -/
theorem plain_any (n : Int) (w : World) :
    Calls Try.prog 9 #[.int .i64 n] w fun e w' => ∃ (v : Value) (m : Nat), e = .returned v ∧ IntsAt w' w'.heap.size v (ofN (List.range m)) ∧ m ≤ 8 ∧ ((n < 0 ∨ 8 < n) → m = 0) ∧ (0 ≤ n → n ≤ 8 → (m : Int) = n) ∧ Below w.heap.size w w' := by
  by_cases h : n < 0 ∨ 8 < n
  · refine (plain_no n h w).mono ?_
    rintro e w' ⟨rfl, hb⟩
    exact ⟨_, 0, rfl, ⟨none, 0, rfl, by decide, fun h => absurd h (by decide)⟩, by decide, fun _ => rfl, fun h0 h8 => by omega, hb⟩
  · obtain ⟨m, rfl⟩ : ∃ m : Nat, n = m := ⟨n.toNat, by omega⟩
    refine (plain_yes m (by omega) w).mono ?_
    rintro e w' ⟨v, rfl, hI, hb⟩
    exact ⟨v, m, rfl, hI, by omega, fun h' => absurd h' h, fun _ _ => rfl, hb⟩
set_option maxHeartbeats 4000000 in
set_option maxRecDepth 100000 in
theorem sizes7_any (w : World) (V v : Value) (n : Int) (Ss : List (BitVec 256)) (zs : List Int) (hS : SetsAt w w.heap.size V Ss) (hz : IntsAt w w.heap.size v zs) (hg : (decide (20 < Ss.length) || decide (20 < zs.length)) = false)
    (b : Bool) (hm : mayO Ss zs = b) :
    Calls Try.prog 3 #[V, v, .int .i64 n] w fun e w' => e = .returned (.bool true) ∧ Below w.heap.size w w' := by
  have HG := great7_any V v Ss zs w hS hz
  rw [hg] at HG
  have HP := fun w => plain_any n w
  have HM := fun w1 (hb : Below w.heap.size w w1) => may7_any V v Ss zs w1 ((hS.below hb).more hb.size) ((hz.below hb).more hb.size)
  rw [hm] at HM
  have HK := fun w => knows7_any w
  have HZ : ∀ w1, Below w.heap.size w w1 → Calls Try.prog 10 #[V, v] w1 fun e w' => ∃ s E : Int, e = .returned (.tuple #[.int .i64 s, .int .i64 E]) ∧ (b = false → s = 0 ∧ E = 1) ∧ (b = true → E = 0 ∧ ∀ w2, Below w.heap.size w w2 → Calls Try.prog 12 #[V, v] w2 fun e w3 => e = .returned (.int .i64 s) ∧ Below w2.heap.size w2 w3) ∧ Below w1.heap.size w1 w' := fun w1 hb => by
    cases b with
    | false =>
      refine (osize_no w1 V v Ss zs ((hS.below hb).more hb.size) ((hz.below hb).more hb.size) hm).mono ?_
      rintro e w' ⟨rfl, hb2⟩
      exact ⟨0, 1, rfl, fun _ => ⟨rfl, rfl⟩, fun h => (by cases h), hb2⟩
    | true =>
      unfold mayO at hm
      simp only [Bool.and_eq_true, decide_eq_true_eq] at hm
      obtain ⟨h4, ho, hf⟩ := hm
      obtain ⟨o, rfl, hoo, h8⟩ := ordI_nat ho
      rw [ofN_len] at hf
      have h := osize_good w1 V v Ss o ((hS.below hb).more hb.size) ((hz.below hb).more hb.size) hoo h8 h4
      unfold szE at h
      rw [if_pos hf] at h
      refine h.mono ?_
      rintro e w' ⟨rfl, hb2⟩
      exact ⟨_, 0, rfl, fun h => by (cases h), fun _ => ⟨rfl, fun w2 hb2 => rsize7_any V v Ss o w2 ((hS.below hb2).more hb2.size) ((hz.below hb2).more hb2.size) hoo h8 h4⟩, hb2⟩
  obtain ⟨A, c, rfl, -, -⟩ := hz
  obtain ⟨A2, c2, rfl⟩ := hS.form
  clear hS hm hg
  go_enter Try.func3, Try.ntmps3
  go_wp2_with fail
  refine HG.mono ?_
  rintro e w1 ⟨rfl, rfl⟩
  clear HG
  go_wp2_with fail
  refine (HP _).mono ?_
  rintro e w2 ⟨u, m, rfl, hI, hm8, hout, hin, hb2⟩
  obtain ⟨A3, c3, rfl, hl3, hc3⟩ := hI
  have hml : (ofN (List.range m)).length = m := by rw [ofN_len, List.length_range]
  have hget : ∀ j, j < m → (ofN (List.range m))[j]? = some (j : Int) := fun j hj => by unfold ofN; rw [List.getElem?_map, List.getElem?_range hj]; rfl
  rw [hml] at hc3 hl3 ⊢
  clear HP
  go_wp2
  go_loopw [8] (fun t wr => ∃ k : Nat, k ≤ m ∧ t = .int .i64 k ∧ Below w2.heap.size w2 wr) (fun t _ => m - (intOf t).toNat)
  case atStart => exact ⟨0, by omega, rfl, Below.refl _ _⟩
  case round =>
    obtain ⟨k, hk, rfl, hb⟩ := hrel
    by_cases hlt : k < m
    · obtain ⟨g, off, rfl, hgl, hcell⟩ := hc3 (by omega)
      have q := (hb.cell (p := ⟨g, off + k, none⟩) hgl).trans (hcell k _ (hget k hlt))
      have hne : ((k : Int) != (k : Int)) = false := by simp
      clear hcell hc3 hget
      go_wp2
      go_roundw
      case rel => exact ⟨k + 1, by omega, by go_num, hb⟩
      case measure => simp [intOf]; omega
    · obtain rfl : k = m := by omega
      have hb3 := hb2.trans (hb.mono hb2.size)
      have HZ := HZ _ hb3
      clear hc3 hget hb hlt
      have hn3 : n < 0 ∨ 8 < n ∨ ∃ q : Nat, n = q ∧ q ≤ 8 := by
        by_cases h0 : n < 0
        · exact .inl h0
        · by_cases h1 : 8 < n
          · exact .inr (.inl h1)
          · exact .inr (.inr ⟨n.toNat, by omega, by omega⟩)
      have hkk : ((k : Int) != (k : Int)) = false := by simp
      have hk0 : ((0 : Nat) : Int) = 0 := rfl
      cases b with
      | false =>
        rcases hn3 with h0 | h1 | ⟨q, rfl, hq⟩
        · obtain rfl : k = 0 := hout (.inl h0)
          clear hout hin
          go_wp2_with fail
          refine HZ.mono ?_
          rintro e w4 ⟨s, E, rfl, hno, -, hb4⟩
          obtain ⟨rfl, rfl⟩ := hno trivial
          have hb4' := hb3.trans (hb4.mono hb3.size)
          have HM := HM _ hb4'
          clear HZ hno
          go_wp2_with fail
          refine HM.mono ?_
          rintro e w5 ⟨rfl, hb5⟩
          have hb5' := hb4'.trans (hb5.mono hb4'.size)
          clear HM
          go_wp2_with fail
          refine (HK _).mono ?_
          rintro e w6 ⟨rfl, hb6⟩
          clear HK
          go_wp2
          go_ret
          exact ⟨rfl, hb5'.trans (hb6.mono hb5'.size)⟩
        · obtain rfl : k = 0 := hout (.inr h1)
          clear hout hin
          go_wp2_with fail
          refine HZ.mono ?_
          rintro e w4 ⟨s, E, rfl, hno, -, hb4⟩
          obtain ⟨rfl, rfl⟩ := hno trivial
          have hb4' := hb3.trans (hb4.mono hb3.size)
          have HM := HM _ hb4'
          clear HZ hno
          go_wp2_with fail
          refine HM.mono ?_
          rintro e w5 ⟨rfl, hb5⟩
          have hb5' := hb4'.trans (hb5.mono hb4'.size)
          clear HM
          go_wp2_with fail
          refine (HK _).mono ?_
          rintro e w6 ⟨rfl, hb6⟩
          clear HK
          go_wp2
          go_ret
          exact ⟨rfl, hb5'.trans (hb6.mono hb5'.size)⟩
        · obtain rfl : k = q := by have := hin (by omega) (by omega); omega
          clear hout hin
          go_wp2_with fail
          refine HZ.mono ?_
          rintro e w4 ⟨s, E, rfl, hno, -, hb4⟩
          obtain ⟨rfl, rfl⟩ := hno trivial
          have hb4' := hb3.trans (hb4.mono hb3.size)
          have HM := HM _ hb4'
          clear HZ hno
          go_wp2_with fail
          refine HM.mono ?_
          rintro e w5 ⟨rfl, hb5⟩
          have hb5' := hb4'.trans (hb5.mono hb4'.size)
          clear HM
          go_wp2_with fail
          refine (HK _).mono ?_
          rintro e w6 ⟨rfl, hb6⟩
          clear HK
          go_wp2
          go_ret
          exact ⟨rfl, hb5'.trans (hb6.mono hb5'.size)⟩
      | true =>
        rcases hn3 with h0 | h1 | ⟨q, rfl, hq⟩
        · obtain rfl : k = 0 := hout (.inl h0)
          clear hout hin
          go_wp2_with fail
          refine HZ.mono ?_
          rintro e w4 ⟨s, E, rfl, -, hyes, hb4⟩
          obtain ⟨rfl, HR⟩ := hyes trivial
          have hb4' := hb3.trans (hb4.mono hb3.size)
          have HM := HM _ hb4'
          have hss : (s == s) = true := by simp
          clear HZ hyes
          go_wp2_with fail
          refine HM.mono ?_
          rintro e w5 ⟨rfl, hb5⟩
          have hb5' := hb4'.trans (hb5.mono hb4'.size)
          have HR := HR _ hb5'
          clear HM
          go_wp2_with fail
          refine HR.mono ?_
          rintro e w6 ⟨rfl, hb6⟩
          have hb6' := hb5'.trans (hb6.mono hb5'.size)
          clear HR
          go_wp2_with fail
          refine (HK _).mono ?_
          rintro e w7 ⟨rfl, hb7⟩
          clear HK
          go_wp2
          go_ret
          exact ⟨rfl, hb6'.trans (hb7.mono hb6'.size)⟩
        · obtain rfl : k = 0 := hout (.inr h1)
          clear hout hin
          go_wp2_with fail
          refine HZ.mono ?_
          rintro e w4 ⟨s, E, rfl, -, hyes, hb4⟩
          obtain ⟨rfl, HR⟩ := hyes trivial
          have hb4' := hb3.trans (hb4.mono hb3.size)
          have HM := HM _ hb4'
          have hss : (s == s) = true := by simp
          clear HZ hyes
          go_wp2_with fail
          refine HM.mono ?_
          rintro e w5 ⟨rfl, hb5⟩
          have hb5' := hb4'.trans (hb5.mono hb4'.size)
          have HR := HR _ hb5'
          clear HM
          go_wp2_with fail
          refine HR.mono ?_
          rintro e w6 ⟨rfl, hb6⟩
          have hb6' := hb5'.trans (hb6.mono hb5'.size)
          clear HR
          go_wp2_with fail
          refine (HK _).mono ?_
          rintro e w7 ⟨rfl, hb7⟩
          clear HK
          go_wp2
          go_ret
          exact ⟨rfl, hb6'.trans (hb7.mono hb6'.size)⟩
        · obtain rfl : k = q := by have := hin (by omega) (by omega); omega
          clear hout hin
          go_wp2_with fail
          refine HZ.mono ?_
          rintro e w4 ⟨s, E, rfl, -, hyes, hb4⟩
          obtain ⟨rfl, HR⟩ := hyes trivial
          have hb4' := hb3.trans (hb4.mono hb3.size)
          have HM := HM _ hb4'
          have hss : (s == s) = true := by simp
          clear HZ hyes
          go_wp2_with fail
          refine HM.mono ?_
          rintro e w5 ⟨rfl, hb5⟩
          have hb5' := hb4'.trans (hb5.mono hb4'.size)
          have HR := HR _ hb5'
          clear HM
          go_wp2_with fail
          refine HR.mono ?_
          rintro e w6 ⟨rfl, hb6⟩
          have hb6' := hb5'.trans (hb6.mono hb5'.size)
          clear HR
          go_wp2_with fail
          refine (HK _).mono ?_
          rintro e w7 ⟨rfl, hb7⟩
          clear HK
          go_wp2
          go_ret
          exact ⟨rfl, hb6'.trans (hb7.mono hb6'.size)⟩

theorem ordI_mem {zs : List Int} (h : OrdI zs) (x : Int) : x ∈ zs ↔ 0 ≤ x ∧ x < zs.length := by
  refine ⟨fun hx => h.2.2 x hx, fun ⟨h0, h1⟩ => ?_⟩
  obtain ⟨o, rfl, ho, h8⟩ := ordI_nat h
  rw [ofN_len] at h1
  have hm := ho.mem (i := x.toNat) (by omega)
  unfold ofN
  exact List.mem_map.2 ⟨x.toNat, hm, by omega⟩
set_option maxHeartbeats 1000000 in
theorem moves7_great (w : World) (v : Value) (x k : Int) (zs : List Int) (hz : IntsAt w w.heap.size v zs) (hg : 20 < zs.length) :
    Calls Try.prog 4 #[v, .int .i64 x, .int .i64 k] w fun e w' => e = .returned (.bool true) ∧ Below w.heap.size w w' := by
  obtain ⟨A, c, rfl, -, -⟩ := hz
  have HK := fun w => knows7_any w
  go_enter Try.func4, Try.ntmps4
  go_wp2_with fail
  refine (HK _).mono ?_
  rintro e w2 ⟨rfl, hb2⟩
  clear HK
  go_wp2
  go_ret
  exact ⟨rfl, hb2⟩
set_option maxHeartbeats 2000000 in
set_option maxRecDepth 100000 in
theorem moves7_no (w : World) (v : Value) (x k : Int) (zs : List Int) (hz : IntsAt w w.heap.size v zs) (hg : ¬ 20 < zs.length) (h : ¬ (OrdI zs ∧ (0 ≤ x ∧ x < zs.length) ∧ 0 ≤ k ∧ k < zs.length)) :
    Calls Try.prog 4 #[v, .int .i64 x, .int .i64 k] w fun e w' => e = .returned (.bool true) ∧ Below w.heap.size w w' := by
  have HM := omove_no w v zs x k hz (fun h' => h ⟨h'.1, (ordI_mem h'.1 x).1 h'.2.1, h'.2.2⟩)
  have HO := fun w1 (hb : Below w.heap.size w w1) => rorder_any w1 v zs ((hz.below hb).more hb.size)
  have HK := fun w => knows7_any w
  obtain ⟨A, c, rfl, -, -⟩ := hz
  have h5 : ¬ OrdI zs ∨ (OrdI zs ∧ x < 0) ∨ (OrdI zs ∧ ¬ x < 0 ∧ (zs.length : Int) ≤ x) ∨ (OrdI zs ∧ ¬ x < 0 ∧ x < zs.length ∧ k < 0) ∨ (OrdI zs ∧ ¬ x < 0 ∧ x < zs.length ∧ ¬ k < 0 ∧ (zs.length : Int) ≤ k) := by
    by_cases ho : OrdI zs
    · have h' : ¬ ((0 ≤ x ∧ x < zs.length) ∧ 0 ≤ k ∧ k < zs.length) := fun hh => h ⟨ho, hh⟩
      by_cases h1 : x < 0
      · exact .inr (.inl ⟨ho, h1⟩)
      · by_cases h2 : (zs.length : Int) ≤ x
        · exact .inr (.inr (.inl ⟨ho, h1, h2⟩))
        · by_cases h3 : k < 0
          · exact .inr (.inr (.inr (.inl ⟨ho, h1, by omega, h3⟩)))
          · exact .inr (.inr (.inr (.inr ⟨ho, h1, by omega, h3, by omega⟩)))
    · exact .inl ho
  clear h
  rcases h5 with ho | ⟨ho, h1⟩ | ⟨ho, h1, h2⟩ | ⟨ho, h1, h2, h3⟩ | ⟨ho, h1, h2, h3, h4⟩
  · rw [decide_eq_false ho] at HO
    go_enter Try.func4, Try.ntmps4
    go_wp2_with fail
    refine HM.mono ?_
    rintro e w1 ⟨rfl, hb1⟩
    have HO := HO w1 hb1
    clear HM
    go_wp2_with fail
    refine HO.mono ?_
    rintro e w2 ⟨rfl, hb2⟩
    have hb2' := hb1.trans (hb2.mono hb1.size)
    clear HO
    go_wp2_with fail
    refine (HK _).mono ?_
    rintro e w3 ⟨rfl, hb3⟩
    clear HK
    go_wp2
    go_ret
    exact ⟨rfl, hb2'.trans (hb3.mono hb2'.size)⟩
  · rw [decide_eq_true ho] at HO
    go_enter Try.func4, Try.ntmps4
    go_wp2_with fail
    refine HM.mono ?_
    rintro e w1 ⟨rfl, hb1⟩
    have HO := HO w1 hb1
    clear HM
    go_wp2_with fail
    refine HO.mono ?_
    rintro e w2 ⟨rfl, hb2⟩
    have hb2' := hb1.trans (hb2.mono hb1.size)
    clear HO
    go_wp2_with fail
    refine (HK _).mono ?_
    rintro e w3 ⟨rfl, hb3⟩
    clear HK
    go_wp2
    go_ret
    exact ⟨rfl, hb2'.trans (hb3.mono hb2'.size)⟩
  · rw [decide_eq_true ho] at HO
    go_enter Try.func4, Try.ntmps4
    go_wp2_with fail
    refine HM.mono ?_
    rintro e w1 ⟨rfl, hb1⟩
    have HO := HO w1 hb1
    clear HM
    go_wp2_with fail
    refine HO.mono ?_
    rintro e w2 ⟨rfl, hb2⟩
    have hb2' := hb1.trans (hb2.mono hb1.size)
    clear HO
    go_wp2_with fail
    refine (HK _).mono ?_
    rintro e w3 ⟨rfl, hb3⟩
    clear HK
    go_wp2
    go_ret
    exact ⟨rfl, hb2'.trans (hb3.mono hb2'.size)⟩
  · rw [decide_eq_true ho] at HO
    go_enter Try.func4, Try.ntmps4
    go_wp2_with fail
    refine HM.mono ?_
    rintro e w1 ⟨rfl, hb1⟩
    have HO := HO w1 hb1
    clear HM
    go_wp2_with fail
    refine HO.mono ?_
    rintro e w2 ⟨rfl, hb2⟩
    have hb2' := hb1.trans (hb2.mono hb1.size)
    clear HO
    go_wp2_with fail
    refine (HK _).mono ?_
    rintro e w3 ⟨rfl, hb3⟩
    clear HK
    go_wp2
    go_ret
    exact ⟨rfl, hb2'.trans (hb3.mono hb2'.size)⟩
  · rw [decide_eq_true ho] at HO
    go_enter Try.func4, Try.ntmps4
    go_wp2_with fail
    refine HM.mono ?_
    rintro e w1 ⟨rfl, hb1⟩
    have HO := HO w1 hb1
    clear HM
    go_wp2_with fail
    refine HO.mono ?_
    rintro e w2 ⟨rfl, hb2⟩
    have hb2' := hb1.trans (hb2.mono hb1.size)
    clear HO
    go_wp2_with fail
    refine (HK _).mono ?_
    rintro e w3 ⟨rfl, hb3⟩
    clear HK
    go_wp2
    go_ret
    exact ⟨rfl, hb2'.trans (hb3.mono hb2'.size)⟩
set_option maxHeartbeats 2000000 in
set_option maxRecDepth 100000 in
theorem moves7_yes (w : World) (v : Value) (x k : Nat) (o : List Nat) (hz : IntsAt w w.heap.size v (ofN o)) (ho : OrdOk o) (h8 : o.length ≤ 8) (hx : x < o.length) (hk : k < o.length) :
    Calls Try.prog 4 #[v, .int .i64 x, .int .i64 k] w fun e w' => e = .returned (.bool true) ∧ Below w.heap.size w w' := by
  have hm := ho.mem hx
  have HM := omove_yes w v o x k ho h8 hm hk hz
  have HO := fun w1 (hb : Below w.heap.size w w1) => rorder_any w1 v (ofN o) ((hz.below hb).more hb.size)
  rw [decide_eq_true (nat_ordI ho h8)] at HO
  have HR := fun w1 (hb : Below w.heap.size w w1) => rmove_any w1 v o x k ho h8 hm hk ((hz.below hb).more hb.size)
  have HK := fun w => knows7_any w
  have hat : (ofN (mvL o x k))[k]? = some (x : Int) := by
    have h1 := mv_at o x (k := k) (by have := less_len ho.nodup hm; omega)
    unfold ofN
    rw [List.getElem?_map, h1]
    rfl
  have hl20 : ¬ (20 : Int) < (o.length : Int) := by omega
  obtain ⟨A, c, rfl, -, -⟩ := hz
  rw [ofN_len] at *
  have hml : (ofN (mvL o x k)).length = o.length := by rw [ofN_len, mv_len ho.nodup hm]
  go_enter Try.func4, Try.ntmps4
  go_wp2_with fail
  refine HM.mono ?_
  rintro e w1 ⟨v1, rfl, hI1, hb1⟩
  have HO := HO w1 hb1
  clear HM
  have hIk := hI1
  obtain ⟨A1, c1, rfl, -, hc1⟩ := hI1
  rw [hml] at hc1 hIk ⊢
  obtain ⟨g, off, rfl, hgl, hcell⟩ := hc1 (by omega)
  have q0 := hcell k _ hat
  go_wp2_with fail
  refine HO.mono ?_
  rintro e w2 ⟨rfl, hb2⟩
  have hb2' := hb1.trans (hb2.mono hb1.size)
  have HR := HR w2 hb2'
  clear HO hcell hc1
  go_wp2_with fail
  refine HR.mono ?_
  rintro e w3 ⟨v3, rfl, hI3, hb3⟩
  have hb3' := hb2'.trans (hb3.mono hb2'.size)
  have h13 := hb2.trans (hb3.mono hb2.size)
  have HE := rsame7_any w3 _ v3 _ _ ((hIk.below h13).more h13.size) hI3
  rw [decide_eq_true rfl] at HE
  have q1 := (h13.cell (p := ⟨g, off + k, none⟩) hgl).trans q0
  obtain ⟨A3, c3, rfl, -, -⟩ := hI3
  rw [hml] at HE
  have hgl3 : g < w3.heap.size := by have := h13.size; omega
  have hxx : ((x : Int) == (x : Int)) = true := by simp
  clear HR hIk q0 hat
  go_wp2_with fail
  refine HE.mono ?_
  rintro e w4 ⟨rfl, hb4⟩
  have hb4' := hb3'.trans (hb4.mono hb3'.size)
  have q2 := (hb4.cell (p := ⟨g, off + k, none⟩) hgl3).trans q1
  clear HE q1
  go_wp2_with fail
  refine (HK _).mono ?_
  rintro e w5 ⟨rfl, hb5⟩
  clear HK
  go_wp2
  go_ret
  exact ⟨rfl, hb4'.trans (hb5.mono hb4'.size)⟩
end Go.Proofs.Ytfamdckaljniiaa
