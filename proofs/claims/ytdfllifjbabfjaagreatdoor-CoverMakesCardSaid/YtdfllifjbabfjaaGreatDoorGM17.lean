/- The document's own answers of layer 4: Bit, Covered, Marked, size, Same. -/
import Derived.Test.YtdfllifjbabfjaaGreatDoorGM16
import Derived.Test.YtdfllifjbabfjaaGreatDoorGM12
import Derived.Test.YtdfllifjbabfjaaGreatDoorGM14
namespace Go.Proofs.YtdfllifjbabfjaaGreatDoor
open Go.RowKit Go.Joins

theorem bit8_any (x : BitVec 8) (i : Nat) (hi : i < 8) (w : World) :
    Calls Tryz.prog 29 #[bvv x, .int .i64 i] w fun e w' => e = .returned (.bool (x.getLsbD i)) ∧ w = w' := by
  have HB := fun w => bit_any x.toNat i (by omega) hi w
  have hm := bit_mod x i
  have hw : wrap64 (x.toNat : Int) = x.toNat := by unfold wrap64; omega
  unfold bvv
  cases hb : x.getLsbD i
  · rw [hm, hb] at HB
    clear hm
    go_enter Tryz.func29, Tryz.ntmps29
    go_wp2_with (go_at_call 63; refine (HB _).mono ?_; rintro e w' ⟨rfl, rfl⟩)
    go_ret
    exact ⟨rfl, rfl⟩
  · rw [hm, hb] at HB
    clear hm
    go_enter Tryz.func29, Tryz.ntmps29
    go_wp2_with (go_at_call 63; refine (HB _).mono ?_; rintro e w' ⟨rfl, rfl⟩)
    go_ret
    exact ⟨rfl, rfl⟩
theorem covB_step {rs : List Rw} {k : Nat} {x : Rw} (h : rs[k]? = some x) (p out : Nat) (hn : covB (rs.take k) p out = false) (hx : (x.o.getLsbD out && fits x.m x.v 8 p) = false) : covB (rs.take (k + 1)) p out = false := by
  unfold covB at *
  rw [any_append_one _ rs k x h, hn, hx]; rfl
theorem covB_yes {rs : List Rw} {k : Nat} {x : Rw} (h : rs[k]? = some x) (p out : Nat) (hx : (x.o.getLsbD out && fits x.m x.v 8 p) = true) : covB rs p out = true := by
  unfold covB
  rw [List.any_eq_true]
  exact ⟨x, List.mem_of_getElem? h, hx⟩
set_option maxHeartbeats 2000000 in
set_option maxRecDepth 100000 in
theorem covered_any (L : Value) (rs : List Rw) (p out : Nat) (hp : p < 256) (ho : out < 8) (w : World) (hL : RwsAt w w.heap.size L rs) :
    Calls Tryz.prog 49 #[L, .int .i64 p, .int .i64 out] w fun e w' => e = .returned (.bool (covB rs p out)) ∧ Below w.heap.size w w' := by
  have hst := Lib.hid (fun (j : Nat) (x : Rw) (h : rs[j]? = some x) => covB_step h p out)
  have hye := Lib.hid (fun (j : Nat) (x : Rw) (h : rs[j]? = some x) => covB_yes h p out)
  have hen : Hid (covB (rs.take rs.length) p out = covB rs p out) := Lib.hid (by rw [List.take_length])
  have hz : covB (rs.take 0) p out = false := by simp [covB]
  generalize covB rs p out = R at *
  obtain ⟨A, c, rfl, hlen, hA⟩ := hL
  go_enter Tryz.func49, Tryz.ntmps49
  go_wp2
  go_loopw [7] (fun t wr => ∃ j : Nat, j ≤ rs.length ∧ t = .int .i64 j ∧ Hid (covB (rs.take j) p out = false) ∧ Below w.heap.size w wr) (fun t _ => rs.length - (intOf t).toNat)
  case atStart => exact ⟨0, by omega, rfl, Lib.hid hz, Below.refl _ _⟩
  case round =>
    obtain ⟨j, hj, rfl, hH, hb⟩ := hrel
    by_cases hlt : j < rs.length
    · obtain ⟨b, off, rfl, hBb, hc⟩ := hA (by omega)
      obtain ⟨x, hx⟩ : ∃ x, rs[j]? = some x := ⟨_, List.getElem?_eq_getElem hlt⟩
      obtain ⟨c0, c1, c2⟩ := hc j x hx
      have d0 := (hb.cell (p := ⟨b, off + j * 3, none⟩) hBb).trans c0
      have d1 := (hb.cell (p := ⟨b, off + j * 3 + 1, none⟩) hBb).trans c1
      have d2 := (hb.cell (p := ⟨b, off + j * 3 + 2, none⟩) hBb).trans c2
      have HB := fun w => bit8_any x.o out ho w
      have HH := fun w => rhas_any x.m x.v p hp w
      have h1 := Lib.hid (hst.out j x hx hH.out)
      have h2 := Lib.hid (hye.out j x hx)
      unfold cv bvv at *
      clear hc c0 c1 c2 hA hx hst hye hen hz
      cases hbit : x.o.getLsbD out
      · rw [hbit] at HB h1
        clear hbit
        go_wp2_with (go_at_call 29; refine (HB _).mono ?_; rintro e w' ⟨rfl, rfl⟩)
        go_roundw
        case rel => exact ⟨j + 1, by omega, by go_num, Lib.hid (h1.out rfl), hb⟩
        case measure => simp [intOf]; omega
      · rw [hbit] at HB h1 h2
        clear hbit
        cases hf : fits x.m x.v 8 p
        · rw [hf] at HH h1
          clear hf
          go_wp2_with (go_at_call 29; refine (HB _).mono ?_; rintro e w' ⟨rfl, rfl⟩)
          refine (HH _).mono ?_
          rintro e w1 ⟨rfl, hb1⟩
          have hB1 := hb.trans (hb1.mono hb.size)
          clear hb1 HH HB
          go_wp2
          go_roundw
          case rel => exact ⟨j + 1, by omega, by go_num, Lib.hid (h1.out rfl), hB1⟩
          case measure => simp [intOf]; omega
        · rw [hf] at HH h2
          clear hf
          have hR := Lib.hid (h2.out rfl)
          go_wp2_with (go_at_call 29; refine (HB _).mono ?_; rintro e w' ⟨rfl, rfl⟩)
          refine (HH _).mono ?_
          rintro e w1 ⟨rfl, hb1⟩
          have hB1 := hb.trans (hb1.mono hb.size)
          clear hb1 HH HB
          go_wp2
          go_ret
          exact ⟨by rw [hR.out]; rfl, hB1⟩
    · have e : j = rs.length := by omega
      have hR := Lib.hid (by rw [← hen.out, ← e]; exact hH.out : R = false)
      clear hA hst hye hen hz
      go_wp2
      go_ret
      exact ⟨by rw [hR.out]; rfl, hb⟩
theorem markB_step {ls : List Ln} {k : Nat} {l : Ln} (h : ls[k]? = some l) (p out : Nat) (x : Int) (hn : markB (ls.take k) p out x = false) (hx : (decide (l.o.getD out 9 = x) && fits l.m l.v 8 p) = false) : markB (ls.take (k + 1)) p out x = false := by
  unfold markB at *
  rw [any_append_one _ ls k l h, hn, hx]; rfl
theorem markB_yes {ls : List Ln} {k : Nat} {l : Ln} (h : ls[k]? = some l) (p out : Nat) (x : Int) (hx : (decide (l.o.getD out 9 = x) && fits l.m l.v 8 p) = true) : markB ls p out x = true := by
  unfold markB
  rw [List.any_eq_true]
  exact ⟨l, List.mem_of_getElem? h, hx⟩
theorem pts_low (n : Nat) (hn : n ≤ 8) : (pts (bvOf fun p => decide (p < 2 ^ n))).length = 2 ^ n := by
  have h : ∀ k, k ≤ 8 → (pts (bvOf fun p => decide (p < 2 ^ k))).length = 2 ^ k := by decide +kernel
  exact h n hn
set_option maxHeartbeats 1000000 in
set_option maxRecDepth 100000 in
theorem size_any4 (n : Nat) (hn : n ≤ 8) (w : World) :
    Calls Tryz.prog 48 #[.int .i64 n] w fun e w' => e = .returned (.int .i64 (2 ^ n : Nat)) ∧ Below w.heap.size w w' := by
  have HA := fun w => refall_any n hn w
  have hl := Lib.hid (pts_low n hn)
  go_enter Tryz.func48, Tryz.ntmps48
  go_wp2_with fail
  refine (HA _).mono ?_
  rintro e w1 ⟨b, rfl, hb0, hb1, hc, hB1⟩
  have HS := refset_any (fun p => decide (p < 2 ^ n)) b 256 w1 hb1 hc
  generalize (bvOf fun p => decide (p < 2 ^ n)) = S at *
  clear HA hc
  have HL := fun w => reflist_any S w
  unfold sv wv at *
  go_wp2_with fail
  refine HS.mono ?_
  rintro e w2 ⟨rfl, hB2⟩
  clear HS
  go_wp2_with fail
  refine (HL _).mono ?_
  rintro e w3 ⟨v, rfl, hown, hB3⟩
  have hf : ∃ A c, v = .slice A (pts S).length c := by
    rcases hown.2 with ⟨hv, h0⟩ | ⟨g, cap, cur, hv, _⟩
    · exact ⟨none, 0, by rw [hv, h0]⟩
    · exact ⟨_, _, hv⟩
  obtain ⟨A, c, rfl⟩ := hf
  clear HL hown
  rw [hl.out]
  go_wp2
  go_ret
  exact ⟨rfl, (hB1.trans (hB2.mono hB1.size)).trans (hB3.mono (hB1.trans (hB2.mono hB1.size)).size)⟩
end Go.Proofs.YtdfllifjbabfjaaGreatDoor
