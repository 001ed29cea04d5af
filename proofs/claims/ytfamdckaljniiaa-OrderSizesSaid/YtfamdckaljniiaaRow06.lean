/- The document's rows, as texts of 0 and 1: turns and row. -/
import Derived.Test.YtfamdckaljniiaaRef06
namespace Go.Proofs.Ytfamdckaljniiaa
open Go.RowKit Go.Joins

def rb (b : Bool) : UInt8 := if b then 49 else 48
/-- A row as a text. -/
def rs (r : List Bool) : ByteArray := ⟨(r.map rb).toArray⟩
theorem rs_size (r : List Bool) : (rs r).size = r.length := by simp [rs, ByteArray.size]
theorem rs_get {r : List Bool} {i : Nat} {b : Bool} (h : r[i]? = some b) (hi : i < (rs r).size) : (rs r)[i] = rb b := by
  obtain ⟨hl, e⟩ := List.getElem?_eq_some_iff.1 h
  have h2 : (rs r).data.toList = r.map rb := by simp [rs]
  have h3 : (rs r)[i] = (rs r).data.toList[i]'(by simpa using hi) := by simp; rfl
  rw [h3]
  simp [h2, e]
theorem rs_app (r : List Bool) (b : Bool) : rs r ++ ⟨#[rb b]⟩ = rs (r ++ [b]) := by
  apply ByteArray.ext
  simp [rs]
theorem rb_inj {a b : Bool} (h : rb a = rb b) : a = b := by cases a <;> cases b <;> first | rfl | cases h
theorem turns_skip {r : List Bool} {i : Nat} {x y : Bool} (hx : r[i]? = some x) (hy : r[i + 1]? = some y) : turnsB (r.drop i) = ((x != y) || turnsB (r.drop (i + 2))) := by
  have e1 : r.drop i = x :: y :: r.drop (i + 2) := by
    obtain ⟨h1, e1⟩ := List.getElem?_eq_some_iff.1 hx
    obtain ⟨h2, e2⟩ := List.getElem?_eq_some_iff.1 hy
    rw [List.drop_eq_getElem_cons h1, List.drop_eq_getElem_cons h2, e1, e2]
  rw [e1]; rfl
theorem turns_end {r : List Bool} {i : Nat} (h : r.length ≤ i + 1) : turnsB (r.drop i) = false := by
  have : (r.drop i).length ≤ 1 := by simp; omega
  match hr : r.drop i, this with
  | [], _ => rfl
  | [_], _ => rfl
theorem turns_any (r : List Bool) (hr : r.length ≤ 256) (w : World) :
    Calls Try.prog 39 #[.string (rs r)] w fun e w' => e = .returned (.bool (turnsB r)) ∧ Below w.heap.size w w' := by
  have hz := rs_size r
  go_enter Try.func39, Try.ntmps39
  go_wp2
  go_loopw [3] (fun t wr => ∃ i : Nat, i ≤ r.length + 1 ∧ t = .int .i64 i ∧ Hid (turnsB r = turnsB (r.drop i)) ∧ Below w.heap.size w wr) (fun t _ => r.length + 1 - (intOf t).toNat)
  case atStart => exact ⟨0, by omega, rfl, Lib.hid (by simp), Below.refl _ _⟩
  case round =>
    obtain ⟨i, hi, rfl, hT, hb⟩ := hrel
    by_cases hlt : i + 1 < r.length
    · obtain ⟨x, hx⟩ : ∃ x, r[i]? = some x := ⟨_, List.getElem?_eq_getElem (by omega)⟩
      obtain ⟨y, hy⟩ : ∃ y, r[i + 1]? = some y := ⟨_, List.getElem?_eq_getElem hlt⟩
      have h0 : i < (rs r).size := by omega
      have h1 : i + 1 < (rs r).size := by omega
      have q0 := rs_get hx h0
      have q1 := rs_get hy h1
      have hs := Lib.hid (turns_skip hx hy)
      have hzz : ((rs r).size : Int) = r.length := by rw [hz]
      go_wp2
      go_quiet (fail)
      by_cases hxy : x = y
      · have hb1 : (((rb x).toNat : Int) != ((rb y).toNat : Int)) = false := by simp [hxy]
        have hT' : Hid (turnsB r = turnsB (r.drop (i + 2))) := Lib.hid (by rw [hT.out, hs.out, hxy]; simp)
        clear hx hy q0 q1 hs hxy
        go_wp2
        go_roundw
        case rel => exact ⟨i + 2, by omega, by go_num, hT', hb.trans ((below_drews (Below.refl _ _) _).mono hb.size)⟩
        case measure => simp [intOf]; omega
      · have hb1 : (((rb x).toNat : Int) != ((rb y).toNat : Int)) = true := by
          cases x <;> cases y <;> first | exact absurd rfl hxy | decide
        have hR : Hid (turnsB r = true) := Lib.hid (by rw [hT.out, hs.out]; simp [hxy])
        clear hx hy q0 q1 hs hxy
        go_wp2
        go_ret
        exact ⟨by rw [hR.out]; rfl, hb.trans ((below_drews (Below.refl _ _) _).mono hb.size)⟩
    · have hR : Hid (turnsB r = false) := Lib.hid (by rw [hT.out]; exact turns_end (by omega))
      have hzz : ((rs r).size : Int) = r.length := by rw [hz]
      go_wp2
      go_ret
      exact ⟨by rw [hR.out]; rfl, hb⟩
theorem ptK_succ {o : List Nat} {k i : Nat} (c : Nat → Bool) (h : o[k]? = some i) : ptK o (k + 1) c = ptK o k c + if c k then 2 ^ i else 0 := by
  have hl := (List.getElem?_eq_some_iff.1 h).1
  have hlen : (o.take k).length = k := by simp; omega
  unfold ptK
  rw [List.take_add_one, h, ptOf_append, hlen]
  simp [ptOf]
theorem row_succ (G : Nat → Bool) (u : Nat) : (List.range (u + 1)).map G = (List.range u).map G ++ [G u] := by rw [List.range_succ, List.map_append]; rfl
set_option maxHeartbeats 2000000 in
set_option maxRecDepth 100000 in
theorem row6_any (X : BitVec 256) {o : List Nat} (ho : OrdOk o) (h8 : o.length ≤ 8) (b cap : Nat) (ov : Value) (pl ah : Nat) (hpl : pl ≤ o.length) (hah : ah < 2 ^ pl) (w : World) (hbw : b < w.heap.size) (hcell : ∀ p, p < 256 → w.cell? ⟨b, p, none⟩ = some (.bool (X.getLsbD p))) (hz : IntsAt w w.heap.size ov (ofN o)) :
    Calls Try.prog 38 #[.slice (some ⟨b, 0, none⟩) 256 cap, ov, .int .i64 pl, .int .i64 ah] w fun e w' => e = .returned (.string (rs (rowB (setF o X) o.length pl ah))) ∧ Below w.heap.size w w' := by
  have ha256 : ah < 256 := Nat.lt_of_lt_of_le hah (two_eight (by omega))
  obtain ⟨A, c, rfl, hzl, hc⟩ := hz
  rw [ofN_len] at hzl hc ⊢
  obtain ⟨m, hm⟩ : ∃ m, m + pl = o.length := ⟨o.length - pl, by omega⟩
  have hmI : (o.length : Int) - (pl : Int) = (m : Int) := by omega
  have hM := two_eight (n := m) (by omega)
  have hrow : Hid (rowB (setF o X) o.length pl ah = (List.range (2 ^ m)).map fun u => setF o X (joinB pl ah u)) := Lib.hid (by unfold rowB; rw [show o.length - pl = m by omega])
  go_enter Try.func38, Try.ntmps38
  go_wp2
  go_loopw [11, 12] (fun a t wr => ∃ (i q : Nat), i ≤ m ∧ q = 2 ^ i ∧ q ≤ 256 ∧ t = .int .i64 i ∧ a = .int .i64 q ∧ Below w.heap.size w wr) (fun _ t _ => m - (intOf t).toNat)
  case atStart => exact ⟨0, 1, by omega, rfl, by decide, rfl, rfl, Below.refl _ _⟩
  case round =>
    obtain ⟨i, q, hi, hq, hq8, rfl, rfl, hb⟩ := hrel
    by_cases him : i < m
    · have hq' := two_eight (n := i + 1) (by omega)
      have hq2 : Hid (q * 2 = 2 ^ (i + 1)) := Lib.hid (by rw [hq, Nat.pow_succ])
      have hq3 : q * 2 ≤ 256 := by rw [hq2.out]; exact hq'
      clear hq hq'
      go_wp2
      go_roundw
      case rel => exact ⟨i + 1, q * 2, by omega, hq2.out, hq3, by go_num, by go_num, hb⟩
      case measure => simp [intOf]; omega
    · have hqm : Hid (q = 2 ^ m) := Lib.hid (by rw [hq, show i = m by omega])
      clear hq
      go_wp2
      obtain ⟨wo, rfl⟩ : ∃ wo : World, wo = wr := ⟨_, rfl⟩
      go_loopw [10, 13, 14, 15, 16, 17, 18] (fun a t _ _ _ _ _ wr => ∃ u : Nat, u ≤ q ∧ t = .int .i64 u ∧ a = .string (rs ((List.range u).map fun u => setF o X (joinB pl ah u))) ∧ Below w.heap.size w wr) (fun _ t _ _ _ _ _ _ => q - (intOf t).toNat)
      case atStart => exact ⟨0, by omega, rfl, rfl, hb⟩
      case round =>
        clear hb
        obtain ⟨u, hu, rfl, rfl, hb⟩ := hrel
        have hrz := rs_size ((List.range u).map fun u => setF o X (joinB pl ah u))
        rw [List.length_map, List.length_range] at hrz
        by_cases huq : u < q
        · have happ := Lib.hid (rs_app ((List.range u).map fun u => setF o X (joinB pl ah u)) (setF o X (joinB pl ah u)))
          rw [← row_succ] at happ
          obtain ⟨ct, hct⟩ : ∃ ct, ct = joinB pl ah u := ⟨_, rfl⟩
          rw [← hct] at happ
          have hct1 : Hid (∀ k : Nat, k < pl → ct k = ah.testBit k) := Lib.hid (fun k hk => by rw [hct]; exact joinB_low hk)
          have hct2 : Hid (∀ k : Nat, pl ≤ k → ct k = u.testBit (k - pl)) := Lib.hid (fun k hk => by rw [hct]; exact joinB_high hk)
          clear hct
          generalize hG : rs ((List.range u).map fun u => setF o X (joinB pl ah u)) = G at *
          clear hG
          have hdu : decide ((u : Int) < (q : Int)) = true := by simp; omega
          go_wp2
          obtain ⟨wo, rfl⟩ : ∃ wo : World, wo = wr := ⟨_, rfl⟩
          go_loopw [14, 15, 16, 17, 18] (fun a t _ _ _ wr => ∃ k pt : Nat, k ≤ o.length ∧ pt = ptK o k ct ∧ pt < 256 ∧ t = .int .i64 k ∧ a = .int .i64 pt ∧ Below w.heap.size w wr) (fun _ t _ _ _ _ => o.length - (intOf t).toNat)
          case atStart => exact ⟨0, 0, by omega, (ptK_zero o ct).symm, by decide, rfl, rfl, hb⟩
          case round =>
            clear hb
            obtain ⟨k, pt, hk, hpt, hpt8, rfl, rfl, hb⟩ := hrel
            by_cases hkl : k < o.length
            · obtain ⟨i, hik⟩ : ∃ i, o[k]? = some i := ⟨_, List.getElem?_eq_getElem hkl⟩
              have hi8 : i < 8 := by have := ho.lt i (List.mem_of_getElem? hik); omega
              obtain ⟨g, off, rfl, hgl, hcells⟩ := hc (by omega)
              have hck := hcells k i (by unfold ofN; simp [hik])
              have HB1 := fun w => bit_any ah k ha256 (by omega) w
              have hptH := Lib.hid hpt
              have hdk : decide ((k : Int) < (o.length : Int)) = true := by simp; omega
              by_cases hkp : k < pl
              · have hdp : decide ((pl : Int) ≤ (k : Int)) = false := by simp; omega
                obtain ⟨bv, hbe⟩ : ∃ bv : Nat, bv = ah / 2 ^ k % 2 := ⟨_, rfl⟩
                have hbv1 : bv ≤ 1 := by omega
                have hbv : Hid (bv = if ct k then 1 else 0) := Lib.hid (by rw [hbe, hct1.out k hkp, Nat.testBit_eq_decide_div_mod_eq]; rcases Nat.mod_two_eq_zero_or_one (ah / 2 ^ k) with e | e <;> simp [e])
                rw [← hbe] at HB1
                have hpt := hptH
                clear hbe hcells
                go_wp2_with (go_at_call 53; refine (HB1 _).mono ?_; rintro e w' ⟨rfl, rfl⟩)
                obtain ⟨wo, rfl⟩ : ∃ wo : World, wo = wr := ⟨_, rfl⟩
                go_loopw [17, 18] (fun a t wr => ∃ j q2 : Nat, j ≤ i ∧ q2 = 2 ^ j ∧ q2 ≤ 256 ∧ t = .int .i64 j ∧ a = .int .i64 q2 ∧ Below w.heap.size w wr) (fun _ t _ => i - (intOf t).toNat)
                case atStart => exact ⟨0, 1, by omega, rfl, by decide, rfl, rfl, hb⟩
                case round =>
                  clear hb
                  obtain ⟨j, q2, hj, hq2, hq28, rfl, rfl, hb⟩ := hrel
                  have qx := (hb.cell (p := ⟨g, off + k, none⟩) hgl).trans hck
                  by_cases hji : j < i
                  · have hq' := two_eight (n := j + 1) (by omega)
                    have hq3 : Hid (q2 * 2 = 2 ^ (j + 1)) := Lib.hid (by rw [hq2, Nat.pow_succ])
                    have hq4 : q2 * 2 ≤ 256 := by rw [hq3.out]; exact hq'
                    clear hq2 hq'
                    go_wp2
                    go_roundw
                    case rel => exact ⟨j + 1, q2 * 2, by omega, hq3.out, hq4, by go_num, by go_num, hb⟩
                    case measure => simp [intOf]; omega
                  · have hnx : Hid (pt + bv * q2 = ptK o (k + 1) ct ∧ pt + bv * q2 < 256) := Lib.hid (by
                      have e : pt + bv * q2 = ptK o (k + 1) ct := by
                        rw [ptK_succ ct hik, ← hpt.out, hq2, show j = i by omega, hbv.out]
                        split <;> simp
                      exact ⟨e, by rw [e]; exact Nat.lt_of_lt_of_le (ptK_lt ho (k + 1) ct) (two_eight h8)⟩)
                    have hbq : bv * q2 ≤ 256 := by
                      have h1 : bv = 0 ∨ bv = 1 := by omega
                      rcases h1 with e | e
                      · rw [e]; omega
                      · rw [e]; omega
                    have hcast : ((bv : Int) * (q2 : Int)) = ((bv * q2 : Nat) : Int) := by simp
                    generalize hbp : bv * q2 = bp at *
                    clear hq2 hbp
                    go_wp2
                    go_roundw
                    case rel => exact ⟨k + 1, pt + bp, by omega, hnx.out.1, hnx.out.2, by go_num, by go_num, hb⟩
                    case measure => simp [intOf]; omega
              · have hdp : decide ((pl : Int) ≤ (k : Int)) = true := by simp; omega
                have HB2 := fun w => bit_any u (k - pl) (by omega) (by omega) w
                have hkpI : (k : Int) - (pl : Int) = ((k - pl : Nat) : Int) := by omega
                obtain ⟨bv, hbe⟩ : ∃ bv : Nat, bv = u / 2 ^ (k - pl) % 2 := ⟨_, rfl⟩
                obtain ⟨bw, hbw'⟩ : ∃ bw : Nat, bw = ah / 2 ^ k % 2 := ⟨_, rfl⟩
                have hbv1 : bv ≤ 1 := by omega
                have hbv : Hid (bv = if ct k then 1 else 0) := Lib.hid (by rw [hbe, hct2.out k (by omega), Nat.testBit_eq_decide_div_mod_eq]; rcases Nat.mod_two_eq_zero_or_one (u / 2 ^ (k - pl)) with e | e <;> simp [e])
                rw [← hbe] at HB2
                rw [← hbw'] at HB1
                have hpt := hptH
                clear hbe hbw' hcells
                go_wp2_with (first | (go_at_call_of 53 (Value.int IntKind.i64 ah); refine (HB1 _).mono ?_; rintro e w' ⟨rfl, rfl⟩) | (go_at_call_of 53 (Value.int IntKind.i64 u); refine (HB2 _).mono ?_; rintro e w' ⟨rfl, rfl⟩))
                obtain ⟨wo, rfl⟩ : ∃ wo : World, wo = wr := ⟨_, rfl⟩
                go_loopw [17, 18] (fun a t wr => ∃ j q2 : Nat, j ≤ i ∧ q2 = 2 ^ j ∧ q2 ≤ 256 ∧ t = .int .i64 j ∧ a = .int .i64 q2 ∧ Below w.heap.size w wr) (fun _ t _ => i - (intOf t).toNat)
                case atStart => exact ⟨0, 1, by omega, rfl, by decide, rfl, rfl, hb⟩
                case round =>
                  clear hb
                  obtain ⟨j, q2, hj, hq2, hq28, rfl, rfl, hb⟩ := hrel
                  have qx := (hb.cell (p := ⟨g, off + k, none⟩) hgl).trans hck
                  by_cases hji : j < i
                  · have hq' := two_eight (n := j + 1) (by omega)
                    have hq3 : Hid (q2 * 2 = 2 ^ (j + 1)) := Lib.hid (by rw [hq2, Nat.pow_succ])
                    have hq4 : q2 * 2 ≤ 256 := by rw [hq3.out]; exact hq'
                    clear hq2 hq'
                    go_wp2
                    go_roundw
                    case rel => exact ⟨j + 1, q2 * 2, by omega, hq3.out, hq4, by go_num, by go_num, hb⟩
                    case measure => simp [intOf]; omega
                  · have hnx : Hid (pt + bv * q2 = ptK o (k + 1) ct ∧ pt + bv * q2 < 256) := Lib.hid (by
                      have e : pt + bv * q2 = ptK o (k + 1) ct := by
                        rw [ptK_succ ct hik, ← hpt.out, hq2, show j = i by omega, hbv.out]
                        split <;> simp
                      exact ⟨e, by rw [e]; exact Nat.lt_of_lt_of_le (ptK_lt ho (k + 1) ct) (two_eight h8)⟩)
                    have hbq : bv * q2 ≤ 256 := by
                      have h1 : bv = 0 ∨ bv = 1 := by omega
                      rcases h1 with e | e
                      · rw [e]; omega
                      · rw [e]; omega
                    have hcast : ((bv : Int) * (q2 : Int)) = ((bv * q2 : Nat) : Int) := by simp
                    generalize hbp : bv * q2 = bp at *
                    clear hq2 hbp
                    go_wp2
                    go_roundw
                    case rel => exact ⟨k + 1, pt + bp, by omega, hnx.out.1, hnx.out.2, by go_num, by go_num, hb⟩
                    case measure => simp [intOf]; omega
            · have hS : Hid (setF o X ct = X.getLsbD pt) := Lib.hid (by unfold setF; rw [hpt]; unfold ptK; rw [List.take_of_length_le (by omega)])
              have hcp := (hb.cell (p := ⟨b, pt, none⟩) hbw).trans (hcell pt hpt8)
              rw [← hS.out] at hcp
              have hdk : decide ((k : Int) < (o.length : Int)) = false := by simp; omega
              clear hpt hS
              cases hbit : setF o X ct
              · rw [hbit] at hcp happ
                have happ' := Lib.hid (show G ++ ⟨#[48]⟩ = _ from happ.out)
                clear hbit happ
                go_wp2
                go_roundw
                case rel => exact ⟨u + 1, by omega, by go_num, by rw [← happ'.out], hb⟩
                case measure => simp [intOf]; omega
              · rw [hbit] at hcp happ
                have happ' := Lib.hid (show G ++ ⟨#[49]⟩ = _ from happ.out)
                clear hbit happ
                go_wp2
                go_roundw
                case rel => exact ⟨u + 1, by omega, by go_num, by rw [← happ'.out], hb⟩
                case measure => simp [intOf]; omega
        · have hR : Hid (rs ((List.range u).map fun u => setF o X (joinB pl ah u)) = rs (rowB (setF o X) o.length pl ah)) := Lib.hid (by rw [hrow.out, ← hqm.out, show u = q by omega])
          generalize rs ((List.range u).map fun u => setF o X (joinB pl ah u)) = G at *
          go_wp2
          go_ret
          exact ⟨by rw [← hR.out]; rfl, hb⟩
end Go.Proofs.Ytfamdckaljniiaa
