/- What the document's Text and Parse of layer 2 come to. -/
import Derived.Test.YtmackldgkofedaaRef02d
namespace Go.Proofs.Ytmackldgkofedaa
open Go.RowKit Go.Joins

theorem lit_cases (m v : BitVec 8) (i : Nat) : lit m v i = 0 ∨ lit m v i = 1 ∨ lit m v i = 2 := by
  have := lit_le m v i
  omega
theorem str_snoc (l : List UInt8) (c : UInt8) : str l ++ ⟨#[c]⟩ = str (l ++ [c]) := ByteArray.mk_append_mk l [c]
theorem str_size (l : List UInt8) : (str l).size = l.length := by simp [str, ByteArray.size]
set_option maxHeartbeats 1000000 in
set_option maxRecDepth 1000000 in
theorem rtext_any (m v : BitVec 8) (n : Nat) (hn : n ≤ 8) (w : World) :
    Calls Try.prog 12 #[cv m v, .int .i64 n] w fun e w' => e = .returned (.string (str (txtL m v n))) ∧ Below w.heap.size w w' := by
  have HL := fun w => lits_any m v w
  unfold cv bvv at *
  go_enter Try.func12, Try.ntmps12
  go_wp2_with fail
  refine (HL _).mono ?_
  rintro e w1 ⟨b, cap, rfl, hlo, hl, hb1⟩
  have hB : Below w.heap.size w w1 := (below_alloc1 w _).trans (hb1.mono (by simp))
  clear hb1 HL hlo
  go_wp2
  go_loopw [5, 7] (fun s i wr => ∃ k : Nat, k ≤ n ∧ i = .int .i64 k ∧ s = .string (str (txtL m v k)) ∧ LitsAt m v b wr ∧ Below w.heap.size w wr) (fun _ i _ => n - (intOf i).toNat)
  case atStart => exact ⟨0, by omega, rfl, rfl, hl, hB⟩
  case round =>
    clear hl hB
    obtain ⟨k, hk, rfl, rfl, hl, hB⟩ := hrel
    by_cases hlt : k < n
    · have hck : ∀ o, (wr.alloc o).cell? ⟨b, k, none⟩ = some (.int .i64 ((lit m v k : Nat) : Int)) := fun o =>
        After.cell ⟨wr.alloc o, (Below.refl _ _).alloc (Nat.le_refl _) _⟩ (hl.2 k (by omega))
      have hsc := Lib.hid (txtL_succ m v k)
      have hlen := txtL_len m v k
      rcases lit_cases m v k with h | h | h
      all_goals
        have hz : (str (txtL m v k)).size ≤ 8 := by rw [str_size]; omega
        rw [h] at hck hsc
        clear h hlen
        go_wp2
        go_roundw
        case rel => exact ⟨k + 1, by omega, by go_num, by rw [hsc.out, ← str_snoc]; rfl, hl.keep ((Below.refl _ _).alloc (Nat.le_refl _) _), hB.alloc hB.size _⟩
        case measure => simp [intOf]; omega
    · have e : k = n := by omega
      subst e
      go_wp2
      go_ret
      exact ⟨rfl, hB⟩
def gV (s : ByteArray) (k : Nat) : List Value := (List.range k).map fun i => Value.int .i64 (gS s i : Nat)
theorem gV_succ (s : ByteArray) (k : Nat) : gV s (k + 1) = gV s k ++ [.int .i64 (gS s k : Nat)] := by
  unfold gV; rw [List.range_succ, List.map_append]; rfl
theorem gS_le (s : ByteArray) (k : Nat) : gS s k ≤ 2 := by
  unfold gS litOf; split
  · omega
  · split <;> omega
theorem rparse_long (s : ByteArray) (h : 8 < s.size) (hs : s.size ≤ maxLen) (w : World) :
    Calls Try.prog 14 #[.string s] w fun e w' => e = .returned (.tuple #[cv (pM s) (pV s), .bool (okT s)]) ∧ Below w.heap.size w w' := by
  have e1 : pM s = 0 := by unfold pM; rw [okT_long h]; rfl
  have e2 : pV s = 0 := by unfold pV; rw [okT_long h]; rfl
  rw [e1, e2, okT_long h]
  clear e1 e2
  unfold maxLen at hs
  unfold cv bvv
  go_enter Try.func14, Try.ntmps14
  go_wp2
  exact bodyPost_ret (v := .tuple #[.agg #[.int .u8 0, .int .u8 0], .bool false]) (by simp [results, Try.results14, go_sem]) rfl
    ⟨rfl, below_alloc1 w _⟩
set_option maxHeartbeats 1000000 in
set_option maxRecDepth 1000000 in
theorem rparse_short (s : ByteArray) (h : s.size ≤ 8) (w : World) :
    Calls Try.prog 14 #[.string s] w fun e w' => e = .returned (.tuple #[cv (pM s) (pV s), .bool (okT s)]) ∧ Below w.heap.size w w' := by
  obtain ⟨i0, hi, hz0, hz1, hz2⟩ := info_parts Try.infoInt
  unfold cv bvv
  have h8 := Lib.hid h
  go_enter Try.func14, Try.ntmps14
  go_wp2
  go_loopw [4, 5] (fun r i wr => ∃ k : Nat, k ≤ s.size ∧ i = .int .i64 k ∧ wr.ownsRow (w.heap.size + 1) 3 1 r k (gV s k) ∧ wr.heap[w.heap.size]? = some cb0 ∧ Below w.heap.size w wr ∧ okTo s k) (fun _ i _ => s.size - (intOf i).toNat)
  case atStart => exact ⟨0, by omega, rfl, World.ownsRow_nil _ _ _ _, heap_alloc_new _ _, below_alloc1 _ _, fun i _ hi => by omega⟩
  case round =>
    obtain ⟨k, hk, rfl, hown, hres, hb, hok⟩ := hrel
    by_cases hlt : k < s.size
    · have hsucc := Lib.hid (gV_succ s k)
      have hz := size_of_block hres
      by_cases c0 : s[k] = 48
      · have hg : Hid (gS s k = 0) := Lib.hid (by rw [gS_at s k hlt, c0]; rfl)
        have hok2 : Hid (okTo s (k + 1)) := Lib.hid fun i hi h2 => by
          by_cases e : i = k
          · subst e; rw [c0]; rfl
          · exact hok i hi (by omega)
        have hc : s[k].toNat = 48 := by rw [c0]; rfl
        clear c0 hok
        go_wp2_with (at_builtin; go_loud (refine wpList_append_own _ rfl _ _ 53 rfl (w.heap.size + 1) 3 i0 (.int .i64 0) 1 8 Try.underlying53 hi hz0 hz1 hz2 rfl (by decide) _ _ _ rfl (hown.alloc _) ⟨wr.heap.size, 0, none⟩ 1 1 [.int .i64 0] rfl rfl ?c1 ?c2 ?c3 ?c4 ?c5 ?_))
        case c1 => exact cell_one_new _ _ _
        case c2 => intro u hu; simp at hu; subst hu; rfl
        case c3 => unfold maxLen; omega
        case c4 => omega
        case c5 => simp; omega
        intro v' w2 hown2 hgrow _
        have hR : w2.heap[w.heap.size]? = some cb0 ∧ Below w.heap.size w w2 :=
          ⟨((grown_low hown hgrow _ (by omega) (by simp; omega)).trans (Below.heap_alloc _ _ _ (by omega))).trans hres, grown_below hown hgrow (hb.alloc (by omega) _) (by omega) (by simp; omega)⟩
        clear hgrow hown hres hb
        go_wp2
        go_roundw
        case rel => exact ⟨k + 1, by omega, by go_num, by rw [hsucc.out, hg.out]; exact hown2, hR.1, hR.2, hok2.out⟩
        case measure => simp [intOf]; omega
      · by_cases c1 : s[k] = 49
        · have hg : Hid (gS s k = 1) := Lib.hid (by rw [gS_at s k hlt, c1]; rfl)
          have hok2 : Hid (okTo s (k + 1)) := Lib.hid fun i hi h2 => by
            by_cases e : i = k
            · subst e; rw [c1]; rfl
            · exact hok i hi (by omega)
          have hc : s[k].toNat = 49 := by rw [c1]; rfl
          clear c0 c1 hok
          go_wp2_with (at_builtin; go_loud (refine wpList_append_own _ rfl _ _ 53 rfl (w.heap.size + 1) 3 i0 (.int .i64 0) 1 8 Try.underlying53 hi hz0 hz1 hz2 rfl (by decide) _ _ _ rfl (hown.alloc _) ⟨wr.heap.size, 0, none⟩ 1 1 [.int .i64 1] rfl rfl ?c1 ?c2 ?c3 ?c4 ?c5 ?_))
          case c1 => exact cell_one_new _ _ _
          case c2 => intro u hu; simp at hu; subst hu; rfl
          case c3 => unfold maxLen; omega
          case c4 => omega
          case c5 => simp; omega
          intro v' w2 hown2 hgrow _
          have hR : w2.heap[w.heap.size]? = some cb0 ∧ Below w.heap.size w w2 :=
            ⟨((grown_low hown hgrow _ (by omega) (by simp; omega)).trans (Below.heap_alloc _ _ _ (by omega))).trans hres, grown_below hown hgrow (hb.alloc (by omega) _) (by omega) (by simp; omega)⟩
          clear hgrow hown hres hb
          go_wp2
          go_roundw
          case rel => exact ⟨k + 1, by omega, by go_num, by rw [hsucc.out, hg.out]; exact hown2, hR.1, hR.2, hok2.out⟩
          case measure => simp [intOf]; omega
        · by_cases c2 : s[k] = 45
          · have hg : Hid (gS s k = 2) := Lib.hid (by rw [gS_at s k hlt, c2]; rfl)
            have hok2 : Hid (okTo s (k + 1)) := Lib.hid fun i hi h2 => by
              by_cases e : i = k
              · subst e; rw [c2]; rfl
              · exact hok i hi (by omega)
            have hc : s[k].toNat = 45 := by rw [c2]; rfl
            clear c0 c1 c2 hok
            go_wp2_with (at_builtin; go_loud (refine wpList_append_own _ rfl _ _ 53 rfl (w.heap.size + 1) 3 i0 (.int .i64 0) 1 8 Try.underlying53 hi hz0 hz1 hz2 rfl (by decide) _ _ _ rfl (hown.alloc _) ⟨wr.heap.size, 0, none⟩ 1 1 [.int .i64 2] rfl rfl ?c1 ?c2 ?c3 ?c4 ?c5 ?_))
            case c1 => exact cell_one_new _ _ _
            case c2 => intro u hu; simp at hu; subst hu; rfl
            case c3 => unfold maxLen; omega
            case c4 => omega
            case c5 => simp; omega
            intro v' w2 hown2 hgrow _
            have hR : w2.heap[w.heap.size]? = some cb0 ∧ Below w.heap.size w w2 :=
              ⟨((grown_low hown hgrow _ (by omega) (by simp; omega)).trans (Below.heap_alloc _ _ _ (by omega))).trans hres, grown_below hown hgrow (hb.alloc (by omega) _) (by omega) (by simp; omega)⟩
            clear hgrow hown hres hb
            go_wp2
            go_roundw
            case rel => exact ⟨k + 1, by omega, by go_num, by rw [hsucc.out, hg.out]; exact hown2, hR.1, hR.2, hok2.out⟩
            case measure => simp [intOf]; omega
          · have hbad : okC s[k] = false := by unfold okC; simp [c0, c1, c2]
            have hbad2 := Lib.hid (okT_bad hlt hbad)
            have q0 : ((s[k].toNat : Int) == 48) = false := by rw [beq_eq_false_iff_ne]; exact fun e => c0 (UInt8.toNat_inj.1 (by exact_mod_cast e))
            have q1 : ((s[k].toNat : Int) == 49) = false := by rw [beq_eq_false_iff_ne]; exact fun e => c1 (UInt8.toNat_inj.1 (by exact_mod_cast e))
            have q2 : ((s[k].toNat : Int) == 45) = false := by rw [beq_eq_false_iff_ne]; exact fun e => c2 (UInt8.toNat_inj.1 (by exact_mod_cast e))
            obtain ⟨d0, d1, df⟩ := now2 hres rfl
            clear c0 c1 c2 hbad hok hown hres hsucc
            go_wp2
            exact bodyPost_ret (v := .tuple #[.agg #[.int .u8 0, .int .u8 0], .bool false]) (by simp [results, Try.results14, go_sem, d0, d1]) rfl
              ⟨by unfold pM pV; rw [hbad2.out]; rfl, below2 (Nat.le_refl _) hb⟩
    · have e : k = s.size := by omega
      subst e
      have hok2 := Lib.hid (okT_yes h8.out hok)
      have HC : ∃ ad cap, u4 = Value.slice ad s.size cap ∧ Calls Try.prog 26 #[.slice ad s.size cap] wr fun e w' => e = .returned (cv (mB (gS s) s.size) (vB (gS s) s.size)) ∧ Below wr.heap.size wr w' := by
        rcases ownsRow_forms hown with ⟨rfl, h0⟩ | ⟨g, cap, rfl⟩
        · refine ⟨none, 0, by rw [h0], rcube_any (gS s) s.size h8.out (fun i _ => gS_le s i) none 0 wr (fun i hi => by omega)⟩
        · refine ⟨some ⟨g, 0, none⟩, cap, rfl, rcube_any (gS s) s.size h8.out (fun i _ => gS_le s i) _ cap wr (fun i hi => ⟨g, rfl, ?_⟩)⟩
          rw [hown.cellAt i (by omega)]
          simp [gV, hi]
      obtain ⟨ad, cap, rfl, HC⟩ := HC
      unfold cv bvv at HC
      clear hok hown
      go_wp2_with fail
      refine HC.mono ?_
      rintro e w2 ⟨rfl, hb2⟩
      have hB2 := hb.trans (hb2.mono hb.size)
      obtain ⟨d0, d1, df⟩ := now2 (keep_blk hb2 hres) rfl
      clear HC hb2 hres hb
      go_wp2
      exact bodyPost_ret (v := .tuple #[.agg #[.int .u8 (mB (gS s) s.size).toNat, .int .u8 (vB (gS s) s.size).toNat], .bool true]) (by simp [results, Try.results14, go_sem, d0, d1]) rfl
        ⟨by unfold pM pV; rw [hok2.out]; rfl, below2 (Nat.le_refl _) hB2⟩
theorem rparse_any (s : ByteArray) (hs : s.size ≤ maxLen) (w : World) :
    Calls Try.prog 14 #[.string s] w fun e w' => e = .returned (.tuple #[cv (pM s) (pV s), .bool (okT s)]) ∧ Below w.heap.size w w' := by
  by_cases h : s.size ≤ 8
  · exact rparse_short s h w
  · exact rparse_long s (by omega) hs w
end Go.Proofs.Ytmackldgkofedaa
