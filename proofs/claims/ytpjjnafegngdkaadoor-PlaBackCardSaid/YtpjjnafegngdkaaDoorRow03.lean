/- A line of a table is read: row of the package pla. -/
import Derived.Test.YtpjjnafegngdkaaDoorVal03
namespace Go.Proofs.YtpjjnafegngdkaaDoor
open Go.RowKit Go.Joins

/-- A line that is none: what is handed back has three cells. -/
def RowBad (w : World) (e : Ending) (w' : World) : Prop := ∃ (m v : BitVec 8) (A : Option Addr) (n c : Nat), e = .returned (.tuple #[.agg #[.int .u8 m.toNat, .int .u8 v.toNat, .slice A n c], .bool false]) ∧ Below w.heap.size w w'
/-- A line that is one. -/
def RowGood (w : World) (l : List UInt8) (I : Int) (e : Ending) (w' : World) : Prop := ∃ V, e = .returned (.tuple #[.agg #[.int .u8 (rowLn l I).m.toNat, .int .u8 (rowLn l I).v.toNat, V], .bool true]) ∧ w'.ownsRow w.heap.size 3 1 V (rowLn l I).o.length (intsI (rowLn l I).o) ∧ Below w.heap.size w w'
theorem own_form {w : World} {base size n : Nat} {e : TypeId} {v : Value} {xs : List Value} (h : w.ownsRow base e size v n xs) : ∃ A c, v = .slice A n c := by
  rcases h.2 with ⟨hv, h0⟩ | ⟨g, cap, cur, hv, _⟩
  · exact ⟨none, 0, by rw [hv, h0]⟩
  · exact ⟨_, _, hv⟩
theorem own_more {w : World} {base base' size n : Nat} {e : TypeId} {v : Value} {xs : List Value} (h : w.ownsRow base e size v n xs) (hb : base' ≤ base) : w.ownsRow base' e size v n xs := by
  refine ⟨h.1, ?_⟩
  rcases h.2 with hn | ⟨g, cap, cur, rfl, hg, rest⟩
  · exact .inl hn
  · exact .inr ⟨g, cap, cur, rfl, by omega, rest⟩
theorem own_ne {w : World} {base size n b : Nat} {e t : TypeId} {v : Value} {xs : List Value} {cs : Array Value} {fz : Nat × Nat} (h : w.ownsRow base e size v n xs) (hb : w.heap[b]? = some (.cells cs t fz)) (hne : e ≠ t) : v.ownBlock ≠ some b := by
  rcases h.2 with ⟨rfl, _⟩ | ⟨g, cap, cur, rfl, _, hg, _⟩
  · simp [Value.ownBlock]
  · intro he
    have : g = b := by simpa [Value.ownBlock] using he
    subst this
    rw [hg] at hb
    injection hb with hb
    injection hb with _ ht _
    exact hne ht
theorem own_set {w : World} {base size n b : Nat} {e : TypeId} {v : Value} {xs : List Value} (h : w.ownsRow base e size v n xs) (hne : v.ownBlock ≠ some b) (j : Nat) (u : Value) : (w.setCell ⟨b, j, none⟩ u).ownsRow base e size v n xs :=
  own_keep h (fun g hg _ _ => Below.heap_setCell _ _ _ _ (fun e => hne (by rw [hg]; exact congrArg some e)))
theorem Tryd.neIL : 3 ≠ 39 := by decide
set_option maxHeartbeats 2000000 in
set_option maxRecDepth 1000000 in
theorem row_len_no (l : List UInt8) (I N : Nat) (hi : I ≤ 8) (hn : N ≤ 4) (h : ¬ l.length = I + 1 + N) (hl : l.length ≤ 1000000) (w : World) :
    Calls Tryd.prog 61 #[.string (str l), .int .i64 I, .int .i64 N] w (RowBad w) := by
  have hs := size_str l
  have hne : (((str l).size : Int) != (I : Int) + 1 + (N : Int)) = true := by rw [bne_iff_ne, hs]; omega
  have hs2 : (str l).size ≤ 1000000 := by omega
  clear hs h
  generalize str l = s at *
  go_enter Tryd.func61, Tryd.ntmps61
  go_wp2
  exact bodyPost_ret (v := .tuple #[.agg #[.int .u8 0, .int .u8 0, .slice none 0 0], .bool false]) (by simp [results, Tryd.results61, go_sem]) rfl
    ⟨0, 0, none, 0, 0, rfl, below_alloc1 w _⟩
set_option maxHeartbeats 2000000 in
set_option maxRecDepth 1000000 in
theorem row_sep_no (l : List UInt8) (I N : Nat) (hi : I ≤ 8) (hn : N ≤ 4) (h : l.length = I + 1 + N) (hsep : ¬ (l.drop I).take 1 = [32]) (w : World) :
    Calls Tryd.prog 61 #[.string (str l), .int .i64 I, .int .i64 N] w (RowBad w) := by
  have hs := size_str l
  have hne : (((str l).size : Int) != (I : Int) + 1 + (N : Int)) = false := by rw [hs]; simp; omega
  have hx : ((str l).extract I (I + 1)).toList = (l.drop I).take 1 := by
    rw [extract_str, toList_str, show I + 1 - I = 1 by omega]
  have hx2 : ((l.drop I).take 1 == [32]) = false := by simpa using hsep
  have b1 : (I : Int) + 1 ≤ ((str l).size : Int) := by omega
  have hs2 : (str l).size ≤ 1000000 := by omega
  clear hs h hsep
  generalize str l = s at *
  generalize (l.drop I).take 1 = sp at *
  go_enter Tryd.func61, Tryd.ntmps61
  go_wp2
  exact bodyPost_ret (v := .tuple #[.agg #[.int .u8 0, .int .u8 0, .slice none 0 0], .bool false]) (by simp [results, Tryd.results61, go_sem]) rfl
    ⟨0, 0, none, 0, 0, rfl, below_alloc1 w _⟩
/-- What row goes through where the line has its length and its space. -/
theorem row_cuts (l : List UInt8) (I : Nat) : (str l).extract 0 I = str (l.take I) ∧ (str l).extract (I + 1) (str l).size = str (l.drop (I + 1)) := by
  refine ⟨by rw [extract_str]; simp, ?_⟩
  rw [extract_str, size_str]
  congr 1
  exact List.take_of_length_le (by simp)
set_option maxHeartbeats 4000000 in
set_option maxRecDepth 1000000 in
theorem row_yes (l : List UInt8) (I N : Nat) (hi : I ≤ 8) (hn : N ≤ 4) (h : rowOk l I N = true) (w : World) :
    Calls Tryd.prog 61 #[.string (str l), .int .i64 I, .int .i64 N] w (RowGood w l I) := by
  unfold rowOk at h
  simp only [Bool.and_eq_true, decide_eq_true_eq, Int.toNat_natCast] at h
  obtain ⟨⟨⟨hl, hsep⟩, hc⟩, hv⟩ := h
  have hl' : l.length = I + 1 + N := by omega
  have hs := size_str l
  have hne : (((str l).size : Int) != (I : Int) + 1 + (N : Int)) = false := by rw [hs]; simp; omega
  have hx : ((str l).extract I (I + 1)).toList = [32] := by
    rw [extract_str, toList_str, show I + 1 - I = 1 by omega, hsep]
  obtain ⟨e1, e2⟩ := row_cuts l I
  have b1 : (I : Int) + 1 ≤ ((str l).size : Int) := by omega
  have b2 : (I : Int) ≤ ((str l).size : Int) := by omega
  have hs2 : (str l).size ≤ 1000000 := by omega
  have HC := fun w => cparse_any (str (l.take I)) (by rw [size_str]; simp; unfold maxLen; omega) w
  have HV := fun w => values_yes (l.drop (I + 1)) hv (by simp; omega) w
  have hE : pE (str (l.take I)) = 0 := by unfold pE; rw [if_pos hc]
  rw [hE] at HC
  have hm : Hid ((rowLn l I).m = pM (str (l.take I))) := Lib.hid (by simp [rowLn])
  have hvv : Hid ((rowLn l I).v = pV (str (l.take I))) := Lib.hid (by simp [rowLn])
  have ho : Hid ((rowLn l I).o = (l.drop (I + 1)).map outOf) := Lib.hid (by simp [rowLn])
  unfold cv bvv at HC
  clear hs hsep hl hl' hc hv hE
  generalize pM (str (l.take I)) = M at *
  generalize pV (str (l.take I)) = V at *
  generalize (l.drop (I + 1)).map outOf = O at *
  generalize str (l.take I) = s1 at *
  generalize str (l.drop (I + 1)) = s2 at *
  generalize str l = s at *
  go_enter Tryd.func61, Tryd.ntmps61
  go_wp2_with fail
  refine (HC _).mono ?_
  rintro e wp ⟨rfl, hbp⟩
  have hr0 := keep_blk hbp (heap_alloc_new _ _)
  have hBp : Below w.heap.size w wp := (below_alloc1 w _).trans (hbp.mono (by simp))
  clear hbp HC
  go_wp2_with fail
  refine (HV _).mono ?_
  rintro e wv ⟨vv, rfl, hown, hbv⟩
  have hr1 := keep_blk hbv (keep_alloc hr0)
  have hc1 := keep_blk hbv (heap_alloc_new _ _)
  have hBv : Below w.heap.size w wv := (hBp.alloc hBp.size _).trans (hbv.mono (by have := hBp.size; simp; omega))
  obtain ⟨A, cap, rfl⟩ := own_form hown
  have hown1 := own_more (base' := w.heap.size) hown (by have := hBp.size; simp; omega)
  have hpz := size_of_block hr0
  clear hown hbv hBp HV hr0
  generalize wp.heap.size = bp at *
  obtain ⟨d0, d1, -⟩ := now2 hc1 rfl
  obtain ⟨z0, z1, z2, zf⟩ := now3 hr1 rfl
  have hnb := own_ne hown1 hr1 Tryd.neIL
  have hkeep := fun a b c : Value => own_set (own_set (own_set hown1 hnb 0 a) hnb 1 b) hnb 2 c
  go_wp2
  exact bodyPost_ret (v := .tuple #[.agg #[.int .u8 M.toNat, .int .u8 V.toNat, .slice A O.length cap], .bool true]) (by simp [results, Tryd.results61, go_sem, z0, z1, z2]) rfl
    ⟨_, by rw [hm.out, hvv.out], by rw [ho.out]; exact hkeep _ _ _, ((hBv.setCell (by show _ ≤ w.heap.size; omega) _).setCell (by show _ ≤ w.heap.size; omega) _).setCell (by show _ ≤ w.heap.size; omega) _⟩
set_option maxHeartbeats 4000000 in
set_option maxRecDepth 1000000 in
theorem row_bad_yes (l : List UInt8) (I N : Nat) (hi : I ≤ 8) (hn : N ≤ 4) (hl' : l.length = I + 1 + N) (hsep : (l.drop I).take 1 = [32]) (hv : (l.drop (I + 1)).all okC = true) (hc : okT (str (l.take I)) = false) (w : World) :
    Calls Tryd.prog 61 #[.string (str l), .int .i64 I, .int .i64 N] w (RowBad w) := by
  have hs := size_str l
  have hne : (((str l).size : Int) != (I : Int) + 1 + (N : Int)) = false := by rw [hs]; simp; omega
  have hx : ((str l).extract I (I + 1)).toList = [32] := by
    rw [extract_str, toList_str, show I + 1 - I = 1 by omega, hsep]
  obtain ⟨e1, e2⟩ := row_cuts l I
  have b1 : (I : Int) + 1 ≤ ((str l).size : Int) := by omega
  have b2 : (I : Int) ≤ ((str l).size : Int) := by omega
  have hs2 : (str l).size ≤ 1000000 := by omega
  have HC := fun w => cparse_any (str (l.take I)) (by rw [size_str]; simp; unfold maxLen; omega) w
  have HV := fun w => values_yes (l.drop (I + 1)) hv (by simp; omega) w
  have hE : pE (str (l.take I)) = 2 := by unfold pE; rw [if_neg (by rw [hc]; decide)]
  rw [hE] at HC
  unfold cv bvv at HC
  clear hs hsep hl' hc hv hE
  generalize pM (str (l.take I)) = M at *
  generalize pV (str (l.take I)) = V at *
  generalize (l.drop (I + 1)).map outOf = O at *
  generalize str (l.take I) = s1 at *
  generalize str (l.drop (I + 1)) = s2 at *
  generalize str l = s at *
  go_enter Tryd.func61, Tryd.ntmps61
  go_wp2_with fail
  refine (HC _).mono ?_
  rintro e wp ⟨rfl, hbp⟩
  have hr0 := keep_blk hbp (heap_alloc_new _ _)
  have hBp : Below w.heap.size w wp := (below_alloc1 w _).trans (hbp.mono (by simp))
  clear hbp HC
  go_wp2_with fail
  refine (HV _).mono ?_
  rintro e wv ⟨vv, rfl, hown, hbv⟩
  have hr1 := keep_blk hbv (keep_alloc hr0)
  have hc1 := keep_blk hbv (heap_alloc_new _ _)
  have hBv : Below w.heap.size w wv := (hBp.alloc hBp.size _).trans (hbv.mono (by have := hBp.size; simp; omega))
  obtain ⟨A, cap, rfl⟩ := own_form hown
  have hpz := size_of_block hr0
  clear hown hbv hBp HV hr0
  generalize wp.heap.size = bp at *
  obtain ⟨d0, d1, -⟩ := now2 hc1 rfl
  obtain ⟨z0, z1, z2, zf⟩ := now3 hr1 rfl
  go_wp2
  exact bodyPost_ret (v := .tuple #[.agg #[.int .u8 M.toNat, .int .u8 V.toNat, .slice A O.length cap], .bool false]) (by simp [results, Tryd.results61, go_sem, z0, z1, z2]) rfl
    ⟨M, V, A, O.length, cap, rfl, ((hBv.setCell (by show _ ≤ w.heap.size; omega) _).setCell (by show _ ≤ w.heap.size; omega) _).setCell (by show _ ≤ w.heap.size; omega) _⟩
set_option maxHeartbeats 4000000 in
set_option maxRecDepth 1000000 in
theorem row_bad_no (l : List UInt8) (I N : Nat) (hi : I ≤ 8) (hn : N ≤ 4) (hl' : l.length = I + 1 + N) (hsep : (l.drop I).take 1 = [32]) (hv : (l.drop (I + 1)).all okC = false) (w : World) :
    Calls Tryd.prog 61 #[.string (str l), .int .i64 I, .int .i64 N] w (RowBad w) := by
  have hs := size_str l
  have hne : (((str l).size : Int) != (I : Int) + 1 + (N : Int)) = false := by rw [hs]; simp; omega
  have hx : ((str l).extract I (I + 1)).toList = [32] := by
    rw [extract_str, toList_str, show I + 1 - I = 1 by omega, hsep]
  obtain ⟨e1, e2⟩ := row_cuts l I
  have b1 : (I : Int) + 1 ≤ ((str l).size : Int) := by omega
  have b2 : (I : Int) ≤ ((str l).size : Int) := by omega
  have hs2 : (str l).size ≤ 1000000 := by omega
  have HC := fun w => cparse_any (str (l.take I)) (by rw [size_str]; simp; unfold maxLen; omega) w
  have HV := fun w => values_no (l.drop (I + 1)) hv (by simp; omega) w
  have hE : pE (str (l.take I)) = 2 ∨ pE (str (l.take I)) = 0 := by unfold pE; split; exact Or.inr rfl; exact Or.inl rfl
  unfold cv bvv at HC
  clear hs hsep hl' hv
  generalize pM (str (l.take I)) = M at *
  generalize pV (str (l.take I)) = V at *
  generalize pE (str (l.take I)) = E at *
  generalize str (l.take I) = s1 at *
  generalize str (l.drop (I + 1)) = s2 at *
  generalize str l = s at *
  rcases hE with rfl | rfl
  all_goals
    go_enter Tryd.func61, Tryd.ntmps61
    go_wp2_with fail
    refine (HC _).mono ?_
    rintro e wp ⟨rfl, hbp⟩
    have hr0 := keep_blk hbp (heap_alloc_new _ _)
    have hBp : Below w.heap.size w wp := (below_alloc1 w _).trans (hbp.mono (by simp))
    clear hbp HC
    go_wp2_with fail
    refine (HV _).mono ?_
    rintro e wv ⟨rfl, hbv⟩
    have hr1 := keep_blk hbv (keep_alloc hr0)
    have hc1 := keep_blk hbv (heap_alloc_new _ _)
    have hBv : Below w.heap.size w wv := (hBp.alloc hBp.size _).trans (hbv.mono (by have := hBp.size; simp; omega))
    have hpz := size_of_block hr0
    clear hbv hBp HV hr0
    generalize wp.heap.size = bp at *
    obtain ⟨d0, d1, -⟩ := now2 hc1 rfl
    obtain ⟨z0, z1, z2, zf⟩ := now3 hr1 rfl
    go_wp2
    exact bodyPost_ret (v := .tuple #[.agg #[.int .u8 M.toNat, .int .u8 V.toNat, .slice none 0 0], .bool false]) (by simp [results, Tryd.results61, go_sem, z0, z1, z2]) rfl
      ⟨M, V, none, 0, 0, rfl, ((hBv.setCell (by show _ ≤ w.heap.size; omega) _).setCell (by show _ ≤ w.heap.size; omega) _).setCell (by show _ ≤ w.heap.size; omega) _⟩
theorem row_no (l : List UInt8) (I N : Nat) (hi : I ≤ 8) (hn : N ≤ 4) (hl : l.length ≤ 1000000) (h : rowOk l I N = false) (w : World) :
    Calls Tryd.prog 61 #[.string (str l), .int .i64 I, .int .i64 N] w (RowBad w) := by
  by_cases h1 : l.length = I + 1 + N
  · by_cases h2 : (l.drop I).take 1 = [32]
    · cases hv : (l.drop (I + 1)).all okC
      · exact row_bad_no l I N hi hn h1 h2 hv w
      · cases hc : okT (str (l.take I))
        · exact row_bad_yes l I N hi hn h1 h2 hv hc w
        · exfalso
          unfold rowOk at h
          simp only [Int.toNat_natCast] at h
          rw [hv, hc] at h
          simp [h2] at h
          omega
    · exact row_sep_no l I N hi hn h1 h2 w
  · exact row_len_no l I N hi hn h1 hl w
end Go.Proofs.YtpjjnafegngdkaaDoor
