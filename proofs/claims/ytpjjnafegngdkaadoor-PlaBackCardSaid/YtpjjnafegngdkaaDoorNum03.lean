/- A number behind a word: number of the package pla, for every line. -/
import Derived.Test.YtpjjnafegngdkaaDoorCut03
namespace Go.Proofs.YtpjjnafegngdkaaDoor
open Go.RowKit Go.Joins

theorem numGo_bad {most : Int} {c : UInt8} {r : List UInt8} {f : Bool} {x : Int} (h : (c.toNat : Int) < 48 ∨ 57 < (c.toNat : Int)) : numGo most (c :: r) f x = none := by
  unfold numGo
  rw [if_pos (by rcases h with h | h; exact Or.inl h; exact Or.inr (Or.inl h))]
theorem numGo_zero {most : Int} {c : UInt8} {r : List UInt8} : numGo most (c :: r) false 0 = none := by
  unfold numGo
  rw [if_pos (Or.inr (Or.inr ⟨rfl, rfl⟩))]
theorem numGo_big {most : Int} {c : UInt8} {r : List UInt8} {f : Bool} {x : Int} (h : ¬ ((c.toNat : Int) < 48 ∨ 57 < (c.toNat : Int) ∨ (f = false ∧ x = 0))) (hm : most < x * 10 + ((c.toNat : Int) - 48)) : numGo most (c :: r) f x = none := by
  unfold numGo
  rw [if_neg h, if_pos hm]
theorem numGo_step {most : Int} {c : UInt8} {r : List UInt8} {f : Bool} {x : Int} (h : ¬ ((c.toNat : Int) < 48 ∨ 57 < (c.toNat : Int) ∨ (f = false ∧ x = 0))) (hm : ¬ most < x * 10 + ((c.toNat : Int) - 48)) : numGo most (c :: r) f x = numGo most r false (x * 10 + ((c.toNat : Int) - 48)) := by
  conv => lhs; unfold numGo
  rw [if_neg h, if_neg hm]
theorem numB_no {l p : List UInt8} {a b : Int} (h : p.isPrefixOf l = false) : numB l p a b = (0, false) := by
  unfold numB; rw [if_neg (by simp [h])]
theorem numB_nil {l p : List UInt8} {a b : Int} (h : l.drop p.length = []) : numB l p a b = (0, false) := by
  unfold numB; rw [if_neg (by simp [h])]
theorem numB_none {l p : List UInt8} {a b : Int} (h : p.isPrefixOf l = true) (hd : l.drop p.length ≠ []) (hg : numGo b (l.drop p.length) true 0 = none) : numB l p a b = (0, false) := by
  unfold numB; rw [if_pos ⟨h, hd⟩, hg]
theorem numB_some {l p : List UInt8} {a b x : Int} (h : p.isPrefixOf l = true) (hd : l.drop p.length ≠ []) (hg : numGo b (l.drop p.length) true 0 = some x) : numB l p a b = (x, decide (a ≤ x)) := by
  unfold numB; rw [if_pos ⟨h, hd⟩, hg]
set_option maxHeartbeats 2000000 in
set_option maxRecDepth 1000000 in
theorem number_go (l p : List UInt8) (least most : Int) (hp : p.isPrefixOf l = true) (hd : l.drop p.length ≠ []) (h0 : 0 ≤ most) (hm : most ≤ 1000) (hlen : l.length ≤ 1000000) (w : World) :
    Calls Tryd.prog 59 #[.string (str l), .string (str p), .int .i64 least, .int .i64 most] w fun e w' => e = .returned (.tuple #[.int .i64 (numB l p least most).1, .bool (numB l p least most).2]) ∧ Below w.heap.size w w' := by
  have HC := fun w => cutpre_any l p w
  rw [hp, if_pos rfl] at HC
  have hBn := Lib.hid (fun hg => numB_none (a := least) (b := most) hp hd hg)
  have hBs := Lib.hid (fun x hg => numB_some (a := least) (b := most) (x := x) hp hd hg)
  have hDl : (l.drop p.length).length ≤ 1000000 := by simp; omega
  generalize l.drop p.length = D at *
  have hDe : (str D).toList ≠ [] := by rw [toList_str]; exact hd
  have hDe2 : (str D).toList.isEmpty = false := by rw [toList_str]; simpa using hd
  have hDp : 0 < D.length := List.length_pos_iff.2 hd
  have hsz := Lib.hid (size_str D)
  have hget : Hid (∀ (k : Nat) (h : k < (str D).size), (str D)[k] = D.getD k 0) := Lib.hid (fun k h => by
    have : k < D.length := by rwa [size_str] at h
    simp [str, List.getD, this]; rfl)
  have hcons : Hid (∀ k, k < D.length → D.drop k = D.getD k 0 :: D.drop (k + 1)) := Lib.hid (fun k h => by
    rw [List.drop_eq_getElem_cons h]; simp [List.getD, h])
  generalize numB l p least most = R at *
  generalize str D = s at *
  generalize str l = sl at *
  generalize str p = sp at *
  clear hp hd
  go_enter Tryd.func59, Tryd.ntmps59
  go_wp2_with fail
  refine (HC _).mono ?_
  rintro e w1 ⟨rfl, rfl⟩
  clear HC
  go_wp2
  go_loopw [12, 13, 14] (fun n _ _ wr => ∃ (k : Nat) (x : Int), k ≤ D.length ∧ n = .int .i64 x ∧ 0 ≤ x ∧ x ≤ most ∧ wr.heap[w.heap.size]? = some (.stringIter s k) ∧ Below w.heap.size w wr ∧ Hid (numGo most D true 0 = numGo most (D.drop k) (k == 0) x)) (fun _ _ _ wr => D.length - wr.iterPos (w.heap.size))
  case atStart =>
    refine ⟨0, 0, by omega, rfl, by omega, h0, ?_, ?_, Lib.hid (by simp)⟩
    · have := World.iter_heap w s 0
      simpa using this
    · exact below_alloc1 w _
  case round =>
    obtain ⟨k, x, hk, rfl, hx0, hxm, hit, hb, hG⟩ := hrel
    have hpos : Hid (wr.iterPos w.heap.size = k) := Lib.hid (by simp [World.iterPos, hit])
    have hz := size_of_block hit
    by_cases hlt : k < D.length
    · have hks : k < s.size := by have := hsz.out; omega
      have hgk := hget.out k hks
      have hck := Lib.hid (hcons.out k hlt)
      generalize hcc : D.getD k 0 = c at *
      have hr : ∃ (r : Int) (m : Nat), (∀ ty, (Instr.next (.pointer (some ⟨w.heap.size, 0, none⟩)) true ty).run Tryd.prog wr = .ok (.tuple #[.bool true, .int .i64 k, .int .i32 r]) (wr.iterAt w.heap.size s m)) ∧ 0 ≤ r ∧ ((r = c.toNat ∧ m = k + 1) ∨ (57 < r ∧ 57 < (c.toNat : Int))) := by
        by_cases ha : c.toNat < 128
        · refine ⟨c.toNat, k + 1, fun ty => ?_, by omega, Or.inl ⟨rfl, rfl⟩⟩
          rw [Lib.run_next_ascii_at wr w.heap.size s k ty hit hks (by rw [hgk]; exact ha), hgk]
        · have := decode_high s k hks (by rw [hgk]; omega)
          refine ⟨(Utf8.decode s k).1, k + (Utf8.decode s k).2, fun ty => Lib.run_next_any_at wr w.heap.size s k ty hit hks, by omega, Or.inr ⟨by omega, by omega⟩⟩
      obtain ⟨r, m, hnx, hr0, hrc⟩ := hr
      have hit' := Lib.hid (Lib.iterAt_heap wr _ _ _ m hit)
      have hb' := Lib.hid (Lib.below_iterAt hb (Nat.le_refl _) s m)
      clear hgk hcc hit hb
      generalize wr.iterAt w.heap.size s m = wx at *
      by_cases hbad : r < 48 ∨ 57 < r
      · have hRn := Lib.hid (hBn.out (by rw [hG.out, hck.out]; exact numGo_bad (by omega)))
        rcases hbad with hbad | hbad
        · have hbx := hb'.out
          go_wp2
          go_ret2
          exact ⟨by rw [hRn.out]; rfl, hbx⟩
        · have hbx := hb'.out
          have hb48 : ¬ r < 48 := by omega
          go_wp2
          go_ret2
          exact ⟨by rw [hRn.out]; rfl, hbx⟩
      · have hrr : r = (c.toNat : Int) ∧ m = k + 1 := by
          rcases hrc with h | h
          · exact h
          · omega
        obtain ⟨e1, rfl⟩ := hrr
        have e1' := Lib.hid e1
        have g1 : ¬ r < 48 := by omega
        have g2 : ¬ 57 < r := by omega
        have g3 : r ≤ 57 := by omega
        have g4 : 48 ≤ r := by omega
        have hbx := hb'.out
        clear hbad hrc e1
        by_cases hz0 : 0 < k ∧ x = 0
        · obtain ⟨hk0, rfl⟩ := hz0
          have hRn := Lib.hid (hBn.out (by
            have : (k == 0) = false := by rw [beq_eq_false_iff_ne]; omega
            rw [hG.out, hck.out, this]; exact numGo_zero))
          go_wp2
          go_ret2
          exact ⟨by rw [hRn.out]; rfl, hbx⟩
        · have hnz : Hid (¬ ((c.toNat : Int) < 48 ∨ 57 < (c.toNat : Int) ∨ ((k == 0) = false ∧ x = 0))) := Lib.hid (by
            rw [← e1'.out]
            intro h
            rcases h with h | h | ⟨h, h2⟩
            · omega
            · omega
            · exact hz0 ⟨by have : k ≠ 0 := by simpa using h
                            omega, h2⟩)
          by_cases hbig : most < x * 10 + (r - 48)
          · have hRn := Lib.hid (hBn.out (by rw [hG.out, hck.out]; exact numGo_big hnz.out (by rw [← e1'.out]; exact hbig)))
            by_cases hk0 : 0 < k
            · have hx1 : ¬ x = 0 := fun e => hz0 ⟨hk0, e⟩
              have hx2 : ((x : Int) == 0) = false := by simpa using hx1
              clear hz0
              go_wp2
              go_ret2
              exact ⟨by rw [hRn.out]; rfl, hbx⟩
            · clear hz0
              go_wp2
              go_ret2
              exact ⟨by rw [hRn.out]; rfl, hbx⟩
          · have hGn : Hid (numGo most D true 0 = numGo most (D.drop (k + 1)) (k + 1 == 0) (x * 10 + (r - 48))) := Lib.hid (by
              rw [hG.out, hck.out, numGo_step hnz.out (by rw [← e1'.out]; exact hbig), ← e1'.out]; rfl)
            have hpx : Hid (wx.iterPos w.heap.size = k + 1) := Lib.hid (by have := hit'.out; simp [World.iterPos, this])
            by_cases hk0 : 0 < k
            · have hx1 : ¬ x = 0 := fun e => hz0 ⟨hk0, e⟩
              have hx2 : ((x : Int) == 0) = false := by simpa using hx1
              clear hz0
              go_wp2
              go_roundw
              case rel => exact ⟨k + 1, x * 10 + (r - 48), by omega, by go_num, by omega, by omega, hit'.out, hb'.out, hGn⟩
              case measure => rw [hpx.out, hpos.out]; omega
            · clear hz0
              go_wp2
              go_roundw
              case rel => exact ⟨k + 1, x * 10 + (r - 48), by omega, by go_num, by omega, by omega, hit'.out, hb'.out, hGn⟩
              case measure => rw [hpx.out, hpos.out]; omega
    · have e : k = D.length := by omega
      have hnx : ∀ ty, (Instr.next (.pointer (some ⟨w.heap.size, 0, none⟩)) true ty).run Tryd.prog wr = .ok (.tuple #[.bool false]) wr := fun ty => Lib.run_next_end_at wr w.heap.size s k ty hit (by have := hsz.out; omega)
      have hRs := Lib.hid (hBs.out x (by rw [hG.out, e, List.drop_length]; rfl))
      clear hit e
      go_wp2
      go_ret2
      exact ⟨by rw [hRs.out]; rfl, hb⟩
theorem number_any (l p : List UInt8) (least most : Int) (h0 : 0 ≤ most) (hm : most ≤ 1000) (hlen : l.length ≤ 1000000) (w : World) :
    Calls Tryd.prog 59 #[.string (str l), .string (str p), .int .i64 least, .int .i64 most] w fun e w' => e = .returned (.tuple #[.int .i64 (numB l p least most).1, .bool (numB l p least most).2]) ∧ Below w.heap.size w w' := by
  cases hp : p.isPrefixOf l
  · have HC := fun w => cutpre_any l p w
    rw [hp, if_neg (by decide)] at HC
    rw [numB_no hp]
    generalize str l = sl at *
    generalize str p = sp at *
    clear hp
    go_enter Tryd.func59, Tryd.ntmps59
    go_wp2_with fail
    refine (HC _).mono ?_
    rintro e w1 ⟨rfl, rfl⟩
    clear HC
    go_wp2
    go_ret2
    exact ⟨rfl, Below.refl _ _⟩
  · by_cases hd : l.drop p.length = []
    · have HC := fun w => cutpre_any l p w
      rw [hp, if_pos rfl, hd] at HC
      rw [numB_nil hd]
      have ht := toList_str []
      generalize str [] = sn at *
      generalize str l = sl at *
      generalize str p = sp at *
      clear hp hd
      go_enter Tryd.func59, Tryd.ntmps59
      go_wp2_with fail
      refine (HC _).mono ?_
      rintro e w1 ⟨rfl, rfl⟩
      clear HC
      go_wp2
      go_ret2
      exact ⟨rfl, Below.refl _ _⟩
    · exact number_go l p least most hp hd h0 hm hlen w
end Go.Proofs.YtpjjnafegngdkaaDoor
