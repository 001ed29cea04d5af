/- What values of the package pla says of a word: IndexRune over the three bytes of an output, at every rune. A line of a table is read: row of the package pla. -/
import Derived.Test.YtckmjampgeojbaaGreatDoorJ09
namespace Go.Proofs.YtckmjampgeojbaaGreatDoor
open Go.RowKit Go.Joins

theorem enc_last (r : Int) (h : 128 ≤ r) : ∃ (n : Nat) (hn : n < (Utf8.encode r).size), (Utf8.encode r).size = n + 1 ∧ 1 ≤ n ∧ n ≤ 3 ∧ 128 ≤ ((Utf8.encode r)[n]).toNat := by
  have hc : ∃ c : Nat, 128 ≤ c ∧ Utf8.encode r = (if c < 0x80 then (⟨#[UInt8.ofNat c]⟩ : ByteArray) else if c < 0x800 then ⟨#[UInt8.ofNat (0xC0 + c / 64), UInt8.ofNat (0x80 + c % 64)]⟩ else if c < 0x10000 then ⟨#[UInt8.ofNat (0xE0 + c / 4096), UInt8.ofNat (0x80 + c / 64 % 64), UInt8.ofNat (0x80 + c % 64)]⟩ else ⟨#[UInt8.ofNat (0xF0 + c / 262144), UInt8.ofNat (0x80 + c / 4096 % 64), UInt8.ofNat (0x80 + c / 64 % 64), UInt8.ofNat (0x80 + c % 64)]⟩) := by
    unfold Utf8.encode
    by_cases hv : Utf8.valid r = true
    · exact ⟨r.toNat, by omega, by rw [if_pos hv]⟩
    · exact ⟨Utf8.runeError, by decide, by rw [if_neg hv]⟩
  obtain ⟨c, hc, e⟩ := hc
  have hb : 128 ≤ (UInt8.ofNat (0x80 + c % 64)).toNat := by
    rw [UInt8.toNat_ofNat']
    omega
  rw [if_neg (by omega)] at e
  by_cases h2 : c < 0x800
  · rw [if_pos h2] at e
    refine ⟨1, by rw [e]; show 1 < 2; omega, ?_⟩
    simp only [e]
    exact ⟨rfl, by omega, by omega, hb⟩
  · rw [if_neg h2] at e
    by_cases h3 : c < 0x10000
    · rw [if_pos h3] at e
      refine ⟨2, by rw [e]; show 2 < 3; omega, ?_⟩
      simp only [e]
      exact ⟨rfl, by omega, by omega, hb⟩
    · rw [if_neg h3] at e
      refine ⟨3, by rw [e]; show 3 < 4; omega, ?_⟩
      simp only [e]
      exact ⟨rfl, by omega, by omega, hb⟩
theorem byte_high (x : UInt8) (h : 128 ≤ x.toNat) (l : List UInt8) (hl : ∀ b ∈ l, b.toNat < 128) : Lib.indexByte l ((x.toNat : Int)).toNat.toUInt8 = -1 := by
  have hx : ((x.toNat : Int)).toNat.toUInt8 = x := by
    rw [Int.toNat_natCast]
    exact UInt8.toNat_inj.1 (by simp)
  rw [hx]
  induction l with
  | nil => rfl
  | cons b l ih =>
    unfold Lib.indexByte
    have h1 : (b == x) = false := by
      rw [beq_eq_false_iff_ne]
      intro e
      have := hl b (by simp)
      rw [e] at this
      omega
    rw [h1, ih (fun c hc => hl c (by simp [hc]))]
    rfl
theorem idxByte_high (x : UInt8) (h : 128 ≤ x.toNat) (l : List UInt8) (hl : ∀ b ∈ l, b.toNat < 128) (w : World) : Calls Tryz.prog 104 #[.string (str l), .int .u8 x.toNat] w fun e w' => e = .returned (.int .i64 (-1)) ∧ w = w' := by
  have := Tryz.strings_IndexByte (str l) (x.toNat : Int) w
  rw [data_str, byte_high x h l hl] at this
  exact this.mono fun _ _ ⟨a, b⟩ => ⟨a, b.symm⟩
set_option maxHeartbeats 2000000 in
set_option maxRecDepth 1000000 in
theorem idx_high (r : Int) (h : 128 ≤ r) (w : World) (he : r ≠ 65533) :
    Calls Tryz.prog 101 #[.string { data := #[48, 49, 45] }, .int .i32 r] w fun e w' => e = .returned (.int .i64 (-1)) ∧ Below w.heap.size w w' := by
  have HV := fun w => Tryz.utf8_ValidRune r w
  obtain ⟨n, hn, hs, h1, h3, hlast⟩ := enc_last r h
  generalize hE : Utf8.encode r = E at *
  have he' : ((r : Int) == 65533) = false := by simpa using he
  cases hv : Lib.validRune r
  · rw [hv] at HV
    go_enter Tryz.func101, Tryz.ntmps101
    go_wp2_with fail
    refine (HV _).mono ?_
    rintro e w1 ⟨rfl, rfl⟩
    go_wp2
    go_ret
    exact ⟨rfl, Below.refl _ _⟩
  · rw [hv] at HV
    obtain ⟨x, hx⟩ : ∃ x : UInt8, E[n] = x := ⟨_, rfl⟩
    rw [hx] at hlast
    have HB2 := fun w => idxByte_high x hlast [45] (by decide) w
    have HB3 := fun w => idxByte_high x hlast [] (by decide) w
    rw [show str [45] = { data := #[45] } from rfl] at HB2
    rw [show str [] = { data := #[] } from rfl] at HB3
    have n3 : n = 1 ∨ n = 2 ∨ n = 3 := by omega
    rcases n3 with rfl | rfl | rfl
    · have c1 : (((({ data := #[48, 49, 45] } : ByteArray)[1]'(by decide)).toNat : Int) != (x.toNat : Int)) = true := by rw [bne_iff_ne]; show ((49 : Nat) : Int) ≠ _; omega
      go_enter Tryz.func101, Tryz.ntmps101
      go_wp2_with fail
      refine (HV _).mono ?_
      rintro e w1 ⟨rfl, rfl⟩
      go_wp2
      go_step3
      go_wp2
      go_loopw [9] (fun s wr => s = .int .i64 1 ∧ Below w1.heap.size w1 wr) (fun _ _ => 0)
      case atStart => exact ⟨rfl, Below.refl _ _⟩
      case round =>
        obtain ⟨rfl, hb⟩ := hrel
        go_wp2
        go_step3
        go_wp2
        refine wp_region_after (by kernel_rfl) (by kernel_rfl) ?_
        repeat (first | go_big_quiet_step (fail))
        refine wpQuiet_nil ?_
        intro X
        have hX := hb.trans (X.2.mono hb.size)
        generalize X.1 = wx at *
        go_wp2
        refine wp_region_after (by kernel_rfl) (by kernel_rfl) ?_
        repeat (first | go_big_quiet_step ((go_at_call 104; exact Calls.after_same (HB2 _))))
        refine wpQuiet_nil ?_
        intro Y
        have hY := hX.trans (Y.2.mono hX.size)
        generalize Y.1 = wy at *
        go_wp2
        rw [Exit.noGoto_ret]
        go_wp2
        rw [Exit.noGoto_ret]
        go_ret
        exact ⟨rfl, hY⟩
    · have c1 : (((({ data := #[48, 49, 45] } : ByteArray)[2]'(by decide)).toNat : Int) != (x.toNat : Int)) = true := by rw [bne_iff_ne]; show ((45 : Nat) : Int) ≠ _; omega
      go_enter Tryz.func101, Tryz.ntmps101
      go_wp2_with fail
      refine (HV _).mono ?_
      rintro e w1 ⟨rfl, rfl⟩
      go_wp2
      go_step3
      go_wp2
      go_loopw [9] (fun s wr => s = .int .i64 2 ∧ Below w1.heap.size w1 wr) (fun _ _ => 0)
      case atStart => exact ⟨rfl, Below.refl _ _⟩
      case round =>
        obtain ⟨rfl, hb⟩ := hrel
        go_wp2
        go_step3
        go_wp2
        refine wp_region_after (by kernel_rfl) (by kernel_rfl) ?_
        repeat (first | go_big_quiet_step (fail))
        refine wpQuiet_nil ?_
        intro X
        have hX := hb.trans (X.2.mono hb.size)
        generalize X.1 = wx at *
        go_wp2
        refine wp_region_after (by kernel_rfl) (by kernel_rfl) ?_
        repeat (first | go_big_quiet_step ((go_at_call 104; exact Calls.after_same (HB3 _))))
        refine wpQuiet_nil ?_
        intro Y
        have hY := hX.trans (Y.2.mono hX.size)
        generalize Y.1 = wy at *
        go_wp2
        rw [Exit.noGoto_ret]
        go_wp2
        rw [Exit.noGoto_ret]
        go_ret
        exact ⟨rfl, hY⟩
    · go_enter Tryz.func101, Tryz.ntmps101
      go_wp2_with fail
      refine (HV _).mono ?_
      rintro e w1 ⟨rfl, rfl⟩
      go_wp2
      go_step3
      go_wp2
      go_loopw [9] (fun s wr => s = .int .i64 3 ∧ Below w1.heap.size w1 wr) (fun _ _ => 0)
      case atStart => exact ⟨rfl, Below.refl _ _⟩
      case round =>
        obtain ⟨rfl, hb⟩ := hrel
        go_wp2
        rw [Exit.noGoto_ret]
        go_ret
        exact ⟨rfl, hb⟩
set_option maxHeartbeats 2000000 in
set_option maxRecDepth 1000000 in
theorem idx_error (w : World) :
    Calls Tryz.prog 101 #[.string { data := #[48, 49, 45] }, .int .i32 65533] w fun e w' => e = .returned (.int .i64 (-1)) ∧ Below w.heap.size w w' := by
  go_enter Tryz.func101, Tryz.ntmps101
  go_wp2
  go_loopw [5, 6] (fun _ _ wr => ∃ k : Nat, k ≤ 3 ∧ wr.heap[w.heap.size]? = some (.stringIter { data := #[48, 49, 45] } k) ∧ Below w.heap.size w wr) (fun _ _ wr => 3 - wr.iterPos w.heap.size)
  case atStart =>
    refine ⟨0, by omega, ?_, below_alloc1 w _⟩
    have := World.iter_heap w { data := #[48, 49, 45] } 0
    simpa using this
  case round =>
    obtain ⟨k, hk, hit, hb⟩ := hrel
    have hpos : Hid (wr.iterPos w.heap.size = k) := Lib.hid (by simp [World.iterPos, hit])
    by_cases hlt : k < 3
    · have hc : ∃ c : UInt8, c.toNat < 128 ∧ (∀ ty, (Instr.next (.pointer (some ⟨w.heap.size, 0, none⟩)) true ty).run Tryz.prog wr = .ok (.tuple #[.bool true, .int .i64 k, .int .i32 c.toNat]) (wr.iterAt w.heap.size { data := #[48, 49, 45] } (k + 1))) := by
        have k3 : k = 0 ∨ k = 1 ∨ k = 2 := by omega
        rcases k3 with rfl | rfl | rfl
        · exact ⟨48, by decide, fun ty => by rw [Lib.run_next_ascii_at wr w.heap.size _ 0 ty hit (by decide) (by decide)]; rfl⟩
        · exact ⟨49, by decide, fun ty => by rw [Lib.run_next_ascii_at wr w.heap.size _ 1 ty hit (by decide) (by decide)]; rfl⟩
        · exact ⟨45, by decide, fun ty => by rw [Lib.run_next_ascii_at wr w.heap.size _ 2 ty hit (by decide) (by decide)]; rfl⟩
      obtain ⟨c, hc1, hnx⟩ := hc
      have hne : ((c.toNat : Int) == 65533) = false := by rw [beq_eq_false_iff_ne]; omega
      have hit' := Lib.hid (Lib.iterAt_heap wr _ _ _ (k + 1) hit)
      have hb' := Lib.hid (Lib.below_iterAt hb (Nat.le_refl _) { data := #[48, 49, 45] } (k + 1))
      clear hit hb
      generalize wr.iterAt w.heap.size { data := #[48, 49, 45] } (k + 1) = wx at *
      have hpx : Hid (wx.iterPos w.heap.size = k + 1) := Lib.hid (by have := hit'.out; simp [World.iterPos, this])
      go_wp2
      go_roundw
      case rel => exact ⟨k + 1, by omega, hit'.out, hb'.out⟩
      case measure => rw [hpx.out, hpos.out]; omega
    · have e : k = 3 := by omega
      subst e
      have hnx : ∀ ty, (Instr.next (.pointer (some ⟨w.heap.size, 0, none⟩)) true ty).run Tryz.prog wr = .ok (.tuple #[.bool false]) wr := fun ty => Lib.run_next_end_at wr w.heap.size _ 3 ty hit (by decide)
      clear hit
      go_wp2
      go_ret
      exact ⟨rfl, hb⟩
def idxO (r : Int) : Int := if r = 48 then 0 else if r = 49 then 1 else if r = 45 then 2 else -1
theorem idx_low (r : Nat) (h : r < 128) : Lib.indexByte [48, 49, 45] r.toUInt8 = idxO r := by
  have : ∀ k, k < 128 → Lib.indexByte [48, 49, 45] (Nat.toUInt8 k) = idxO k := by decide +kernel
  exact this r h
theorem idx_any (r : Int) (h : 0 ≤ r) (w : World) :
    Calls Tryz.prog 101 #[.string { data := #[48, 49, 45] }, .int .i32 r] w fun e w' => e = .returned (.int .i64 (idxO r)) ∧ Below w.heap.size w w' := by
  by_cases h1 : r < 128
  · obtain ⟨n, rfl⟩ := Int.eq_ofNat_of_zero_le h
    have := Tryz.strings_IndexRune_ascii { data := #[48, 49, 45] } n w h h1
    refine this.mono fun e w' ⟨a, b⟩ => ⟨?_, by rw [b]; exact Below.refl _ _⟩
    rw [a, Int.toNat_natCast]
    show Ending.returned (.int .i64 (Lib.indexByte [48, 49, 45] (Nat.toUInt8 n))) = _
    rw [idx_low n (by omega)]
  · have e : idxO r = -1 := by
      unfold idxO
      rw [if_neg (by omega), if_neg (by omega), if_neg (by omega)]
    rw [e]
    by_cases h2 : r = 65533
    · subst h2; exact idx_error w
    · exact idx_high r (by omega) w h2
def intsI (l : List Int) : List Value := l.map fun x => .int .i64 x
theorem intsI_snoc (l : List Int) (x : Int) : intsI (l ++ [x]) = intsI l ++ [.int .i64 x] := by simp [intsI]
/-- A word's outputs, in a row that the call has made. -/
def ValsAt (w : World) (l : List Int) (e : Ending) (w' : World) : Prop := ∃ V, e = .returned (.tuple #[V, .bool true]) ∧ w'.ownsRow w.heap.size 3 1 V l.length (intsI l) ∧ Below w.heap.size w w'
theorem outOf_idx (c : UInt8) (h : okC c = true) : idxO (c.toNat : Int) = outOf c ∧ 0 ≤ outOf c := by
  unfold okC at h
  simp only [Bool.or_eq_true, beq_iff_eq] at h
  rcases h with (h | h) | h <;> subst h <;> decide
theorem idx_not (c : UInt8) (h : okC c = false) : idxO (c.toNat : Int) = -1 := by
  unfold okC at h
  simp only [Bool.or_eq_false_iff, beq_eq_false_iff_ne] at h
  unfold idxO
  have f : ∀ d : UInt8, c ≠ d → ¬ ((c.toNat : Int) = (d.toNat : Int)) := fun d hd e => hd (UInt8.toNat_inj.1 (by omega))
  have f1 : ¬ (c.toNat : Int) = 48 := f 48 h.1.1
  have f2 : ¬ (c.toNat : Int) = 49 := f 49 h.1.2
  have f3 : ¬ (c.toNat : Int) = 45 := f 45 h.2
  rw [if_neg f1, if_neg f2, if_neg f3]
theorem own_keep {w w' : World} {base size n : Nat} {e : TypeId} {v : Value} {xs : List Value} (h : w.ownsRow base e size v n xs) (hk : ∀ g, v.ownBlock = some g → base ≤ g → g < w.heap.size → w'.heap[g]? = w.heap[g]?) : w'.ownsRow base e size v n xs := by
  refine ⟨h.1, ?_⟩
  rcases h.2 with hn | ⟨g, cap, cur, rfl, hb, hgg, rest⟩
  · exact .inl hn
  · exact .inr ⟨g, cap, cur, rfl, hb, (hk g rfl (h.lt g rfl).1 (size_of_block hgg)).trans hgg, rest⟩
set_option maxHeartbeats 2000000 in
set_option maxRecDepth 1000000 in
theorem values_yes (D : List UInt8) (hD : D.all okC = true) (hl : D.length ≤ 1000000) (w : World) :
    Calls Tryz.prog 91 #[.string (str D)] w (ValsAt w (D.map outOf)) := by
  obtain ⟨i0, hi, hz0, hz1, hz2⟩ := info_parts Tryz.infoInt
  have hsz := Lib.hid (size_str D)
  have hget : Hid (∀ (k : Nat) (h : k < (str D).size), (str D)[k] = D.getD k 0) := Lib.hid (fun k h => by
    have : k < D.length := by rwa [size_str] at h
    simp [str, List.getD, this]; rfl)
  have hok : Hid (∀ k, k < D.length → okC (D.getD k 0) = true) := Lib.hid (fun k h => by
    rw [List.all_eq_true] at hD
    exact hD _ (by simp [List.getD, h]))
  have hsucc : Hid (∀ k, k < D.length → (D.map outOf).take (k + 1) = (D.map outOf).take k ++ [outOf (D.getD k 0)]) := Lib.hid (fun k h => by
    rw [List.take_succ_eq_append_getElem (by simpa using h)]
    simp [List.getD, h])
  generalize str D = s at *
  clear hD
  go_enter Tryz.func91, Tryz.ntmps91
  go_wp2
  go_loopw [4, 6, 7] (fun v _ _ wr => ∃ k : Nat, k ≤ D.length ∧ wr.ownsRow (w.heap.size + 1) 3 1 v k (intsI ((D.map outOf).take k)) ∧ wr.heap[w.heap.size]? = some (.stringIter s k) ∧ Below w.heap.size w wr) (fun _ _ _ wr => D.length - wr.iterPos w.heap.size)
  case atStart =>
    refine ⟨0, by omega, World.ownsRow_nil _ _ _ _, ?_, below_alloc1 w _⟩
    have := World.iter_heap w s 0
    simpa using this
  case round =>
    obtain ⟨k, hk, hown, hit, hb⟩ := hrel
    have hpos : Hid (wr.iterPos w.heap.size = k) := Lib.hid (by simp [World.iterPos, hit])
    have hz := size_of_block hit
    by_cases hlt : k < D.length
    · have hks : k < s.size := by have := hsz.out; omega
      have hgk := hget.out k hks
      have hck := hok.out k hlt
      have hst := Lib.hid (hsucc.out k hlt)
      generalize D.getD k 0 = c at *
      have h128 : c.toNat < 128 := by
        unfold okC at hck
        simp only [Bool.or_eq_true, beq_iff_eq] at hck
        rcases hck with (h | h) | h <;> subst h <;> decide
      have hnx : ∀ ty, (Instr.next (.pointer (some ⟨w.heap.size, 0, none⟩)) true ty).run Tryz.prog wr = .ok (.tuple #[.bool true, .int .i64 k, .int .i32 c.toNat]) (wr.iterAt w.heap.size s (k + 1)) := fun ty => by
        rw [Lib.run_next_ascii_at wr w.heap.size s k ty hit hks (by rw [hgk]; exact h128), hgk]
      have HI := fun w => idx_any (c.toNat : Int) (by omega) w
      rw [(outOf_idx c hck).1] at HI
      have hov := (outOf_idx c hck).2
      have hit' := Lib.iterAt_heap wr _ _ _ (k + 1) hit
      have hb' := Lib.below_iterAt hb (Nat.le_refl _) s (k + 1)
      have hown' := own_keep (w' := wr.iterAt w.heap.size s (k + 1)) hown (fun g _ hg _ => Lib.iterAt_other _ _ _ _ _ (by omega))
      clear hgk hit hb hown hck
      generalize wr.iterAt w.heap.size s (k + 1) = wx at *
      have hpx : Hid (wx.iterPos w.heap.size = k + 1) := Lib.hid (by simp [World.iterPos, hit'])
      generalize outOf c = x at *
      generalize c.toNat = cn at *
      have hzx := size_of_block hit'
      have hx0 : ¬ x < 0 := by omega
      go_wp2_with fail
      refine (HI _).mono ?_
      rintro e w1 ⟨rfl, hb1⟩
      have hit1 := keep_blk hb1 hit'
      have hB1 := hb'.trans (hb1.mono hb'.size)
      have hown1 := owns_below hown' hb1
      have hzb := hb1.size
      clear hb1 hit' hb' hown' HI hnx
      go_wp2_with (at_builtin; go_loud (refine wpList_append_own _ rfl _ _ 84 rfl (w.heap.size + 1) 3 i0 (.int .i64 0) 1 8 Tryz.underlying84 hi hz0 hz1 hz2 rfl (by decide) _ _ _ rfl (hown1.alloc _) ⟨w1.heap.size, 0, none⟩ 1 1 [.int .i64 x] rfl rfl ?c1 ?c2 ?c3 ?c4 ?c5 ?_))
      case c1 => exact cell_one_new _ _ _
      case c2 => intro u hu; simp at hu; subst hu; rfl
      case c3 => unfold maxLen; omega
      case c4 => omega
      case c5 => simp; omega
      intro v' w2 hown2 hgrow _
      have hR : w2.heap[w.heap.size]? = some (.stringIter s (k + 1)) ∧ Below w.heap.size w w2 :=
        ⟨((grown_low hown1 hgrow _ (by omega) (by simp; omega)).trans (Below.heap_alloc _ _ _ (by omega))).trans hit1, grown_below hown1 hgrow (hB1.alloc (by omega) _) (by omega) (by simp; omega)⟩
      have hp2 : Hid (w2.iterPos w.heap.size = k + 1) := Lib.hid (by simp [World.iterPos, hR.1])
      clear hgrow hown1 hit1 hB1
      go_wp2
      go_roundw
      case rel => exact ⟨k + 1, by omega, by rw [hst.out, intsI_snoc]; exact hown2, hR.1, hR.2⟩
      case measure => rw [hp2.out, hpos.out]; omega
    · have e : k = D.length := by omega
      have hnx : ∀ ty, (Instr.next (.pointer (some ⟨w.heap.size, 0, none⟩)) true ty).run Tryz.prog wr = .ok (.tuple #[.bool false]) wr := fun ty => Lib.run_next_end_at wr w.heap.size s k ty hit (by have := hsz.out; omega)
      have hfin : ∀ V, wr.ownsRow (w.heap.size + 1) 3 1 V k (intsI ((D.map outOf).take k)) → wr.ownsRow w.heap.size 3 1 V (D.map outOf).length (intsI (D.map outOf)) := fun V h => by
        rw [e, List.take_of_length_le (by simp)] at h
        rw [List.length_map]
        refine ⟨h.1, ?_⟩
        rcases h.2 with hn | ⟨g, cap, cur, rfl, hb, rest⟩
        · exact .inl hn
        · exact .inr ⟨g, cap, cur, rfl, by omega, rest⟩
      have hf := Lib.hid (hfin _ hown)
      clear hit e hfin
      go_wp2
      go_ret2
      exact ⟨_, rfl, hf.out, hb⟩
set_option maxHeartbeats 2000000 in
set_option maxRecDepth 1000000 in
theorem values_no (D : List UInt8) (hD : D.all okC = false) (hl : D.length ≤ 1000000) (w : World) :
    Calls Tryz.prog 91 #[.string (str D)] w fun e w' => e = .returned (.tuple #[.slice none 0 0, .bool false]) ∧ Below w.heap.size w w' := by
  obtain ⟨i0, hi, hz0, hz1, hz2⟩ := info_parts Tryz.infoInt
  have hsz := Lib.hid (size_str D)
  have hget : Hid (∀ (k : Nat) (h : k < (str D).size), (str D)[k] = D.getD k 0) := Lib.hid (fun k h => by
    have : k < D.length := by rwa [size_str] at h
    simp [str, List.getD, this]; rfl)
  have hend : Hid (¬ (D.take D.length).all okC = true) := Lib.hid (by rw [List.take_length, hD]; decide)
  have hsucc : Hid (∀ k, k < D.length → (D.take k).all okC = true → okC (D.getD k 0) = true → (D.take (k + 1)).all okC = true) := Lib.hid (fun k h h1 h2 => by
    rw [List.take_succ_eq_append_getElem h, List.all_append, h1]
    have : D[k] = D.getD k 0 := by simp [List.getD, h]
    rw [this]; simp only [List.all_cons, h2, List.all_nil]; rfl)
  generalize str D = s at *
  clear hD
  go_enter Tryz.func91, Tryz.ntmps91
  go_wp2
  go_loopw [4, 6, 7] (fun v _ _ wr => ∃ (k : Nat) (xs : List Value), k ≤ D.length ∧ Hid ((D.take k).all okC = true) ∧ wr.ownsRow (w.heap.size + 1) 3 1 v k xs ∧ wr.heap[w.heap.size]? = some (.stringIter s k) ∧ Below w.heap.size w wr) (fun _ _ _ wr => D.length - wr.iterPos w.heap.size)
  case atStart =>
    refine ⟨0, [], by omega, Lib.hid rfl, World.ownsRow_nil _ _ _ _, ?_, below_alloc1 w _⟩
    have := World.iter_heap w s 0
    simpa using this
  case round =>
    obtain ⟨k, xs, hk, hA, hown, hit, hb⟩ := hrel
    have hpos : Hid (wr.iterPos w.heap.size = k) := Lib.hid (by simp [World.iterPos, hit])
    have hz := size_of_block hit
    have hlt : k < D.length := by
      rcases Nat.lt_or_ge k D.length with h | h
      · exact h
      · have e : k = D.length := by omega
        have := hA.out
        rw [e] at this
        exact absurd this hend.out
    have hks : k < s.size := by have := hsz.out; omega
    have hgk := hget.out k hks
    have hst := Lib.hid (hsucc.out k hlt hA.out)
    generalize D.getD k 0 = c at *
    by_cases hck : okC c = true
    · have h128 : c.toNat < 128 := by
        unfold okC at hck
        simp only [Bool.or_eq_true, beq_iff_eq] at hck
        rcases hck with (h | h) | h <;> subst h <;> decide
      have hnx : ∀ ty, (Instr.next (.pointer (some ⟨w.heap.size, 0, none⟩)) true ty).run Tryz.prog wr = .ok (.tuple #[.bool true, .int .i64 k, .int .i32 c.toNat]) (wr.iterAt w.heap.size s (k + 1)) := fun ty => by
        rw [Lib.run_next_ascii_at wr w.heap.size s k ty hit hks (by rw [hgk]; exact h128), hgk]
      have HI := fun w => idx_any (c.toNat : Int) (by omega) w
      rw [(outOf_idx c hck).1] at HI
      have hov := (outOf_idx c hck).2
      have hit' := Lib.iterAt_heap wr _ _ _ (k + 1) hit
      have hb' := Lib.below_iterAt hb (Nat.le_refl _) s (k + 1)
      have hown' := own_keep (w' := wr.iterAt w.heap.size s (k + 1)) hown (fun g _ hg _ => Lib.iterAt_other _ _ _ _ _ (by omega))
      have hall := Lib.hid (hst.out hck)
      clear hgk hit hb hown hck
      generalize wr.iterAt w.heap.size s (k + 1) = wx at *
      generalize outOf c = x at *
      generalize c.toNat = cn at *
      have hzx := size_of_block hit'
      have hx0 : ¬ x < 0 := by omega
      go_wp2_with fail
      refine (HI _).mono ?_
      rintro e w1 ⟨rfl, hb1⟩
      have hit1 := keep_blk hb1 hit'
      have hB1 := hb'.trans (hb1.mono hb'.size)
      have hown1 := owns_below hown' hb1
      have hzb := hb1.size
      clear hb1 hit' hb' hown' HI hnx
      go_wp2_with (at_builtin; go_loud (refine wpList_append_own _ rfl _ _ 84 rfl (w.heap.size + 1) 3 i0 (.int .i64 0) 1 8 Tryz.underlying84 hi hz0 hz1 hz2 rfl (by decide) _ _ _ rfl (hown1.alloc _) ⟨w1.heap.size, 0, none⟩ 1 1 [.int .i64 x] rfl rfl ?c1 ?c2 ?c3 ?c4 ?c5 ?_))
      case c1 => exact cell_one_new _ _ _
      case c2 => intro u hu; simp at hu; subst hu; rfl
      case c3 => unfold maxLen; omega
      case c4 => omega
      case c5 => simp; omega
      intro v' w2 hown2 hgrow _
      have hR : w2.heap[w.heap.size]? = some (.stringIter s (k + 1)) ∧ Below w.heap.size w w2 :=
        ⟨((grown_low hown1 hgrow _ (by omega) (by simp; omega)).trans (Below.heap_alloc _ _ _ (by omega))).trans hit1, grown_below hown1 hgrow (hB1.alloc (by omega) _) (by omega) (by simp; omega)⟩
      have hp2 : Hid (w2.iterPos w.heap.size = k + 1) := Lib.hid (by simp [World.iterPos, hR.1])
      clear hgrow hown1 hit1 hB1
      go_wp2
      go_roundw
      case rel => exact ⟨k + 1, _, by omega, hall, hown2, hR.1, hR.2⟩
      case measure => rw [hp2.out, hpos.out]; omega
    · have hck' : okC c = false := by simpa using hck
      have hr : ∃ (r : Int) (m : Nat), (∀ ty, (Instr.next (.pointer (some ⟨w.heap.size, 0, none⟩)) true ty).run Tryz.prog wr = .ok (.tuple #[.bool true, .int .i64 k, .int .i32 r]) (wr.iterAt w.heap.size s m)) ∧ 0 ≤ r ∧ idxO r = -1 := by
        by_cases ha : c.toNat < 128
        · refine ⟨c.toNat, k + 1, fun ty => ?_, by omega, idx_not c hck'⟩
          rw [Lib.run_next_ascii_at wr w.heap.size s k ty hit hks (by rw [hgk]; exact ha), hgk]
        · have := decode_high s k hks (by rw [hgk]; omega)
          refine ⟨(Utf8.decode s k).1, k + (Utf8.decode s k).2, fun ty => Lib.run_next_any_at wr w.heap.size s k ty hit hks, by omega, ?_⟩
          unfold idxO
          rw [if_neg (by omega), if_neg (by omega), if_neg (by omega)]
      obtain ⟨r, m, hnx, hr0, hri⟩ := hr
      have HI := fun w => idx_any r hr0 w
      rw [hri] at HI
      have hb' := Lib.below_iterAt hb (Nat.le_refl _) s m
      clear hgk hit hb hown hck hck' hst hri
      generalize wr.iterAt w.heap.size s m = wx at *
      go_wp2_with fail
      refine (HI _).mono ?_
      rintro e w1 ⟨rfl, hb1⟩
      have hB1 := hb'.trans (hb1.mono hb'.size)
      clear HI hnx hb1 hb'
      go_wp2
      go_ret2
      exact ⟨rfl, hB1⟩
end Go.Proofs.YtckmjampgeojbaaGreatDoor
namespace Go.Proofs.YtckmjampgeojbaaGreatDoor
open Go.RowKit Go.Joins

/-- A line that is none: what is handed back has three cells. -/
def RowBad (w : World) (e : Ending) (w' : World) : Prop := ∃ (m v : BitVec 8) (A : Option Addr) (n c : Nat), e = .returned (.tuple #[.agg #[.int .u8 m.toNat, .int .u8 v.toNat, .slice A n c], .bool false]) ∧ Below w.heap.size w w'
/-- A line that is one. -/
def RowGood (w : World) (l : List UInt8) (I : Int) (e : Ending) (w' : World) : Prop := ∃ V, e = .returned (.tuple #[.agg #[.int .u8 (rowLn l I).m.toNat, .int .u8 (rowLn l I).v.toNat, V], .bool true]) ∧ w'.ownsRow w.heap.size 3 1 V (rowLn l I).o.length (intsI (rowLn l I).o) ∧ Below w.heap.size w w'
theorem own_form {w : World} {base size n : Nat} {e : TypeId} {v : Value} {xs : List Value} (h : w.ownsRow base e size v n xs) : ∃ A c, v = .slice A n c := by
  rcases h.2 with ⟨hv, h0⟩ | ⟨g, cap, cur, hv, _⟩
  · exact ⟨none, 0, by rw [hv, h0]⟩
  · exact ⟨_, _, hv⟩
theorem own_more {w : World} {base base' size n : Nat} {e : TypeId} {v : Value} {xs : List Value} (h : w.ownsRow base e size v n xs) (hb : base' ≤ base) : w.ownsRow base' e size v n xs := by
  refine ⟨h.1, ?_⟩
  rcases h.2 with hn | ⟨g, cap, cur, rfl, hg, rest⟩
  · exact .inl hn
  · exact .inr ⟨g, cap, cur, rfl, by omega, rest⟩
theorem own_ne {w : World} {base size n b : Nat} {e t : TypeId} {v : Value} {xs : List Value} {cs : Array Value} {fz : Nat × Nat} (h : w.ownsRow base e size v n xs) (hb : w.heap[b]? = some (.cells cs t fz)) (hne : e ≠ t) : v.ownBlock ≠ some b := by
  rcases h.2 with ⟨rfl, _⟩ | ⟨g, cap, cur, rfl, _, hg, _⟩
  · simp [Value.ownBlock]
  · intro he
    have : g = b := by simpa [Value.ownBlock] using he
    subst this
    rw [hg] at hb
    injection hb with hb
    injection hb with _ ht _
    exact hne ht
theorem own_set {w : World} {base size n b : Nat} {e : TypeId} {v : Value} {xs : List Value} (h : w.ownsRow base e size v n xs) (hne : v.ownBlock ≠ some b) (j : Nat) (u : Value) : (w.setCell ⟨b, j, none⟩ u).ownsRow base e size v n xs :=
  own_keep h (fun g hg _ _ => Below.heap_setCell _ _ _ _ (fun e => hne (by rw [hg]; exact congrArg some e)))
theorem Tryz.neIL : 3 ≠ 93 := by decide
set_option maxHeartbeats 2000000 in
set_option maxRecDepth 1000000 in
theorem row_len_no (l : List UInt8) (I N : Nat) (hi : I ≤ 8) (hn : N ≤ 4) (h : ¬ l.length = I + 1 + N) (hl : l.length ≤ 1000000) (w : World) :
    Calls Tryz.prog 79 #[.string (str l), .int .i64 I, .int .i64 N] w (RowBad w) := by
  have hs := size_str l
  have hne : (((str l).size : Int) != (I : Int) + 1 + (N : Int)) = true := by rw [bne_iff_ne, hs]; omega
  have hs2 : (str l).size ≤ 1000000 := by omega
  clear hs h
  generalize str l = s at *
  go_enter Tryz.func79, Tryz.ntmps79
  go_wp2
  exact bodyPost_ret (v := .tuple #[.agg #[.int .u8 0, .int .u8 0, .slice none 0 0], .bool false]) (by simp [results, Tryz.results79, go_sem]) rfl
    ⟨0, 0, none, 0, 0, rfl, below_alloc1 w _⟩
set_option maxHeartbeats 2000000 in
set_option maxRecDepth 1000000 in
theorem row_sep_no (l : List UInt8) (I N : Nat) (hi : I ≤ 8) (hn : N ≤ 4) (h : l.length = I + 1 + N) (hsep : ¬ (l.drop I).take 1 = [32]) (w : World) :
    Calls Tryz.prog 79 #[.string (str l), .int .i64 I, .int .i64 N] w (RowBad w) := by
  have hs := size_str l
  have hne : (((str l).size : Int) != (I : Int) + 1 + (N : Int)) = false := by rw [hs]; simp; omega
  have hx : ((str l).extract I (I + 1)).toList = (l.drop I).take 1 := by
    rw [extract_str, toList_str, show I + 1 - I = 1 by omega]
  have hx2 : ((l.drop I).take 1 == [32]) = false := by simpa using hsep
  have b1 : (I : Int) + 1 ≤ ((str l).size : Int) := by omega
  have hs2 : (str l).size ≤ 1000000 := by omega
  clear hs h hsep
  generalize str l = s at *
  generalize (l.drop I).take 1 = sp at *
  go_enter Tryz.func79, Tryz.ntmps79
  go_wp2
  exact bodyPost_ret (v := .tuple #[.agg #[.int .u8 0, .int .u8 0, .slice none 0 0], .bool false]) (by simp [results, Tryz.results79, go_sem]) rfl
    ⟨0, 0, none, 0, 0, rfl, below_alloc1 w _⟩
/-- What row goes through where the line has its length and its space. -/
theorem row_cuts (l : List UInt8) (I : Nat) : (str l).extract 0 I = str (l.take I) ∧ (str l).extract (I + 1) (str l).size = str (l.drop (I + 1)) := by
  refine ⟨by rw [extract_str]; simp, ?_⟩
  rw [extract_str, size_str]
  congr 1
  exact List.take_of_length_le (by simp)
set_option maxHeartbeats 4000000 in
set_option maxRecDepth 1000000 in
theorem row_yes (l : List UInt8) (I N : Nat) (hi : I ≤ 8) (hn : N ≤ 4) (h : rowOk l I N = true) (w : World) :
    Calls Tryz.prog 79 #[.string (str l), .int .i64 I, .int .i64 N] w (RowGood w l I) := by
  unfold rowOk at h
  simp only [Bool.and_eq_true, decide_eq_true_eq, Int.toNat_natCast] at h
  obtain ⟨⟨⟨hl, hsep⟩, hc⟩, hv⟩ := h
  have hl' : l.length = I + 1 + N := by omega
  have hs := size_str l
  have hne : (((str l).size : Int) != (I : Int) + 1 + (N : Int)) = false := by rw [hs]; simp; omega
  have hx : ((str l).extract I (I + 1)).toList = [32] := by
    rw [extract_str, toList_str, show I + 1 - I = 1 by omega, hsep]
  obtain ⟨e1, e2⟩ := row_cuts l I
  have b1 : (I : Int) + 1 ≤ ((str l).size : Int) := by omega
  have b2 : (I : Int) ≤ ((str l).size : Int) := by omega
  have hs2 : (str l).size ≤ 1000000 := by omega
  have HC := fun w => cparse_any (str (l.take I)) (by rw [size_str]; simp; unfold maxLen; omega) w
  have HV := fun w => values_yes (l.drop (I + 1)) hv (by simp; omega) w
  have hE : pE (str (l.take I)) = 0 := by unfold pE; rw [if_pos hc]
  rw [hE] at HC
  have hm : Hid ((rowLn l I).m = pM (str (l.take I))) := Lib.hid (by simp [rowLn])
  have hvv : Hid ((rowLn l I).v = pV (str (l.take I))) := Lib.hid (by simp [rowLn])
  have ho : Hid ((rowLn l I).o = (l.drop (I + 1)).map outOf) := Lib.hid (by simp [rowLn])
  unfold cv bvv at HC
  clear hs hsep hl hl' hc hv hE
  generalize pM (str (l.take I)) = M at *
  generalize pV (str (l.take I)) = V at *
  generalize (l.drop (I + 1)).map outOf = O at *
  generalize str (l.take I) = s1 at *
  generalize str (l.drop (I + 1)) = s2 at *
  generalize str l = s at *
  go_enter Tryz.func79, Tryz.ntmps79
  go_wp2_with fail
  refine (HC _).mono ?_
  rintro e wp ⟨rfl, hbp⟩
  have hr0 := keep_blk hbp (heap_alloc_new _ _)
  have hBp : Below w.heap.size w wp := (below_alloc1 w _).trans (hbp.mono (by simp))
  clear hbp HC
  go_wp2_with fail
  refine (HV _).mono ?_
  rintro e wv ⟨vv, rfl, hown, hbv⟩
  have hr1 := keep_blk hbv (keep_alloc hr0)
  have hc1 := keep_blk hbv (heap_alloc_new _ _)
  have hBv : Below w.heap.size w wv := (hBp.alloc hBp.size _).trans (hbv.mono (by have := hBp.size; simp; omega))
  obtain ⟨A, cap, rfl⟩ := own_form hown
  have hown1 := own_more (base' := w.heap.size) hown (by have := hBp.size; simp; omega)
  have hpz := size_of_block hr0
  clear hown hbv hBp HV hr0
  generalize wp.heap.size = bp at *
  obtain ⟨d0, d1, -⟩ := now2 hc1 rfl
  obtain ⟨z0, z1, z2, zf⟩ := now3 hr1 rfl
  have hnb := own_ne hown1 hr1 Tryz.neIL
  have hkeep := fun a b c : Value => own_set (own_set (own_set hown1 hnb 0 a) hnb 1 b) hnb 2 c
  go_wp2
  exact bodyPost_ret (v := .tuple #[.agg #[.int .u8 M.toNat, .int .u8 V.toNat, .slice A O.length cap], .bool true]) (by simp [results, Tryz.results79, go_sem, z0, z1, z2]) rfl
    ⟨_, by rw [hm.out, hvv.out], by rw [ho.out]; exact hkeep _ _ _, ((hBv.setCell (by show _ ≤ w.heap.size; omega) _).setCell (by show _ ≤ w.heap.size; omega) _).setCell (by show _ ≤ w.heap.size; omega) _⟩
set_option maxHeartbeats 4000000 in
set_option maxRecDepth 1000000 in
theorem row_bad_yes (l : List UInt8) (I N : Nat) (hi : I ≤ 8) (hn : N ≤ 4) (hl' : l.length = I + 1 + N) (hsep : (l.drop I).take 1 = [32]) (hv : (l.drop (I + 1)).all okC = true) (hc : okT (str (l.take I)) = false) (w : World) :
    Calls Tryz.prog 79 #[.string (str l), .int .i64 I, .int .i64 N] w (RowBad w) := by
  have hs := size_str l
  have hne : (((str l).size : Int) != (I : Int) + 1 + (N : Int)) = false := by rw [hs]; simp; omega
  have hx : ((str l).extract I (I + 1)).toList = [32] := by
    rw [extract_str, toList_str, show I + 1 - I = 1 by omega, hsep]
  obtain ⟨e1, e2⟩ := row_cuts l I
  have b1 : (I : Int) + 1 ≤ ((str l).size : Int) := by omega
  have b2 : (I : Int) ≤ ((str l).size : Int) := by omega
  have hs2 : (str l).size ≤ 1000000 := by omega
  have HC := fun w => cparse_any (str (l.take I)) (by rw [size_str]; simp; unfold maxLen; omega) w
  have HV := fun w => values_yes (l.drop (I + 1)) hv (by simp; omega) w
  have hE : pE (str (l.take I)) = 2 := by unfold pE; rw [if_neg (by rw [hc]; decide)]
  rw [hE] at HC
  unfold cv bvv at HC
  clear hs hsep hl' hc hv hE
  generalize pM (str (l.take I)) = M at *
  generalize pV (str (l.take I)) = V at *
  generalize (l.drop (I + 1)).map outOf = O at *
  generalize str (l.take I) = s1 at *
  generalize str (l.drop (I + 1)) = s2 at *
  generalize str l = s at *
  go_enter Tryz.func79, Tryz.ntmps79
  go_wp2_with fail
  refine (HC _).mono ?_
  rintro e wp ⟨rfl, hbp⟩
  have hr0 := keep_blk hbp (heap_alloc_new _ _)
  have hBp : Below w.heap.size w wp := (below_alloc1 w _).trans (hbp.mono (by simp))
  clear hbp HC
  go_wp2_with fail
  refine (HV _).mono ?_
  rintro e wv ⟨vv, rfl, hown, hbv⟩
  have hr1 := keep_blk hbv (keep_alloc hr0)
  have hc1 := keep_blk hbv (heap_alloc_new _ _)
  have hBv : Below w.heap.size w wv := (hBp.alloc hBp.size _).trans (hbv.mono (by have := hBp.size; simp; omega))
  obtain ⟨A, cap, rfl⟩ := own_form hown
  have hpz := size_of_block hr0
  clear hown hbv hBp HV hr0
  generalize wp.heap.size = bp at *
  obtain ⟨d0, d1, -⟩ := now2 hc1 rfl
  obtain ⟨z0, z1, z2, zf⟩ := now3 hr1 rfl
  go_wp2
  exact bodyPost_ret (v := .tuple #[.agg #[.int .u8 M.toNat, .int .u8 V.toNat, .slice A O.length cap], .bool false]) (by simp [results, Tryz.results79, go_sem, z0, z1, z2]) rfl
    ⟨M, V, A, O.length, cap, rfl, ((hBv.setCell (by show _ ≤ w.heap.size; omega) _).setCell (by show _ ≤ w.heap.size; omega) _).setCell (by show _ ≤ w.heap.size; omega) _⟩
set_option maxHeartbeats 4000000 in
set_option maxRecDepth 1000000 in
theorem row_bad_no (l : List UInt8) (I N : Nat) (hi : I ≤ 8) (hn : N ≤ 4) (hl' : l.length = I + 1 + N) (hsep : (l.drop I).take 1 = [32]) (hv : (l.drop (I + 1)).all okC = false) (w : World) :
    Calls Tryz.prog 79 #[.string (str l), .int .i64 I, .int .i64 N] w (RowBad w) := by
  have hs := size_str l
  have hne : (((str l).size : Int) != (I : Int) + 1 + (N : Int)) = false := by rw [hs]; simp; omega
  have hx : ((str l).extract I (I + 1)).toList = [32] := by
    rw [extract_str, toList_str, show I + 1 - I = 1 by omega, hsep]
  obtain ⟨e1, e2⟩ := row_cuts l I
  have b1 : (I : Int) + 1 ≤ ((str l).size : Int) := by omega
  have b2 : (I : Int) ≤ ((str l).size : Int) := by omega
  have hs2 : (str l).size ≤ 1000000 := by omega
  have HC := fun w => cparse_any (str (l.take I)) (by rw [size_str]; simp; unfold maxLen; omega) w
  have HV := fun w => values_no (l.drop (I + 1)) hv (by simp; omega) w
  have hE : pE (str (l.take I)) = 2 ∨ pE (str (l.take I)) = 0 := by unfold pE; split; exact Or.inr rfl; exact Or.inl rfl
  unfold cv bvv at HC
  clear hs hsep hl' hv
  generalize pM (str (l.take I)) = M at *
  generalize pV (str (l.take I)) = V at *
  generalize pE (str (l.take I)) = E at *
  generalize str (l.take I) = s1 at *
  generalize str (l.drop (I + 1)) = s2 at *
  generalize str l = s at *
  rcases hE with rfl | rfl
  all_goals
    go_enter Tryz.func79, Tryz.ntmps79
    go_wp2_with fail
    refine (HC _).mono ?_
    rintro e wp ⟨rfl, hbp⟩
    have hr0 := keep_blk hbp (heap_alloc_new _ _)
    have hBp : Below w.heap.size w wp := (below_alloc1 w _).trans (hbp.mono (by simp))
    clear hbp HC
    go_wp2_with fail
    refine (HV _).mono ?_
    rintro e wv ⟨rfl, hbv⟩
    have hr1 := keep_blk hbv (keep_alloc hr0)
    have hc1 := keep_blk hbv (heap_alloc_new _ _)
    have hBv : Below w.heap.size w wv := (hBp.alloc hBp.size _).trans (hbv.mono (by have := hBp.size; simp; omega))
    have hpz := size_of_block hr0
    clear hbv hBp HV hr0
    generalize wp.heap.size = bp at *
    obtain ⟨d0, d1, -⟩ := now2 hc1 rfl
    obtain ⟨z0, z1, z2, zf⟩ := now3 hr1 rfl
    go_wp2
    exact bodyPost_ret (v := .tuple #[.agg #[.int .u8 M.toNat, .int .u8 V.toNat, .slice none 0 0], .bool false]) (by simp [results, Tryz.results79, go_sem, z0, z1, z2]) rfl
      ⟨M, V, none, 0, 0, rfl, ((hBv.setCell (by show _ ≤ w.heap.size; omega) _).setCell (by show _ ≤ w.heap.size; omega) _).setCell (by show _ ≤ w.heap.size; omega) _⟩
theorem row_no (l : List UInt8) (I N : Nat) (hi : I ≤ 8) (hn : N ≤ 4) (hl : l.length ≤ 1000000) (h : rowOk l I N = false) (w : World) :
    Calls Tryz.prog 79 #[.string (str l), .int .i64 I, .int .i64 N] w (RowBad w) := by
  by_cases h1 : l.length = I + 1 + N
  · by_cases h2 : (l.drop I).take 1 = [32]
    · cases hv : (l.drop (I + 1)).all okC
      · exact row_bad_no l I N hi hn h1 h2 hv w
      · cases hc : okT (str (l.take I))
        · exact row_bad_yes l I N hi hn h1 h2 hv hc w
        · exfalso
          unfold rowOk at h
          simp only [Int.toNat_natCast] at h
          rw [hv, hc] at h
          simp [h2] at h
          omega
    · exact row_sep_no l I N hi hn h1 h2 w
  · exact row_len_no l I N hi hn h1 hl w
end Go.Proofs.YtckmjampgeojbaaGreatDoor
