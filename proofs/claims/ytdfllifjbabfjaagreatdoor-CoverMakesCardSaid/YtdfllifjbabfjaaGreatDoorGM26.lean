/- The document's own Right of layer 4, for every spec. -/
import Derived.Test.YtdfllifjbabfjaaGreatDoorGM17
import Derived.Test.YtdfllifjbabfjaaGreatDoorGM25
namespace Go.Proofs.YtdfllifjbabfjaaGreatDoor
open Go.RowKit Go.Joins

theorem HeadH.takeL {P : Program} {l : List Oper} {n : Nat} {S : World → Prop} {Q : Exit → Act → World → Prop} {i k : Nat} {o : Oper} {v : Value} {done : Array Bool} {a : Act} {w : World} (hF : tailOk l n = true) (ho : l[i]? = some o) (hi : decide (i < n) = true)
    (hf : Region.free .any l.toArray done i = true) (hr : (Region.ready .any l.toArray done).contains i = true)
    (hQ : ∀ c a w, Q (.panic c) (a.put o.dst v) w → Q (.panic c) a w) (hy : YieldsIf P l.toArray S o v a) (hS : S w)
    (h : HeadH P .any l.toArray Q S n (TailL P l Q n) k (done.setIfInBounds i true) (a.put o.dst v) w) : HeadH P .any l.toArray Q S n (TailL P l Q n) (k + 1) done a w :=
  HeadH.take hF (by simpa using ho) hi hf hr hQ hy hS h
theorem HeadH.oneL {P : Program} {l : List Oper} {n : Nat} {S : World → Prop} {Q : Exit → Act → World → Prop} {i k : Nat} {o : Oper} {done : Array Bool} {a : Act} {w : World} (hr : Region.ready .any l.toArray done = [i]) (hi : decide (i < n) = true) (ho : l[i]? = some o)
    (h : ∀ K' : Act → World → Prop, Shut (∀ a w, S w → (S w → HeadH P .any l.toArray Q S n (TailL P l Q n) k (done.setIfInBounds i true) a w) → K' a w) → if Region.wanted o (yielded l.toArray a.tmps) = true then Oper.wp P o a w K' Q else K' (a.put o.dst undef) w) :
    HeadH P .any l.toArray Q S n (TailL P l Q n) (k + 1) done a w :=
  HeadH.one hr hi (by simpa using ho) h
set_option maxHeartbeats 4000000 in
set_option maxRecDepth 100000 in
theorem rspec_bad (i : Int) (A C : Value) (on may : List (BitVec 256)) (w : World) (hA : SetsAt w w.heap.size A on) (hC : SetsAt w w.heap.size C may)
    (h : i < 0 ∨ (0 ≤ i ∧ 8 < i) ∨ (0 ≤ i ∧ i ≤ 8 ∧ on.length < 1) ∨ (0 ≤ i ∧ i ≤ 8 ∧ 1 ≤ on.length ∧ 4 < on.length) ∨ (0 ≤ i ∧ i ≤ 8 ∧ 1 ≤ on.length ∧ on.length ≤ 4 ∧ may.length ≠ on.length)) :
    Calls Tryz.prog 12 #[spv i A C] w fun e w' => e = .returned (.bool false) ∧ Below w.heap.size w w' := by
  have hB0 := below_alloc1 w (spb i A C)
  obtain ⟨A, ac, rfl, la, -⟩ := hA
  obtain ⟨C, cc, rfl, lc, -⟩ := hC
  unfold spv spb at *
  have h' : i < 0 ∨ (0 ≤ i ∧ 8 < i) ∨ (0 ≤ i ∧ i ≤ 8 ∧ (on.length : Int) < 1) ∨ (0 ≤ i ∧ i ≤ 8 ∧ 1 ≤ (on.length : Int) ∧ 4 < (on.length : Int)) ∨ (0 ≤ i ∧ i ≤ 8 ∧ 1 ≤ (on.length : Int) ∧ (on.length : Int) ≤ 4 ∧ (((may.length : Nat) : Int) != ((on.length : Nat) : Int)) = true) := by
    simp only [bne_iff_ne]; omega
  clear h
  rcases h' with h | ⟨h1, h⟩ | ⟨h1, h2, h⟩ | ⟨h1, h2, h3, h⟩ | ⟨h1, h2, h3, h4, h⟩
  all_goals
    go_enter Tryz.func12, Tryz.ntmps12
    go_wp2
    go_ret
    exact ⟨rfl, hB0⟩
set_option maxHeartbeats 8000000 in
set_option maxRecDepth 100000 in
theorem rspec_good (i : Nat) (A C : Value) (on may : List (BitVec 256)) (w : World) (hA : SetsAt w w.heap.size A on) (hC : SetsAt w w.heap.size C may) (hi : i ≤ 8) (h1 : 1 ≤ on.length) (h4 : on.length ≤ 4) (he : on.length = may.length) :
    Calls Tryz.prog 12 #[spv i A C] w fun e w' => e = .returned (.bool (spB ⟨i, on, may⟩)) ∧ Below w.heap.size w w' := by
  have hyes := Lib.hid (spB_all (s := ⟨i, on, may⟩) ((headS_iff _).2 ⟨⟨Int.natCast_nonneg _, by show (i : Int) ≤ 8; omega⟩, ⟨h1, h4⟩, he⟩))
  have hno := Lib.hid (fun j hj h => spB_not (s := ⟨i, on, may⟩) (j := j) hj h)
  have hside : Hid (∀ j X Y, on[j]? = some X → may[j]? = some Y → sideB ⟨i, on, may⟩ j = (decide (X &&& ~~~Y = 0) && decide (Y &&& ~~~(allB i) = 0))) := Lib.hid (by
    intro j X Y hX hY
    unfold sideB
    simp only [getD_of hX, getD_of hY, Int.toNat_natCast])
  generalize spB ⟨i, on, may⟩ = R at *
  have hB0 := below_alloc1 w (spb i A C)
  have hs0 := heap_alloc_new w (spb i A C)
  have HAll := fun w => refall_any i hi w
  obtain ⟨A, ac, rfl, la, hA⟩ := hA
  obtain ⟨C, cc, rfl, lc, hC⟩ := hC
  have g0 : ¬ (i : Int) < 0 := by omega
  have g8 : ¬ 8 < (i : Int) := by omega
  have h1' : ¬ (on.length : Int) < 1 := by omega
  have h4' : ¬ 4 < (on.length : Int) := by omega
  have he' : (((may.length : Nat) : Int) != ((on.length : Nat) : Int)) = false := by rw [he]; simp
  have heN := Lib.hid he
  unfold spv spb at *
  clear h1 h4 he
  go_enter Tryz.func12, Tryz.ntmps12
  go_wp2
  go_loopw [3] (fun t wr => ∃ j : Nat, j ≤ on.length ∧ t = .int .i64 j ∧ Hid (∀ q, q < j → sideB ⟨i, on, may⟩ q = true) ∧ Below w.heap.size w wr ∧ wr.heap[w.heap.size]? = some (.cells #[Value.int .i64 i, .slice A on.length ac, .slice C may.length cc] 24 (0, 0))) (fun t _ => on.length - (intOf t).toNat)
  case atStart => exact ⟨0, by omega, rfl, Lib.hid (fun q hq => by omega), hB0, hs0⟩
  case round =>
    clear hB0 hs0
    obtain ⟨j, hj, rfl, hH, hb, hs⟩ := hrel
    obtain ⟨s0, s1, s2, -⟩ := now3 hs rfl
    by_cases hlt : j < on.length
    · skip
      obtain ⟨b, off, rfl, hBb, hc⟩ := hA (by omega)
      obtain ⟨b2, off2, rfl, hBb2, hc2⟩ := hC (by have := heN.out; omega)
      obtain ⟨X, hX⟩ : ∃ X, on[j]? = some X := ⟨_, List.getElem?_eq_getElem hlt⟩
      obtain ⟨Y, hY⟩ : ∃ Y, may[j]? = some Y := ⟨_, List.getElem?_eq_getElem (by have := heN.out; omega)⟩
      have hlt2 : (j : Int) < may.length := by have := heN.out; omega
      obtain ⟨x0, x1, x2, x3⟩ := hc j X hX
      obtain ⟨y0, y1, y2, y3⟩ := hc2 j Y hY
      unfold wv at x0 x1 x2 x3 y0 y1 y2 y3
      have hcx0 := fun W (hW : Below w.heap.size w W) => (hW.cell (p := ⟨b, off + j * 4, none⟩) hBb).trans x0
      have hcx1 := fun W (hW : Below w.heap.size w W) => (hW.cell (p := ⟨b, off + j * 4 + 1, none⟩) hBb).trans x1
      have hcx2 := fun W (hW : Below w.heap.size w W) => (hW.cell (p := ⟨b, off + j * 4 + 2, none⟩) hBb).trans x2
      have hcx3 := fun W (hW : Below w.heap.size w W) => (hW.cell (p := ⟨b, off + j * 4 + 3, none⟩) hBb).trans x3
      have hcy0 := fun W (hW : Below w.heap.size w W) => (hW.cell (p := ⟨b2, off2 + j * 4, none⟩) hBb2).trans y0
      have hcy1 := fun W (hW : Below w.heap.size w W) => (hW.cell (p := ⟨b2, off2 + j * 4 + 1, none⟩) hBb2).trans y1
      have hcy2 := fun W (hW : Below w.heap.size w W) => (hW.cell (p := ⟨b2, off2 + j * 4 + 2, none⟩) hBb2).trans y2
      have hcy3 := fun W (hW : Below w.heap.size w W) => (hW.cell (p := ⟨b2, off2 + j * 4 + 3, none⟩) hBb2).trans y3
      clear hc hc2 x0 x1 x2 x3 y0 y1 y2 y3 hA hC
      have hsd := Lib.hid (hside.out j X Y hX hY)
      have HW1 := fun w => refwithin_any X Y w
      have HW2 := fun w => refwithin_any Y (allB i) w
      unfold sv wv at HW1 HW2
      clear hX hY hside
      go_upto_region 6 with (fail)
      clear s0 s1 s2
      cases e1 : decide (X &&& ~~~Y = 0)
      · rw [e1] at HW1
        have hR := Lib.hid (hno.out j hlt (by rw [hsd.out, e1]; rfl))
        clear e1 hsd hno hyes HW2 HAll
        obtain ⟨S0, S1, S2, -⟩ := box3 hs rfl
        have C0 := fun x : After wr => After.cell x (hcx0 _ hb)
        have C1 := fun x : After wr => After.cell x (hcx1 _ hb)
        have C2 := fun x : After wr => After.cell x (hcx2 _ hb)
        have C3 := fun x : After wr => After.cell x (hcx3 _ hb)
        have D0 := fun x : After wr => After.cell x (hcy0 _ hb)
        have D1 := fun x : After wr => After.cell x (hcy1 _ hb)
        have D2 := fun x : After wr => After.cell x (hcy2 _ hb)
        have D3 := fun x : After wr => After.cell x (hcy3 _ hb)
        refine wp_region_after (by kernel_rfl) (by kernel_rfl) ?_
        repeat (first | go_big_quiet_step ((go_at_call 35; exact Calls.after_of (HW1 _))))
        refine wpQuiet_nil ?_
        intro x
        clear S0 S1 S2 C0 C1 C2 C3 D0 D1 D2 D3 HW1
        go_wp2
        go_ret
        exact ⟨by rw [hR.out]; rfl, hb.trans (x.2.mono hb.size)⟩
      · rw [e1] at HW1
        refine wp_region_held_tail 24 (fun w' => w'.heap[w.heap.size]? = some (.cells #[Value.int .i64 i, .slice (some ⟨b, off, none⟩) on.length ac, .slice (some ⟨b2, off2, none⟩) may.length cc] 24 (0, 0)) ∧ w'.cell? ⟨b, off + j * 4, none⟩ = some (.int .u64 (wd X 0).toNat) ∧ w'.cell? ⟨b, off + j * 4 + 1, none⟩ = some (.int .u64 (wd X 1).toNat) ∧ w'.cell? ⟨b, off + j * 4 + 2, none⟩ = some (.int .u64 (wd X 2).toNat) ∧ w'.cell? ⟨b, off + j * 4 + 3, none⟩ = some (.int .u64 (wd X 3).toNat) ∧ w'.cell? ⟨b2, off2 + j * 4, none⟩ = some (.int .u64 (wd Y 0).toNat) ∧ w'.cell? ⟨b2, off2 + j * 4 + 1, none⟩ = some (.int .u64 (wd Y 1).toNat) ∧ w'.cell? ⟨b2, off2 + j * 4 + 2, none⟩ = some (.int .u64 (wd Y 2).toNat) ∧ w'.cell? ⟨b2, off2 + j * 4 + 3, none⟩ = some (.int .u64 (wd Y 3).toNat)) (by kernel_rfl) (by kernel_rfl) (⟨hs, hcx0 _ (hb.drew), hcx1 _ (hb.drew), hcx2 _ (hb.drew), hcx3 _ (hb.drew), hcy0 _ (hb.drew), hcy1 _ (hb.drew), hcy2 _ (hb.drew), hcy3 _ (hb.drew)⟩) (fun hF hHeld => ?_)
        refine HeadH.takeL (i := 0) (v := ?_) hF rfl (by kernel_rfl) (by kernel_rfl) (by kernel_rfl) (fun _ _ _ h => h) (Or.inl ⟨by rfl, ?_⟩) (by assumption) ?_
        rotate_left 1
        · intro w_ hSw
          obtain ⟨k1, _, _, _, _, _, _, _, _⟩ := hSw
          obtain ⟨_, _, _, -⟩ := now3 k1 rfl
          go_simp
          try with_reducible rfl
        try simp only [Act.put, List.setIfInBounds_toArray, List.set_cons_zero, List.set_cons_succ]
        refine HeadH.takeL (i := 1) (v := ?_) hF rfl (by kernel_rfl) (by kernel_rfl) (by kernel_rfl) (fun _ _ _ h => h) (Or.inl ⟨by rfl, ?_⟩) (by assumption) ?_
        rotate_left 1
        · intro w_ hSw
          obtain ⟨k1, _, _, _, _, _, _, _, _⟩ := hSw
          obtain ⟨_, _, _, -⟩ := now3 k1 rfl
          go_simp
          try with_reducible rfl
        try simp only [Act.put, List.setIfInBounds_toArray, List.set_cons_zero, List.set_cons_succ]
        refine HeadH.takeL (i := 2) (v := ?_) hF rfl (by kernel_rfl) (by kernel_rfl) (by kernel_rfl) (fun _ _ _ h => h) (Or.inl ⟨by rfl, ?_⟩) (by assumption) ?_
        rotate_left 1
        · intro w_ hSw
          obtain ⟨k1, _, _, _, _, _, _, _, _⟩ := hSw
          obtain ⟨_, _, _, -⟩ := now3 k1 rfl
          go_simp
          try with_reducible rfl
        try simp only [Act.put, List.setIfInBounds_toArray, List.set_cons_zero, List.set_cons_succ]
        refine HeadH.takeL (i := 3) (v := ?_) hF rfl (by kernel_rfl) (by kernel_rfl) (by kernel_rfl) (fun _ _ _ h => h) (Or.inl ⟨by rfl, ?_⟩) (by assumption) ?_
        rotate_left 1
        · intro w_ hSw
          obtain ⟨k1, _, _, _, _, _, _, _, _⟩ := hSw
          obtain ⟨_, _, _, -⟩ := now3 k1 rfl
          go_simp
          try with_reducible rfl
        try simp only [Act.put, List.setIfInBounds_toArray, List.set_cons_zero, List.set_cons_succ]
        refine HeadH.takeL (i := 4) (v := ?_) hF rfl (by kernel_rfl) (by kernel_rfl) (by kernel_rfl) (fun _ _ _ h => h) (Or.inl ⟨by rfl, ?_⟩) (by assumption) ?_
        rotate_left 1
        · intro w_ hSw
          obtain ⟨k1, _, _, _, _, _, _, _, _⟩ := hSw
          obtain ⟨_, _, _, -⟩ := now3 k1 rfl
          go_simp
          try with_reducible rfl
        try simp only [Act.put, List.setIfInBounds_toArray, List.set_cons_zero, List.set_cons_succ]
        refine HeadH.takeL (i := 5) (v := ?_) hF rfl (by kernel_rfl) (by kernel_rfl) (by kernel_rfl) (fun _ _ _ h => h) (Or.inl ⟨by rfl, ?_⟩) (by assumption) ?_
        rotate_left 1
        · intro w_ hSw
          obtain ⟨k1, _, _, _, _, _, _, _, _⟩ := hSw
          obtain ⟨_, _, _, -⟩ := now3 k1 rfl
          go_simp
          try with_reducible rfl
        try simp only [Act.put, List.setIfInBounds_toArray, List.set_cons_zero, List.set_cons_succ]
        refine HeadH.takeL (i := 6) (v := ?_) hF rfl (by kernel_rfl) (by kernel_rfl) (by kernel_rfl) (fun _ _ _ h => h) (Or.inl ⟨by rfl, ?_⟩) (by assumption) ?_
        rotate_left 1
        · intro w_ hSw
          obtain ⟨k1, _, _, _, _, _, _, _, _⟩ := hSw
          obtain ⟨_, _, _, -⟩ := now3 k1 rfl
          go_simp
          try with_reducible rfl
        try simp only [Act.put, List.setIfInBounds_toArray, List.set_cons_zero, List.set_cons_succ]
        refine HeadH.takeL (i := 7) (v := ?_) hF rfl (by kernel_rfl) (by kernel_rfl) (by kernel_rfl) (fun _ _ _ h => h) (Or.inl ⟨by rfl, ?_⟩) (by assumption) ?_
        rotate_left 1
        · intro w_ hSw
          obtain ⟨k1, _, _, _, _, _, _, _, _⟩ := hSw
          obtain ⟨_, _, _, -⟩ := now3 k1 rfl
          go_simp
          try with_reducible rfl
        try simp only [Act.put, List.setIfInBounds_toArray, List.set_cons_zero, List.set_cons_succ]
        refine HeadH.takeL (i := 8) (v := ?_) hF rfl (by kernel_rfl) (by kernel_rfl) (by kernel_rfl) (fun _ _ _ h => h) (Or.inl ⟨by rfl, ?_⟩) (by assumption) ?_
        rotate_left 1
        · intro w_ hSw
          obtain ⟨k1, _, _, _, _, _, _, _, _⟩ := hSw
          obtain ⟨_, _, _, -⟩ := now3 k1 rfl
          go_simp
          try with_reducible rfl
        try simp only [Act.put, List.setIfInBounds_toArray, List.set_cons_zero, List.set_cons_succ]
        refine HeadH.takeL (i := 9) (v := ?_) hF rfl (by kernel_rfl) (by kernel_rfl) (by kernel_rfl) (fun _ _ _ h => h) (Or.inl ⟨by rfl, ?_⟩) (by assumption) ?_
        rotate_left 1
        · intro w_ hSw
          obtain ⟨k1, _, _, _, _, _, _, _, _⟩ := hSw
          obtain ⟨_, _, _, -⟩ := now3 k1 rfl
          go_simp
          try with_reducible rfl
        try simp only [Act.put, List.setIfInBounds_toArray, List.set_cons_zero, List.set_cons_succ]
        refine HeadH.oneL (i := 10) (by kernel_rfl) (by kernel_rfl) rfl (fun _ hK => ?_)
        go_simp
        refine (HW1 _).mono ?_
        rintro e wa ⟨rfl, hba⟩
        have hBa : Below wr.heap.size wr wa := (Below.refl _ _).drew.trans hba
        have hBwa := hb.trans (hBa.mono hb.size)
        have hsa := keep_blk hBa hs
        refine hK.out _ _ ⟨hsa, hcx0 _ (hBwa), hcx1 _ (hBwa), hcx2 _ (hBwa), hcx3 _ (hBwa), hcy0 _ (hBwa), hcy1 _ (hBwa), hcy2 _ (hBwa), hcy3 _ (hBwa)⟩ (fun hHeld => ?_)
        clear hK
        try simp only [Act.put, List.setIfInBounds_toArray, List.set_cons_zero, List.set_cons_succ]
        refine HeadH.takeL (i := 11) (v := ?_) hF rfl (by kernel_rfl) (by kernel_rfl) (by kernel_rfl) (fun _ _ _ h => h) (Or.inl ⟨by rfl, ?_⟩) (by assumption) ?_
        rotate_left 1
        · intro w_ hSw
          obtain ⟨k1, _, _, _, _, _, _, _, _⟩ := hSw
          obtain ⟨_, _, _, -⟩ := now3 k1 rfl
          go_simp
          try with_reducible rfl
        try simp only [Act.put, List.setIfInBounds_toArray, List.set_cons_zero, List.set_cons_succ]
        refine HeadH.takeL (i := 12) (v := ?_) hF rfl (by kernel_rfl) (by kernel_rfl) (by kernel_rfl) (fun _ _ _ h => h) (Or.inl ⟨by rfl, ?_⟩) (by assumption) ?_
        rotate_left 1
        · intro w_ hSw
          obtain ⟨k1, _, _, _, _, _, _, _, _⟩ := hSw
          obtain ⟨_, _, _, -⟩ := now3 k1 rfl
          go_simp
          try with_reducible rfl
        try simp only [Act.put, List.setIfInBounds_toArray, List.set_cons_zero, List.set_cons_succ]
        refine HeadH.takeL (i := 13) (v := ?_) hF rfl (by kernel_rfl) (by kernel_rfl) (by kernel_rfl) (fun _ _ _ h => h) (Or.inl ⟨by rfl, ?_⟩) (by assumption) ?_
        rotate_left 1
        · intro w_ hSw
          obtain ⟨k1, _, _, _, _, _, _, _, _⟩ := hSw
          obtain ⟨_, _, _, -⟩ := now3 k1 rfl
          go_simp
          try with_reducible rfl
        try simp only [Act.put, List.setIfInBounds_toArray, List.set_cons_zero, List.set_cons_succ]
        refine HeadH.takeL (i := 14) (v := ?_) hF rfl (by kernel_rfl) (by kernel_rfl) (by kernel_rfl) (fun _ _ _ h => h) (Or.inl ⟨by rfl, ?_⟩) (by assumption) ?_
        rotate_left 1
        · intro w_ hSw
          obtain ⟨k1, _, _, _, _, _, _, _, _⟩ := hSw
          obtain ⟨_, _, _, -⟩ := now3 k1 rfl
          go_simp
          try with_reducible rfl
        try simp only [Act.put, List.setIfInBounds_toArray, List.set_cons_zero, List.set_cons_succ]
        refine HeadH.takeL (i := 15) (v := ?_) hF rfl (by kernel_rfl) (by kernel_rfl) (by kernel_rfl) (fun _ _ _ h => h) (Or.inl ⟨by rfl, ?_⟩) (by assumption) ?_
        rotate_left 1
        · intro w_ hSw
          obtain ⟨k1, _, _, _, _, _, _, _, _⟩ := hSw
          obtain ⟨_, _, _, -⟩ := now3 k1 rfl
          go_simp
          try with_reducible rfl
        try simp only [Act.put, List.setIfInBounds_toArray, List.set_cons_zero, List.set_cons_succ]
        refine HeadH.takeL (i := 16) (v := ?_) hF rfl (by kernel_rfl) (by kernel_rfl) (by kernel_rfl) (fun _ _ _ h => h) (Or.inl ⟨by rfl, ?_⟩) (by assumption) ?_
        rotate_left 1
        · intro w_ hSw
          obtain ⟨k1, _, _, _, _, _, _, _, _⟩ := hSw
          obtain ⟨_, _, _, -⟩ := now3 k1 rfl
          go_simp
          try with_reducible rfl
        try simp only [Act.put, List.setIfInBounds_toArray, List.set_cons_zero, List.set_cons_succ]
        refine HeadH.takeL (i := 17) (v := ?_) hF rfl (by kernel_rfl) (by kernel_rfl) (by kernel_rfl) (fun _ _ _ h => h) (Or.inl ⟨by rfl, ?_⟩) (by assumption) ?_
        rotate_left 1
        · intro w_ hSw
          obtain ⟨k1, _, _, _, _, _, _, _, _⟩ := hSw
          obtain ⟨_, _, _, -⟩ := now3 k1 rfl
          go_simp
          try with_reducible rfl
        try simp only [Act.put, List.setIfInBounds_toArray, List.set_cons_zero, List.set_cons_succ]
        refine HeadH.takeL (i := 18) (v := ?_) hF rfl (by kernel_rfl) (by kernel_rfl) (by kernel_rfl) (fun _ _ _ h => h) (Or.inl ⟨by rfl, ?_⟩) (by assumption) ?_
        rotate_left 1
        · intro w_ hSw
          obtain ⟨k1, _, _, _, _, _, _, _, _⟩ := hSw
          obtain ⟨_, _, _, -⟩ := now3 k1 rfl
          go_simp
          try with_reducible rfl
        try simp only [Act.put, List.setIfInBounds_toArray, List.set_cons_zero, List.set_cons_succ]
        refine HeadH.takeL (i := 19) (v := ?_) hF rfl (by kernel_rfl) (by kernel_rfl) (by kernel_rfl) (fun _ _ _ h => h) (Or.inl ⟨by rfl, ?_⟩) (by assumption) ?_
        rotate_left 1
        · intro w_ hSw
          obtain ⟨k1, _, _, _, _, _, _, _, _⟩ := hSw
          obtain ⟨_, _, _, -⟩ := now3 k1 rfl
          go_simp
          try with_reducible rfl
        try simp only [Act.put, List.setIfInBounds_toArray, List.set_cons_zero, List.set_cons_succ]
        refine HeadH.oneL (i := 20) (by kernel_rfl) (by kernel_rfl) rfl (fun _ hK => ?_)
        go_simp
        refine (HAll _).mono ?_
        rintro e wb ⟨bz, rfl, hbz0, hbz1, hbzc, hbb⟩
        have hBwb := hBwa.trans (hbb.mono hBwa.size)
        have hsb := keep_blk hbb hsa
        refine hK.out _ _ ⟨hsb, hcx0 _ (hBwb), hcx1 _ (hBwb), hcx2 _ (hBwb), hcx3 _ (hBwb), hcy0 _ (hBwb), hcy1 _ (hBwb), hcy2 _ (hBwb), hcy3 _ (hBwb)⟩ (fun hHeld => ?_)
        clear hK
        try simp only [Act.put, List.setIfInBounds_toArray, List.set_cons_zero, List.set_cons_succ]
        refine HeadH.oneL (i := 21) (by kernel_rfl) (by kernel_rfl) rfl (fun _ hK => ?_)
        go_simp
        have HSt := refset_any (fun p => decide (p < 2 ^ i)) bz 256 wb hbz1 hbzc
        rw [show (bvOf fun p => decide (p < 2 ^ i)) = allB i from rfl] at HSt
        unfold sv wv at HSt
        refine HSt.mono ?_
        rintro e wc ⟨rfl, hbc⟩
        have hBwc := hBwb.trans (hbc.mono hBwb.size)
        have hsc := keep_blk hbc hsb
        refine hK.out _ _ ⟨hsc, hcx0 _ (hBwc), hcx1 _ (hBwc), hcx2 _ (hBwc), hcx3 _ (hBwc), hcy0 _ (hBwc), hcy1 _ (hBwc), hcy2 _ (hBwc), hcy3 _ (hBwc)⟩ (fun hHeld => ?_)
        clear HSt hbzc
        clear hK
        try simp only [Act.put, List.setIfInBounds_toArray, List.set_cons_zero, List.set_cons_succ]
        refine HeadH.oneL (i := 22) (by kernel_rfl) (by kernel_rfl) rfl (fun _ hK => ?_)
        go_simp
        refine (HW2 _).mono ?_
        rintro e wd' ⟨rfl, hbd⟩
        have hBwd := hBwc.trans (hbd.mono hBwc.size)
        have hsd' := keep_blk hbd hsc
        refine hK.out _ _ ⟨hsd', hcx0 _ (hBwd), hcx1 _ (hBwd), hcx2 _ (hBwd), hcx3 _ (hBwd), hcy0 _ (hBwd), hcy1 _ (hBwd), hcy2 _ (hBwd), hcy3 _ (hBwd)⟩ (fun hHeld => ?_)
        clear hK
        try simp only [Act.put, List.setIfInBounds_toArray, List.set_cons_zero, List.set_cons_succ]
        generalize hq : decide (Y &&& ~~~(allB i) = 0) = q2 at *
        refine HeadH.takeL (i := 23) (v := ?_) hF rfl (by kernel_rfl) (by kernel_rfl) (by kernel_rfl) (fun _ _ _ h => h) (Or.inl ⟨by rfl, ?_⟩) (by assumption) ?_
        rotate_left 1
        · intro w_ hSw
          obtain ⟨k1, _, _, _, _, _, _, _, _⟩ := hSw
          obtain ⟨_, _, _, -⟩ := now3 k1 rfl
          go_simp
          try with_reducible rfl
        try simp only [Act.put, List.setIfInBounds_toArray, List.set_cons_zero, List.set_cons_succ]
        refine ⟨by kernel_rfl, ?_⟩
        simp only [List.drop_succ_cons, List.drop_zero]
        clear hHeld hcx0 hcx1 hcx2 hcx3 hcy0 hcy1 hcy2 hcy3 HW1 HW2 HAll hsa hsb hsc hba hbb hbc hbd hBa hs
        cases q2
        · have hR := Lib.hid (hno.out j hlt (by rw [hsd.out, e1]; rfl))
          clear e1 hq hsd hno hyes
          go_wp2
          go_ret
          exact ⟨by rw [hR.out]; rfl, hBwd⟩
        · have hR := Lib.hid (show sideB ⟨i, on, may⟩ j = true by rw [hsd.out, e1]; rfl)
          clear e1 hq hsd hno hyes
          go_wp2
          go_roundw
          case rel => exact ⟨j + 1, by omega, by go_num, Lib.hid (fun q hq => by
            by_cases e : q = j
            · subst e; exact hR.out
            · exact hH.out q (by omega)), hBwd, hsd'⟩
          case measure => simp [intOf]; omega
    · have e : j = on.length := by omega
      have hR := Lib.hid (hyes.out (fun q hq => hH.out q (by rw [e]; exact hq)))
      clear hyes hno hside hA hC
      go_wp2
      go_ret
      exact ⟨by rw [hR.out]; rfl, hb⟩
theorem rspec_any (i : Int) (A C : Value) (on may : List (BitVec 256)) (w : World) (hA : SetsAt w w.heap.size A on) (hC : SetsAt w w.heap.size C may) :
    Calls Tryz.prog 12 #[spv i A C] w fun e w' => e = .returned (.bool (spB ⟨i, on, may⟩)) ∧ Below w.heap.size w w' := by
  by_cases h : i < 0 ∨ (0 ≤ i ∧ 8 < i) ∨ (0 ≤ i ∧ i ≤ 8 ∧ on.length < 1) ∨ (0 ≤ i ∧ i ≤ 8 ∧ 1 ≤ on.length ∧ 4 < on.length) ∨ (0 ≤ i ∧ i ≤ 8 ∧ 1 ≤ on.length ∧ on.length ≤ 4 ∧ may.length ≠ on.length)
  · rw [spB_head (s := ⟨i, on, may⟩) (Bool.eq_false_iff.2 fun hh => by have := (headS_iff _).1 hh; simp only at this; omega)]
    exact rspec_bad i A C on may w hA hC h
  · obtain ⟨k, rfl⟩ := Int.eq_ofNat_of_zero_le (show 0 ≤ i by omega)
    exact rspec_good k A C on may w hA hC (by omega) (by omega) (by omega) (by omega)
end Go.Proofs.YtdfllifjbabfjaaGreatDoor
