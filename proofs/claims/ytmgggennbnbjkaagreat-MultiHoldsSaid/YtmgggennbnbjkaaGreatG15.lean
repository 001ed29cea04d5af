/- The document's own Prime of layer 9. Which tables are right, by the program: between, the lines' closures, ContainsFunc over numbers and over lines, rightLine, Right. Rows of the package spec: value, cubesRight, outsRight, for every list of rows. -/
import Derived.Test.YtmgggennbnbjkaaGreatG14
import Derived.Test.YtmgggennbnbjkaaGreatG13
import Derived.Test.YtmgggennbnbjkaaGreatG09
namespace Go.Proofs.YtmgggennbnbjkaaGreat
open Go.RowKit Go.Joins

theorem primB_no {S : BitVec 256} {n : Int} {m v : BitVec 8} (h : inB S n m v = false) : primB S n m v = false := by unfold primB; rw [h]; rfl
theorem primB_hit {S : BitVec 256} {n : Nat} {m v : BitVec 8} {i : Nat} (hi : i < n) (hm : m.getLsbD i = true) (h : inB S n (drM m i) (drM v i) = true) : primB S n m v = false := by
  rw [Bool.eq_false_iff]
  intro hp
  have := ((primB_iff S n m v).1 hp).2 i (by omega) hm
  rw [h] at this; cases this
theorem primB_end {S : BitVec 256} {n : Nat} {m v : BitVec 8} (h0 : inB S n m v = true) (h : ∀ i, i < n → m.getLsbD i = true → inB S n (drM m i) (drM v i) = false) : primB S n m v = true :=
  (primB_iff S n m v).2 ⟨h0, fun i hi => h i (by omega)⟩
end Go.Proofs.YtmgggennbnbjkaaGreat
namespace Go.Proofs.YtmgggennbnbjkaaGreat
open Go.RowKit Go.Joins

def firstI {α : Type} (p : α → Bool) (l : List α) : Int := match l.findIdx? p with | some k => k | none => -1
theorem firstI_at {α : Type} {p : α → Bool} {l : List α} {k : Nat} {x : α} (h : l[k]? = some x) (hn : (l.take k).any p = false) (hp : p x = true) : firstI p l = k := by
  unfold firstI
  have hk : k < l.length := (List.getElem?_eq_some_iff.1 h).1
  have : l.findIdx? p = some k := by
    rw [List.findIdx?_eq_some_iff_getElem]
    refine ⟨hk, by rw [(List.getElem?_eq_some_iff.1 h).2]; exact hp, fun j hj => ?_⟩
    rw [List.any_eq_false] at hn
    have := hn (l[j]) (List.mem_iff_getElem.2 ⟨j, by simp; omega, by simp⟩)
    simpa using this
  rw [this]
theorem firstI_none {α : Type} {p : α → Bool} {l : List α} (h : l.any p = false) : firstI p l = -1 := by
  unfold firstI
  have : l.findIdx? p = none := by
    rw [List.findIdx?_eq_none_iff]
    intro x hx
    rw [List.any_eq_false] at h
    simpa using h x hx
  rw [this]
theorem firstI_ge {α : Type} (p : α → Bool) (l : List α) : decide (0 ≤ firstI p l) = l.any p := by
  cases h : l.any p
  · rw [firstI_none h]; rfl
  · unfold firstI
    cases hf : l.findIdx? p with
    | none =>
      rw [List.findIdx?_eq_none_iff] at hf
      rw [List.any_eq_true] at h
      obtain ⟨x, hx, hp⟩ := h
      rw [hf x hx] at hp
      cases hp
    | some k => simp
theorem any_take_succ {α : Type} {p : α → Bool} {l : List α} {k : Nat} {x : α} (h : l[k]? = some x) (hn : (l.take k).any p = false) (hp : p x = false) : (l.take (k + 1)).any p = false := by
  have hk : k < l.length := (List.getElem?_eq_some_iff.1 h).1
  rw [List.take_succ_eq_append_getElem hk, List.any_append, hn]
  have : l[k] = x := (List.getElem?_eq_some_iff.1 h).2
  simp [this, hp]
theorem le0 (w : World) : w.heap.size ≤ w.heap.size := Nat.le_refl _
end Go.Proofs.YtmgggennbnbjkaaGreat
namespace Go.Proofs.YtmgggennbnbjkaaGreat
open Go.RowKit Go.Joins

theorem value_any (x : BitVec 8) (i : Nat) (hi : i < 8) (w : World) :
    Calls Tryz.prog 54 #[bvv x, .int .i64 i] w fun e w' => e = .returned (.int .i64 (bitI x i)) ∧ w = w' := by
  have hb := Lib.hid (bitI_eq x i)
  have hl : 0 ≤ bitI x i ∧ bitI x i ≤ 1 := by unfold bitI; split <;> omega
  unfold bvv
  go_enter Tryz.func54, Tryz.ntmps54
  go_wp2
  go_ret
  exact ⟨ret_int (by rw [hb.out]; unfold wrap64; omega), rfl⟩
theorem cubes1_any (x : Rw) (bi : Nat) (i : Int) (w : World) (hi : w.cell? ⟨bi, 0, none⟩ = some (.int .i64 i)) :
    Calls Tryz.prog 72 #[rwv x, .pointer (some ⟨bi, 0, none⟩)] w fun e w' => e = .returned (.bool (!rightB x.m x.v i)) ∧ Below w.heap.size w w' := by
  have HR := fun w => right_any x.m x.v i w
  have hb := block_lt_of_cell hi
  have hi1 : ∀ o, (w.alloc o).cell? ⟨bi, 0, none⟩ = some (.int .i64 i) := fun o => (World.cell?_alloc_lt _ _ _ hb).trans hi
  generalize rightB x.m x.v i = q at *
  unfold rwv cv bvv at *
  go_enter Tryz.func72, Tryz.ntmps72
  go_wp2_with fail
  refine (HR _).mono ?_
  rintro e w1 ⟨rfl, hb1⟩
  go_wp2
  go_ret
  exact ⟨rfl, (below_alloc1 w _).trans (hb1.mono (by simp))⟩
theorem outs1_any (x : Rw) (bi : Nat) (k : Nat) (hk : k ≤ 8) (w : World) (hi : w.cell? ⟨bi, 0, none⟩ = some (.int .i64 k)) :
    Calls Tryz.prog 74 #[rwv x, .pointer (some ⟨bi, 0, none⟩)] w fun e w' => e = .returned (.bool (!outsB x.o k)) ∧ Below w.heap.size w w' := by
  have hb := block_lt_of_cell hi
  have hi1 : ∀ o, (w.alloc o).cell? ⟨bi, 0, none⟩ = some (.int .i64 k) := fun o => (World.cell?_alloc_lt _ _ _ hb).trans hi
  have hq : (x.o.toNat : Int) / 2 ^ k = ((x.o.toNat / 2 ^ k : Nat) : Int) := by rw [Int.natCast_ediv]; simp
  by_cases h0 : x.o = 0
  · have hB : Hid (outsB x.o k = false) := Lib.hid (by unfold outsB; simp [h0])
    have hz : ((x.o.toNat : Int) == 0) = true := by rw [h0]; rfl
    unfold rwv bvv at *
    clear h0 hq
    go_enter Tryz.func74, Tryz.ntmps74
    go_wp2
    go_ret
    exact ⟨by rw [hB.out]; rfl, below_alloc1 w _⟩
  · have hz : ((x.o.toNat : Int) == 0) = false := by
      rw [beq_eq_false_iff_ne]; intro e; exact h0 (BitVec.eq_of_toNat_eq (by simpa using e))
    by_cases h1 : x.o.toNat / 2 ^ k = 0
    · have hB : Hid (outsB x.o k = true) := Lib.hid (by unfold outsB; rw [decide_eq_true h0, decide_eq_true h1]; rfl)
      have hz1 : ((x.o.toNat : Int) / 2 ^ k != 0) = false := by rw [hq, h1]; rfl
      unfold rwv bvv at *
      clear h0 h1 hq
      go_enter Tryz.func74, Tryz.ntmps74
      go_wp2
      go_ret
      exact ⟨by rw [hB.out]; rfl, below_alloc1 w _⟩
    · have hB : Hid (outsB x.o k = false) := Lib.hid (by unfold outsB; simp [h1])
      have hz1 : ((x.o.toNat : Int) / 2 ^ k != 0) = true := by rw [hq, bne_iff_ne]; intro e; exact h1 (by exact_mod_cast e)
      unfold rwv bvv at *
      clear h0 h1 hq
      go_enter Tryz.func74, Tryz.ntmps74
      go_wp2
      go_ret
      exact ⟨by rw [hB.out]; rfl, below_alloc1 w _⟩
set_option maxHeartbeats 1000000 in
set_option maxRecDepth 100000 in
theorem indexRows_any (K : Nat) (caps : Array Value) (p : Rw → Bool) (L : Value) (rs : List Rw) (w : World)
    (hcf : ∀ (args : Array Value) (w1 : World), (Sem.run Tryz.prog (callFunc K args) w1) = .ok (.enter K args) w1)
    (hcl : ∀ x w1, Below w.heap.size w w1 → Calls Tryz.prog K (#[rwv x] ++ caps) w1 fun e w' => e = .returned (.bool (p x)) ∧ Below w1.heap.size w1 w')
    (hL : RwsAt w w.heap.size L rs) :
    Calls Tryz.prog 92 #[L, .func (.func K) #[] caps] w fun e w' => e = .returned (.int .i64 (firstI p rs)) ∧ Below w.heap.size w w' := by
  have hat := Lib.hid (fun (j : Nat) (x : Rw) (h : rs[j]? = some x) (hn : (rs.take j).any p = false) (hp : p x = true) => firstI_at h hn hp)
  have hno := Lib.hid (fun (h : rs.any p = false) => firstI_none h)
  obtain ⟨A, c, rfl, hlen, hA⟩ := hL
  unfold rwv at hcl
  go_enter Tryz.func92, Tryz.ntmps92
  go_wp2
  go_loopw [5, 8] (fun _ t wr => ∃ j : Nat, j ≤ rs.length ∧ t = .int .i64 j ∧ Hid ((rs.take j).any p = false) ∧ Below w.heap.size w wr) (fun _ t _ => rs.length - (intOf t).toNat)
  case atStart => exact ⟨0, by omega, rfl, Lib.hid (by simp), Below.refl _ _⟩
  case round =>
    obtain ⟨j, hj, rfl, hH, hb⟩ := hrel
    by_cases hlt : j < rs.length
    · obtain ⟨b, off, rfl, hB, hc⟩ := hA (by omega)
      obtain ⟨l, hl⟩ : ∃ l, rs[j]? = some l := ⟨_, List.getElem?_eq_getElem hlt⟩
      obtain ⟨c0, c1, c2⟩ := hc j l hl
      have d0 := (hb.cell (p := ⟨b, off + j * 3, none⟩) hB).trans c0
      have d1 := (hb.cell (p := ⟨b, off + j * 3 + 1, none⟩) hB).trans c1
      have d2 := (hb.cell (p := ⟨b, off + j * 3 + 2, none⟩) hB).trans c2
      have hgl := Lib.hid hl
      have HX := hcl l wr hb
      unfold bvv at *
      clear hc hl hcl c0 c1 c2 hA
      cases hp : p l
      · rw [hp] at HX
        have hp' := Lib.hid hp
        clear hp
        go_wp2_with fail
        refine HX.mono ?_
        rintro e w1 ⟨rfl, hb1⟩
        have hB1 := hb.trans (hb1.mono hb.size)
        clear hb1
        go_wp2
        go_roundw
        case rel => exact ⟨j + 1, by omega, by go_num, Lib.hid (any_take_succ hgl.out hH.out hp'.out), hB1⟩
        case measure => simp [intOf]; omega
      · rw [hp] at HX
        have hr := Lib.hid (hat.out j l hgl.out hH.out hp)
        clear hp
        go_wp2_with fail
        refine HX.mono ?_
        rintro e w1 ⟨rfl, hb1⟩
        have hB1 := hb.trans (hb1.mono hb.size)
        clear hb1
        go_wp2
        go_ret
        exact ⟨by rw [hr.out]; rfl, hB1⟩
    · have e : j = rs.length := by omega
      subst e
      have hr := Lib.hid (hno.out (by have := hH.out; rwa [List.take_length] at this))
      clear hA hcl hcf
      go_wp2
      go_ret
      exact ⟨by rw [hr.out]; rfl, hb⟩
theorem containsRows_any (K : Nat) (caps : Array Value) (p : Rw → Bool) (L : Value) (rs : List Rw) (w : World)
    (hcf : ∀ (args : Array Value) (w1 : World), (Sem.run Tryz.prog (callFunc K args) w1) = .ok (.enter K args) w1)
    (hcl : ∀ x w1, Below w.heap.size w w1 → Calls Tryz.prog K (#[rwv x] ++ caps) w1 fun e w' => e = .returned (.bool (p x)) ∧ Below w1.heap.size w1 w')
    (hL : RwsAt w w.heap.size L rs) :
    Calls Tryz.prog 71 #[L, .func (.func K) #[] caps] w fun e w' => e = .returned (.bool (rs.any p)) ∧ Below w.heap.size w w' := by
  have H := indexRows_any K caps p L rs w hcf hcl hL
  have hr := Lib.hid (firstI_ge p rs)
  clear hL hcl hcf
  generalize firstI p rs = n at *
  go_enter Tryz.func71, Tryz.ntmps71
  go_wp2_with fail
  refine H.mono ?_
  rintro e w1 ⟨rfl, hb1⟩
  go_wp2
  go_ret
  exact ⟨by rw [← hr.out]; rfl, hb1⟩
theorem not_any_not {α : Type} (p : α → Bool) (l : List α) : (!(l.any fun x => !p x)) = l.all p := by
  rw [List.not_any_eq_all_not]; simp
theorem cubesRight_any (L : Value) (rs : List Rw) (i : Int) (w : World) (hL : RwsAt w w.heap.size L rs) :
    Calls Tryz.prog 52 #[L, .int .i64 i] w fun e w' => e = .returned (.bool (rs.all fun x => rightB x.m x.v i)) ∧ Below w.heap.size w w' := by
  have hmf : ∀ (fn : Fn) (first cap : Array Value) (w : World), (Instr.makeFunc fn first cap).run Tryz.prog w = .ok (.func fn first cap) w := fun _ _ _ _ => rfl
  have hA := below_alloc1 w (.cells #[Value.int IntKind.i64 i] 3)
  have H := containsRows_any 72 #[.pointer (some ⟨w.heap.size, 0, none⟩)] (fun x => !rightB x.m x.v i) L rs (w.alloc (.cells #[Value.int IntKind.i64 i] 3)) (fun _ _ => by kernel_rfl)
    (fun x w1 hb => cubes1_any x w.heap.size i w1 ((hb.cell (p := ⟨w.heap.size, 0, none⟩) (by simp)).trans (by rw [cell_of_block (heap_alloc_new _ _)]; rfl)))
    ((hL.below hA).more hA.size)
  have hr := Lib.hid (not_any_not (fun x : Rw => rightB x.m x.v i) rs)
  obtain ⟨A, c, rfl, -, -⟩ := hL
  generalize (rs.any fun x => !rightB x.m x.v i) = q at *
  go_enter Tryz.func52, Tryz.ntmps52
  go_wp2_with fail
  refine H.mono ?_
  rintro e w1 ⟨rfl, hb1⟩
  go_wp2
  go_ret
  exact ⟨by rw [← hr.out]; rfl, hA.trans (hb1.mono (by simp))⟩
theorem outsRight_any (L : Value) (rs : List Rw) (k : Nat) (hk : k ≤ 8) (w : World) (hL : RwsAt w w.heap.size L rs) :
    Calls Tryz.prog 53 #[L, .int .i64 k] w fun e w' => e = .returned (.bool (rs.all fun x => outsB x.o k)) ∧ Below w.heap.size w w' := by
  have hmf : ∀ (fn : Fn) (first cap : Array Value) (w : World), (Instr.makeFunc fn first cap).run Tryz.prog w = .ok (.func fn first cap) w := fun _ _ _ _ => rfl
  have hA := below_alloc1 w (.cells #[Value.int IntKind.i64 k] 3)
  have H := containsRows_any 74 #[.pointer (some ⟨w.heap.size, 0, none⟩)] (fun x => !outsB x.o k) L rs (w.alloc (.cells #[Value.int IntKind.i64 k] 3)) (fun _ _ => by kernel_rfl)
    (fun x w1 hb => outs1_any x w.heap.size k hk w1 ((hb.cell (p := ⟨w.heap.size, 0, none⟩) (by simp)).trans (by rw [cell_of_block (heap_alloc_new _ _)]; rfl)))
    ((hL.below hA).more hA.size)
  have hr := Lib.hid (not_any_not (fun x : Rw => outsB x.o k) rs)
  obtain ⟨A, c, rfl, -, -⟩ := hL
  generalize (rs.any fun x => !outsB x.o k) = q at *
  go_enter Tryz.func53, Tryz.ntmps53
  go_wp2_with fail
  refine H.mono ?_
  rintro e w1 ⟨rfl, hb1⟩
  go_wp2
  go_ret
  exact ⟨by rw [← hr.out]; rfl, hA.trans (hb1.mono (by simp))⟩
end Go.Proofs.YtmgggennbnbjkaaGreat
