/- Rows and specs: what they are in memory, and what is said of them, plain. Which tables are right, by the program: between, the lines' closures, ContainsFunc over numbers and over lines, rightLine, Right. Rows of the package spec: value, cubesRight, outsRight, for every list of rows. -/
import Derived.Test.YtdfllifjbabfjaaGreatDoorGM10
import Derived.Test.YtdfllifjbabfjaaGreatDoorGM14
import Derived.Test.YtdfllifjbabfjaaGreatDoorGM08
namespace Go.Proofs.YtdfllifjbabfjaaGreatDoor
open Go.RowKit Go.Joins

/-- A row: a cube, and the bits of its outputs. -/
structure Rw where
  m : BitVec 8
  v : BitVec 8
  o : BitVec 8
/-- What is asked for. -/
structure Sp where
  i : Int
  on : List (BitVec 256)
  may : List (BitVec 256)
/-- The slice v reads as the rows rs. -/
def RwsAt (w : World) (B : Nat) (v : Value) (rs : List Rw) : Prop :=
  ∃ A c, v = .slice A rs.length c ∧ rs.length ≤ 9223372036854775807 ∧
    (0 < rs.length → ∃ b off, A = some ⟨b, off, none⟩ ∧ b < B ∧ ∀ j x, rs[j]? = some x → w.cell? ⟨b, off + j * 3, none⟩ = some (bvv x.m) ∧ w.cell? ⟨b, off + j * 3 + 1, none⟩ = some (bvv x.v) ∧
      w.cell? ⟨b, off + j * 3 + 2, none⟩ = some (bvv x.o))
def spv (i : Int) (A C : Value) : Value := .agg #[.int .i64 i, A, C]
def spb (i : Int) (A C : Value) : Obj := .cells #[.int .i64 i, A, C] 24 (0, 0)
def rwv (x : Rw) : Value := .agg #[bvv x.m, bvv x.v, bvv x.o]

theorem RwsAt.below {w w' : World} {B : Nat} {v : Value} {rs : List Rw} (h : RwsAt w B v rs) (hb : Below B w w') : RwsAt w' B v rs := by
  obtain ⟨A, c, e, hl, h⟩ := h
  refine ⟨A, c, e, hl, fun h0 => ?_⟩
  obtain ⟨b, off, eA, hB, hc⟩ := h h0
  refine ⟨b, off, eA, hB, fun j X hx => ?_⟩
  obtain ⟨a0, a1, a2⟩ := hc j X hx
  exact ⟨(hb.cell (p := ⟨b, off + j * 3, none⟩) hB).trans a0, (hb.cell (p := ⟨b, off + j * 3 + 1, none⟩) hB).trans a1, (hb.cell (p := ⟨b, off + j * 3 + 2, none⟩) hB).trans a2⟩
theorem RwsAt.more {w : World} {B B' : Nat} {v : Value} {rs : List Rw} (h : RwsAt w B v rs) (hB : B ≤ B') : RwsAt w B' v rs := by
  obtain ⟨A, c, e, hl, h⟩ := h
  refine ⟨A, c, e, hl, fun h0 => ?_⟩
  obtain ⟨b, off, eA, hb, hc⟩ := h h0
  exact ⟨b, off, eA, by omega, hc⟩

/-! ### Points of rows and of lines -/
/-- Does a row that has the output's bit have the point? -/
def covB (rs : List Rw) (p out : Nat) : Bool := rs.any fun x => x.o.getLsbD out && fits x.m x.v 8 p
def ptsR (rs : List Rw) (n out : Nat) : BitVec 256 := bvOf fun p => decide (p < 2 ^ n) && covB rs p out
/-- Has a line that says x of the output the point? -/
def markB (ls : List Ln) (p out : Nat) (x : Int) : Bool := ls.any fun l => decide (l.o.getD out 9 = x) && fits l.m l.v 8 p
def ptsM (ls : List Ln) (n out : Nat) (x : Int) : BitVec 256 := bvOf fun p => decide (p < 2 ^ n) && markB ls p out x
theorem two_pow_8 {n p : Nat} (hn : n ≤ 8) (hp : p < 2 ^ n) : p < 256 := Nat.lt_of_lt_of_le hp (Nat.le_trans (Nat.pow_le_pow_right (by decide) hn) (by decide : (2 : Nat) ^ 8 ≤ 256))
theorem lowB_bit (g : Nat → Bool) (n p : Nat) (hn : n ≤ 8) : (bvOf fun p => decide (p < 2 ^ n) && g p).getLsbD p = (decide (p < 2 ^ n) && g p) := by
  rw [bvOf_bit]
  by_cases h : p < 2 ^ n
  · simp [h, two_pow_8 hn h]
  · simp [h]
theorem ptsR_bit (rs : List Rw) (n out p : Nat) (hn : n ≤ 8) : (ptsR rs n out).getLsbD p = (decide (p < 2 ^ n) && covB rs p out) := lowB_bit (fun p => covB rs p out) n p hn
theorem ptsM_bit (ls : List Ln) (n out p : Nat) (x : Int) (hn : n ≤ 8) : (ptsM ls n out x).getLsbD p = (decide (p < 2 ^ n) && markB ls p out x) := lowB_bit (fun p => markB ls p out x) n p hn
theorem any_append_one {α : Type} (p : α → Bool) (l : List α) (k : Nat) (x : α) (h : l[k]? = some x) : (l.take (k + 1)).any p = ((l.take k).any p || p x) := by
  have hk : k < l.length := (List.getElem?_eq_some_iff.1 h).1
  have : l[k] = x := (List.getElem?_eq_some_iff.1 h).2
  rw [List.take_succ_eq_append_getElem hk, List.any_append, this]
  simp
theorem low_or (g g' : Nat → Bool) (n : Nat) (hn : n ≤ 8) (S : BitVec 256) (hS : ∀ p, p < 256 → S.getLsbD p = (decide (p < 2 ^ n) && g' p)) :
    (bvOf fun p => decide (p < 2 ^ n) && (g p || g' p)) = (bvOf fun p => decide (p < 2 ^ n) && g p) ||| S := by
  refine bvOf_eq _ _ fun p hp => ?_
  rw [BitVec.getLsbD_or, lowB_bit g n p hn, hS p hp]
  cases decide (p < 2 ^ n) <;> simp
theorem ptsR_skip {rs : List Rw} {k : Nat} {x : Rw} (h : rs[k]? = some x) {out : Nat} (ho : x.o.getLsbD out = false) (n : Nat) : ptsR (rs.take (k + 1)) n out = ptsR (rs.take k) n out := by
  unfold ptsR covB
  congr 1
  funext p
  rw [any_append_one _ rs k x h, ho]
  simp
theorem ptsR_step {rs : List Rw} {k : Nat} {x : Rw} (h : rs[k]? = some x) {out : Nat} (ho : x.o.getLsbD out = true) {n : Nat} (hx : rightB x.m x.v n = true) : ptsR (rs.take (k + 1)) n out = ptsR (rs.take k) n out ||| cpts x.m x.v n n := by
  have hn : n ≤ 8 := by have := (rightB_iff x.m x.v n).1 hx; omega
  rw [← cpts_right hx]
  have hS : ∀ p, p < 256 → (cpts x.m x.v n 8).getLsbD p = (decide (p < 2 ^ n) && fits x.m x.v 8 p) := fun p _ => cpts_bit _ _ _ _ _ hn
  refine Eq.trans ?_ (low_or (fun p => covB (rs.take k) p out) _ n hn _ hS)
  unfold ptsR covB
  congr 1
  funext p
  rw [any_append_one _ rs k x h, ho]
  simp
theorem ptsM_skip {ls : List Ln} {k : Nat} {l : Ln} (h : ls[k]? = some l) {out : Nat} {x : Int} (ho : l.o.getD out 9 ≠ x) (n : Nat) : ptsM (ls.take (k + 1)) n out x = ptsM (ls.take k) n out x := by
  unfold ptsM markB
  congr 1
  funext p
  rw [any_append_one _ ls k l h, decide_eq_false ho]
  simp
theorem ptsM_step {ls : List Ln} {k : Nat} {l : Ln} (h : ls[k]? = some l) {out : Nat} {x : Int} (ho : l.o.getD out 9 = x) {n : Nat} (hx : rightB l.m l.v n = true) : ptsM (ls.take (k + 1)) n out x = ptsM (ls.take k) n out x ||| cpts l.m l.v n n := by
  have hn : n ≤ 8 := by have := (rightB_iff l.m l.v n).1 hx; omega
  rw [← cpts_right hx]
  have hS : ∀ p, p < 256 → (cpts l.m l.v n 8).getLsbD p = (decide (p < 2 ^ n) && fits l.m l.v 8 p) := fun p _ => cpts_bit _ _ _ _ _ hn
  refine Eq.trans ?_ (low_or (fun p => markB (ls.take k) p out x) _ n hn _ hS)
  unfold ptsM markB
  congr 1
  funext p
  rw [any_append_one _ ls k l h, decide_eq_true ho]
  simp
theorem ptsR_zero (rs : List Rw) (n out : Nat) : ptsR (rs.take 0) n out = 0 := by
  refine bvOf_eq _ _ fun p _ => ?_
  simp [covB]
theorem ptsM_zero (ls : List Ln) (n out : Nat) (x : Int) : ptsM (ls.take 0) n out x = 0 := by
  refine bvOf_eq _ _ fun p _ => ?_
  simp [markB]

/-! ### What is right, and what covers -/
def outsB (o : BitVec 8) (k : Nat) : Bool := decide (o ≠ 0) && decide (o.toNat / 2 ^ k = 0)
def rwB (x : Rw) (i : Int) (k : Nat) : Bool := outsB x.o k && rightB x.m x.v i
/-- Of one output: on within may, may within all points. -/
def sideB (s : Sp) (j : Nat) : Bool := decide (s.on.getD j 0 &&& ~~~(s.may.getD j 0) = 0) && decide (s.may.getD j 0 &&& ~~~(allB s.i.toNat) = 0)
def headS (s : Sp) : Bool := decide (0 ≤ s.i) && decide (s.i ≤ 8) && (decide (1 ≤ s.on.length) && decide (s.on.length ≤ 4)) && decide (s.on.length = s.may.length)
def spB (s : Sp) : Bool := headS s && (List.range s.on.length).all (sideB s)
def mayB (s : Sp) (rs : List Rw) : Bool := (rs.all fun x => rightB x.m x.v s.i) && rs.all fun x => outsB x.o s.on.length
/-- Of one output: what is on is covered, what is covered may be on. -/
def coB (s : Sp) (rs : List Rw) (j : Nat) : Bool := decide (s.on.getD j 0 &&& ~~~(ptsR rs s.i.toNat j) = 0) && decide (ptsR rs s.i.toNat j &&& ~~~(s.may.getD j 0) = 0)
def coversB (s : Sp) (rs : List Rw) : Bool := mayB s rs && (List.range s.on.length).all (coB s rs)
theorem headS_iff (s : Sp) : headS s = true ↔ (0 ≤ s.i ∧ s.i ≤ 8) ∧ (1 ≤ s.on.length ∧ s.on.length ≤ 4) ∧ s.on.length = s.may.length := by
  unfold headS; simp [and_assoc]
theorem range_all {n : Nat} {P : Nat → Bool} : (List.range n).all P = true ↔ ∀ j, j < n → P j = true := by
  simp [List.all_eq_true]
theorem range_not {n j : Nat} {P : Nat → Bool} (h : j < n) (hp : P j = false) : (List.range n).all P = false := by
  rw [List.all_eq_false]
  exact ⟨j, by simpa using h, by simp [hp]⟩

/-! ### What a table asks for -/
def mayK (t : Tb) (o : Nat) : BitVec 256 :=
  if t.k = 0 then ptsM t.ls t.i.toNat o 1 else if t.k = 1 then ptsM t.ls t.i.toNat o 1 ||| ptsM t.ls t.i.toNat o 2 else allB t.i.toNat &&& ~~~(ptsM t.ls t.i.toNat o 0)
def bothK (t : Tb) (o : Nat) : Bool := decide (2 ≤ t.k) && decide (ptsM t.ls t.i.toNat o 1 &&& ptsM t.ls t.i.toNat o 0 ≠ 0)
def ofE (t : Tb) : Int := if rightT t = true then (if (List.range t.n.toNat).any (bothK t) = true then 4 else 0) else 1
def ofS (t : Tb) : Sp := ⟨t.i, (List.range t.n.toNat).map fun o => ptsM t.ls t.i.toNat o 1, (List.range t.n.toNat).map (mayK t)⟩
end Go.Proofs.YtdfllifjbabfjaaGreatDoor
namespace Go.Proofs.YtdfllifjbabfjaaGreatDoor
open Go.RowKit Go.Joins

def firstI {α : Type} (p : α → Bool) (l : List α) : Int := match l.findIdx? p with | some k => k | none => -1
theorem firstI_at {α : Type} {p : α → Bool} {l : List α} {k : Nat} {x : α} (h : l[k]? = some x) (hn : (l.take k).any p = false) (hp : p x = true) : firstI p l = k := by
  unfold firstI
  have hk : k < l.length := (List.getElem?_eq_some_iff.1 h).1
  have : l.findIdx? p = some k := by
    rw [List.findIdx?_eq_some_iff_getElem]
    refine ⟨hk, by rw [(List.getElem?_eq_some_iff.1 h).2]; exact hp, fun j hj => ?_⟩
    rw [List.any_eq_false] at hn
    have := hn (l[j]) (List.mem_iff_getElem.2 ⟨j, by simp; omega, by simp⟩)
    simpa using this
  rw [this]
theorem firstI_none {α : Type} {p : α → Bool} {l : List α} (h : l.any p = false) : firstI p l = -1 := by
  unfold firstI
  have : l.findIdx? p = none := by
    rw [List.findIdx?_eq_none_iff]
    intro x hx
    rw [List.any_eq_false] at h
    simpa using h x hx
  rw [this]
theorem firstI_ge {α : Type} (p : α → Bool) (l : List α) : decide (0 ≤ firstI p l) = l.any p := by
  cases h : l.any p
  · rw [firstI_none h]; rfl
  · unfold firstI
    cases hf : l.findIdx? p with
    | none =>
      rw [List.findIdx?_eq_none_iff] at hf
      rw [List.any_eq_true] at h
      obtain ⟨x, hx, hp⟩ := h
      rw [hf x hx] at hp
      cases hp
    | some k => simp
theorem any_take_succ {α : Type} {p : α → Bool} {l : List α} {k : Nat} {x : α} (h : l[k]? = some x) (hn : (l.take k).any p = false) (hp : p x = false) : (l.take (k + 1)).any p = false := by
  have hk : k < l.length := (List.getElem?_eq_some_iff.1 h).1
  rw [List.take_succ_eq_append_getElem hk, List.any_append, hn]
  have : l[k] = x := (List.getElem?_eq_some_iff.1 h).2
  simp [this, hp]
set_option maxHeartbeats 1000000 in
theorem indexInts_any (K : Nat) (p : Int → Bool) (A : Option Addr) (c : Nat) (o : List Int) (w : World)
    (hcf : ∀ (args : Array Value) (w1 : World), (Sem.run Tryz.prog (callFunc K args) w1) = .ok (.enter K args) w1)
    (hcl : ∀ x w1, Calls Tryz.prog K #[.int .i64 x] w1 fun e w' => e = .returned (.bool (p x)) ∧ w1 = w')
    (hlen : o.length ≤ 9223372036854775807) (hA : 0 < o.length → ∃ b off, A = some ⟨b, off, none⟩ ∧ b < w.heap.size ∧ ∀ j x, o[j]? = some x → w.cell? ⟨b, off + j, none⟩ = some (.int .i64 x)) :
    Calls Tryz.prog 67 #[.slice A o.length c, .func (.func K) #[] #[]] w fun e w' => e = .returned (.int .i64 (firstI p o)) ∧ w = w' := by
  have hat := Lib.hid (fun (j : Nat) (x : Int) (h : o[j]? = some x) (hn : (o.take j).any p = false) (hp : p x = true) => firstI_at h hn hp)
  have hno := Lib.hid (fun (h : o.any p = false) => firstI_none h)
  go_enter Tryz.func67, Tryz.ntmps67
  go_wp2
  go_loop [5, 8] (fun _ t => ∃ j : Nat, j ≤ o.length ∧ t = .int .i64 j ∧ Hid ((o.take j).any p = false)) (fun _ t => o.length - (intOf t).toNat)
  case atStart => exact ⟨0, by omega, rfl, Lib.hid (by simp)⟩
  case round =>
    obtain ⟨j, hj, rfl, hH⟩ := hrel
    by_cases hlt : j < o.length
    · obtain ⟨b, off, rfl, hB, hc⟩ := hA (by omega)
      obtain ⟨x, hx⟩ : ∃ x, o[j]? = some x := ⟨_, List.getElem?_eq_getElem hlt⟩
      have hcx := hc j x hx
      have hgx := Lib.hid hx
      have HX := hcl x
      clear hc hx hcl
      cases hp : p x
      · rw [hp] at HX
        have hp' := Lib.hid hp
        clear hp
        go_wp2_with fail
        refine (HX _).mono ?_
        rintro e w1 ⟨rfl, rfl⟩
        go_wp2
        go_round
        case rel => exact ⟨j + 1, by omega, by go_num, Lib.hid (any_take_succ hgx.out hH.out hp'.out)⟩
        case measure => simp [intOf]; omega
      · rw [hp] at HX
        have hr := Lib.hid (hat.out j x hgx.out hH.out hp)
        clear hp
        go_wp2_with fail
        refine (HX _).mono ?_
        rintro e w1 ⟨rfl, rfl⟩
        go_wp2
        go_ret
        exact ⟨by rw [hr.out]; rfl, rfl⟩
    · have e : j = o.length := by omega
      subst e
      have hr := Lib.hid (hno.out (by have := hH.out; rwa [List.take_length] at this))
      clear hA hcl hcf
      go_wp2
      go_ret
      exact ⟨by rw [hr.out]; rfl, rfl⟩
theorem containsInts_any (K : Nat) (p : Int → Bool) (O : Value) (o : List Int) (w : World)
    (hcf : ∀ (args : Array Value) (w1 : World), (Sem.run Tryz.prog (callFunc K args) w1) = .ok (.enter K args) w1)
    (hcl : ∀ x w1, Calls Tryz.prog K #[.int .i64 x] w1 fun e w' => e = .returned (.bool (p x)) ∧ w1 = w')
    (hO : IntsAt w w.heap.size O o) :
    Calls Tryz.prog 41 #[O, .func (.func K) #[] #[]] w fun e w' => e = .returned (.bool (o.any p)) ∧ w = w' := by
  obtain ⟨A, c, rfl, hlen, hA⟩ := hO
  have H := indexInts_any K p A c o w hcf hcl hlen hA
  have hr := Lib.hid (firstI_ge p o)
  clear hA hcl hcf
  generalize firstI p o = n at *
  go_enter Tryz.func41, Tryz.ntmps41
  go_wp2_with fail
  refine H.mono ?_
  rintro e w1 ⟨rfl, rfl⟩
  go_wp2
  go_ret
  exact ⟨by rw [← hr.out]; rfl, rfl⟩
theorem le0 (w : World) : w.heap.size ≤ w.heap.size := Nat.le_refl _
end Go.Proofs.YtdfllifjbabfjaaGreatDoor
namespace Go.Proofs.YtdfllifjbabfjaaGreatDoor
open Go.RowKit Go.Joins

theorem value_any (x : BitVec 8) (i : Nat) (hi : i < 8) (w : World) :
    Calls Tryz.prog 70 #[bvv x, .int .i64 i] w fun e w' => e = .returned (.int .i64 (bitI x i)) ∧ w = w' := by
  have hb := Lib.hid (bitI_eq x i)
  have hl : 0 ≤ bitI x i ∧ bitI x i ≤ 1 := by unfold bitI; split <;> omega
  unfold bvv
  go_enter Tryz.func70, Tryz.ntmps70
  go_wp2
  go_ret
  exact ⟨ret_int (by rw [hb.out]; unfold wrap64; omega), rfl⟩
theorem cubes1_any (x : Rw) (bi : Nat) (i : Int) (w : World) (hi : w.cell? ⟨bi, 0, none⟩ = some (.int .i64 i)) :
    Calls Tryz.prog 82 #[rwv x, .pointer (some ⟨bi, 0, none⟩)] w fun e w' => e = .returned (.bool (!rightB x.m x.v i)) ∧ Below w.heap.size w w' := by
  have HR := fun w => right_any x.m x.v i w
  have hb := block_lt_of_cell hi
  have hi1 : ∀ o, (w.alloc o).cell? ⟨bi, 0, none⟩ = some (.int .i64 i) := fun o => (World.cell?_alloc_lt _ _ _ hb).trans hi
  generalize rightB x.m x.v i = q at *
  unfold rwv cv bvv at *
  go_enter Tryz.func82, Tryz.ntmps82
  go_wp2_with fail
  refine (HR _).mono ?_
  rintro e w1 ⟨rfl, hb1⟩
  go_wp2
  go_ret
  exact ⟨rfl, (below_alloc1 w _).trans (hb1.mono (by simp))⟩
theorem outs1_any (x : Rw) (bi : Nat) (k : Nat) (hk : k ≤ 8) (w : World) (hi : w.cell? ⟨bi, 0, none⟩ = some (.int .i64 k)) :
    Calls Tryz.prog 83 #[rwv x, .pointer (some ⟨bi, 0, none⟩)] w fun e w' => e = .returned (.bool (!outsB x.o k)) ∧ Below w.heap.size w w' := by
  have hb := block_lt_of_cell hi
  have hi1 : ∀ o, (w.alloc o).cell? ⟨bi, 0, none⟩ = some (.int .i64 k) := fun o => (World.cell?_alloc_lt _ _ _ hb).trans hi
  have hq : (x.o.toNat : Int) / 2 ^ k = ((x.o.toNat / 2 ^ k : Nat) : Int) := by rw [Int.natCast_ediv]; simp
  by_cases h0 : x.o = 0
  · have hB : Hid (outsB x.o k = false) := Lib.hid (by unfold outsB; simp [h0])
    have hz : ((x.o.toNat : Int) == 0) = true := by rw [h0]; rfl
    unfold rwv bvv at *
    clear h0 hq
    go_enter Tryz.func83, Tryz.ntmps83
    go_wp2
    go_ret
    exact ⟨by rw [hB.out]; rfl, below_alloc1 w _⟩
  · have hz : ((x.o.toNat : Int) == 0) = false := by
      rw [beq_eq_false_iff_ne]; intro e; exact h0 (BitVec.eq_of_toNat_eq (by simpa using e))
    by_cases h1 : x.o.toNat / 2 ^ k = 0
    · have hB : Hid (outsB x.o k = true) := Lib.hid (by unfold outsB; rw [decide_eq_true h0, decide_eq_true h1]; rfl)
      have hz1 : ((x.o.toNat : Int) / 2 ^ k != 0) = false := by rw [hq, h1]; rfl
      unfold rwv bvv at *
      clear h0 h1 hq
      go_enter Tryz.func83, Tryz.ntmps83
      go_wp2
      go_ret
      exact ⟨by rw [hB.out]; rfl, below_alloc1 w _⟩
    · have hB : Hid (outsB x.o k = false) := Lib.hid (by unfold outsB; simp [h1])
      have hz1 : ((x.o.toNat : Int) / 2 ^ k != 0) = true := by rw [hq, bne_iff_ne]; intro e; exact h1 (by exact_mod_cast e)
      unfold rwv bvv at *
      clear h0 h1 hq
      go_enter Tryz.func83, Tryz.ntmps83
      go_wp2
      go_ret
      exact ⟨by rw [hB.out]; rfl, below_alloc1 w _⟩
set_option maxHeartbeats 1000000 in
set_option maxRecDepth 100000 in
theorem indexRows_any (K : Nat) (caps : Array Value) (p : Rw → Bool) (L : Value) (rs : List Rw) (w : World)
    (hcf : ∀ (args : Array Value) (w1 : World), (Sem.run Tryz.prog (callFunc K args) w1) = .ok (.enter K args) w1)
    (hcl : ∀ x w1, Below w.heap.size w w1 → Calls Tryz.prog K (#[rwv x] ++ caps) w1 fun e w' => e = .returned (.bool (p x)) ∧ Below w1.heap.size w1 w')
    (hL : RwsAt w w.heap.size L rs) :
    Calls Tryz.prog 51 #[L, .func (.func K) #[] caps] w fun e w' => e = .returned (.int .i64 (firstI p rs)) ∧ Below w.heap.size w w' := by
  have hat := Lib.hid (fun (j : Nat) (x : Rw) (h : rs[j]? = some x) (hn : (rs.take j).any p = false) (hp : p x = true) => firstI_at h hn hp)
  have hno := Lib.hid (fun (h : rs.any p = false) => firstI_none h)
  obtain ⟨A, c, rfl, hlen, hA⟩ := hL
  unfold rwv at hcl
  go_enter Tryz.func51, Tryz.ntmps51
  go_wp2
  go_loopw [5, 8] (fun _ t wr => ∃ j : Nat, j ≤ rs.length ∧ t = .int .i64 j ∧ Hid ((rs.take j).any p = false) ∧ Below w.heap.size w wr) (fun _ t _ => rs.length - (intOf t).toNat)
  case atStart => exact ⟨0, by omega, rfl, Lib.hid (by simp), Below.refl _ _⟩
  case round =>
    obtain ⟨j, hj, rfl, hH, hb⟩ := hrel
    by_cases hlt : j < rs.length
    · obtain ⟨b, off, rfl, hB, hc⟩ := hA (by omega)
      obtain ⟨l, hl⟩ : ∃ l, rs[j]? = some l := ⟨_, List.getElem?_eq_getElem hlt⟩
      obtain ⟨c0, c1, c2⟩ := hc j l hl
      have d0 := (hb.cell (p := ⟨b, off + j * 3, none⟩) hB).trans c0
      have d1 := (hb.cell (p := ⟨b, off + j * 3 + 1, none⟩) hB).trans c1
      have d2 := (hb.cell (p := ⟨b, off + j * 3 + 2, none⟩) hB).trans c2
      have hgl := Lib.hid hl
      have HX := hcl l wr hb
      unfold bvv at *
      clear hc hl hcl c0 c1 c2 hA
      cases hp : p l
      · rw [hp] at HX
        have hp' := Lib.hid hp
        clear hp
        go_wp2_with fail
        refine HX.mono ?_
        rintro e w1 ⟨rfl, hb1⟩
        have hB1 := hb.trans (hb1.mono hb.size)
        clear hb1
        go_wp2
        go_roundw
        case rel => exact ⟨j + 1, by omega, by go_num, Lib.hid (any_take_succ hgl.out hH.out hp'.out), hB1⟩
        case measure => simp [intOf]; omega
      · rw [hp] at HX
        have hr := Lib.hid (hat.out j l hgl.out hH.out hp)
        clear hp
        go_wp2_with fail
        refine HX.mono ?_
        rintro e w1 ⟨rfl, hb1⟩
        have hB1 := hb.trans (hb1.mono hb.size)
        clear hb1
        go_wp2
        go_ret
        exact ⟨by rw [hr.out]; rfl, hB1⟩
    · have e : j = rs.length := by omega
      subst e
      have hr := Lib.hid (hno.out (by have := hH.out; rwa [List.take_length] at this))
      clear hA hcl hcf
      go_wp2
      go_ret
      exact ⟨by rw [hr.out]; rfl, hb⟩
theorem containsRows_any (K : Nat) (caps : Array Value) (p : Rw → Bool) (L : Value) (rs : List Rw) (w : World)
    (hcf : ∀ (args : Array Value) (w1 : World), (Sem.run Tryz.prog (callFunc K args) w1) = .ok (.enter K args) w1)
    (hcl : ∀ x w1, Below w.heap.size w w1 → Calls Tryz.prog K (#[rwv x] ++ caps) w1 fun e w' => e = .returned (.bool (p x)) ∧ Below w1.heap.size w1 w')
    (hL : RwsAt w w.heap.size L rs) :
    Calls Tryz.prog 18 #[L, .func (.func K) #[] caps] w fun e w' => e = .returned (.bool (rs.any p)) ∧ Below w.heap.size w w' := by
  have H := indexRows_any K caps p L rs w hcf hcl hL
  have hr := Lib.hid (firstI_ge p rs)
  clear hL hcl hcf
  generalize firstI p rs = n at *
  go_enter Tryz.func18, Tryz.ntmps18
  go_wp2_with fail
  refine H.mono ?_
  rintro e w1 ⟨rfl, hb1⟩
  go_wp2
  go_ret
  exact ⟨by rw [← hr.out]; rfl, hb1⟩
theorem not_any_not {α : Type} (p : α → Bool) (l : List α) : (!(l.any fun x => !p x)) = l.all p := by
  rw [List.not_any_eq_all_not]; simp
theorem cubesRight_any (L : Value) (rs : List Rw) (i : Int) (w : World) (hL : RwsAt w w.heap.size L rs) :
    Calls Tryz.prog 68 #[L, .int .i64 i] w fun e w' => e = .returned (.bool (rs.all fun x => rightB x.m x.v i)) ∧ Below w.heap.size w w' := by
  have hmf : ∀ (fn : Fn) (first cap : Array Value) (w : World), (Instr.makeFunc fn first cap).run Tryz.prog w = .ok (.func fn first cap) w := fun _ _ _ _ => rfl
  have hA := below_alloc1 w (.cells #[Value.int IntKind.i64 i] 3)
  have H := containsRows_any 82 #[.pointer (some ⟨w.heap.size, 0, none⟩)] (fun x => !rightB x.m x.v i) L rs (w.alloc (.cells #[Value.int IntKind.i64 i] 3)) (fun _ _ => by kernel_rfl)
    (fun x w1 hb => cubes1_any x w.heap.size i w1 ((hb.cell (p := ⟨w.heap.size, 0, none⟩) (by simp)).trans (by rw [cell_of_block (heap_alloc_new _ _)]; rfl)))
    ((hL.below hA).more hA.size)
  have hr := Lib.hid (not_any_not (fun x : Rw => rightB x.m x.v i) rs)
  obtain ⟨A, c, rfl, -, -⟩ := hL
  generalize (rs.any fun x => !rightB x.m x.v i) = q at *
  go_enter Tryz.func68, Tryz.ntmps68
  go_wp2_with fail
  refine H.mono ?_
  rintro e w1 ⟨rfl, hb1⟩
  go_wp2
  go_ret
  exact ⟨by rw [← hr.out]; rfl, hA.trans (hb1.mono (by simp))⟩
theorem outsRight_any (L : Value) (rs : List Rw) (k : Nat) (hk : k ≤ 8) (w : World) (hL : RwsAt w w.heap.size L rs) :
    Calls Tryz.prog 69 #[L, .int .i64 k] w fun e w' => e = .returned (.bool (rs.all fun x => outsB x.o k)) ∧ Below w.heap.size w w' := by
  have hmf : ∀ (fn : Fn) (first cap : Array Value) (w : World), (Instr.makeFunc fn first cap).run Tryz.prog w = .ok (.func fn first cap) w := fun _ _ _ _ => rfl
  have hA := below_alloc1 w (.cells #[Value.int IntKind.i64 k] 3)
  have H := containsRows_any 83 #[.pointer (some ⟨w.heap.size, 0, none⟩)] (fun x => !outsB x.o k) L rs (w.alloc (.cells #[Value.int IntKind.i64 k] 3)) (fun _ _ => by kernel_rfl)
    (fun x w1 hb => outs1_any x w.heap.size k hk w1 ((hb.cell (p := ⟨w.heap.size, 0, none⟩) (by simp)).trans (by rw [cell_of_block (heap_alloc_new _ _)]; rfl)))
    ((hL.below hA).more hA.size)
  have hr := Lib.hid (not_any_not (fun x : Rw => outsB x.o k) rs)
  obtain ⟨A, c, rfl, -, -⟩ := hL
  generalize (rs.any fun x => !outsB x.o k) = q at *
  go_enter Tryz.func69, Tryz.ntmps69
  go_wp2_with fail
  refine H.mono ?_
  rintro e w1 ⟨rfl, hb1⟩
  go_wp2
  go_ret
  exact ⟨by rw [← hr.out]; rfl, hA.trans (hb1.mono (by simp))⟩
end Go.Proofs.YtdfllifjbabfjaaGreatDoor
