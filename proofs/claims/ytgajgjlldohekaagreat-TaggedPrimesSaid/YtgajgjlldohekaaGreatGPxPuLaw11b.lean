/- The statements of layer 11, walked over what the package answers: what the family of a set's primes has. -/
import Derived.Test.YtgajgjlldohekaaGreatGPxPuLaw11
import Derived.Test.YtgajgjlldohekaaGreatGP35
import Derived.Test.YtgajgjlldohekaaGreatGP22
import Derived.Test.YtgajgjlldohekaaGreatGP18
namespace Go.Proofs.YtgajgjlldohekaaGreat
open Go.RowKit Go.Joins

/-- The primes of a set as rows without outputs. -/
def rowsC (X : BitVec 256) (n : Int) : List Rw := (prims X n).map fun c => ⟨c.m, c.v, 0⟩
theorem rowsC_len (X : BitVec 256) (n : Int) : (rowsC X n).length = (prims X n).length := by unfold rowsC; simp
theorem rowsC_at {X : BitVec 256} {n : Int} {k : Nat} {c : Cb} (h : (prims X n)[k]? = some c) : (rowsC X n)[k]? = some ⟨c.m, c.v, 0⟩ := by
  unfold rowsC
  rw [List.getElem?_map, h]; rfl
/-- The family of its primes' members. -/
def famC (X : BitVec 256) (n : Int) : Nat → Bool := rowF (memsR (rowsC X n))
theorem memB_inj {m v m' v' : BitVec 8} (h1 : v &&& m = v) (h2 : v' &&& m' = v') (h : memB m v 0 = memB m' v' 0) : m = m' ∧ v = v' := by
  have e1 := row_m m v 0
  have e2 := row_v m v 0
  rw [h, row_m] at e1
  rw [h, row_v] at e2
  refine ⟨e1.symm, ?_⟩
  rw [BitVec.and_comm m' v', h2, BitVec.and_comm m v, h1] at e2
  exact e2.symm
theorem map_nodup {α β : Type} {f : α → β} : ∀ {l : List α}, (∀ a ∈ l, ∀ b ∈ l, f a = f b → a = b) → l.Nodup → (l.map f).Nodup
  | [], _, _ => List.nodup_nil
  | x :: l, hf, hn => by
    rw [List.nodup_cons] at hn
    rw [List.map_cons, List.nodup_cons]
    refine ⟨fun hx => ?_, map_nodup (fun a ha b hb => hf a (List.mem_cons_of_mem _ ha) b (List.mem_cons_of_mem _ hb)) hn.2⟩
    obtain ⟨y, hy, e⟩ := List.mem_map.1 hx
    have := hf y (List.mem_cons_of_mem _ hy) x List.mem_cons_self e
    rw [this] at hy
    exact hn.1 hy
theorem mems_nodup (X : BitVec 256) (n : Int) : (memsR (rowsC X n)).Nodup := by
  unfold memsR rowsC prims
  rw [List.map_map, List.map_map]
  refine map_nodup (fun a ha b hb e => ?_) ((prmU_srt X n 65536).imp fun h e => by omega)
  have ha' := (prmU_mem X n 65536 a).1 ha
  have hb' := (prmU_mem X n 65536 b).1 hb
  have r1 := ((rightB_iff _ _ _).1 (prim_right ha'.2)).2.2.2
  have r2 := ((rightB_iff _ _ _).1 (prim_right hb'.2)).2.2.2
  obtain ⟨e1, e2⟩ := memB_inj r1 r2 e
  rw [← key_kk ha'.1, ← key_kk hb'.1, e1, e2]
theorem mems_small (X : BitVec 256) (n : Int) : ∀ x ∈ memsR (rowsC X n), x < 16777216 := by
  intro x hx
  unfold memsR at hx
  obtain ⟨y, -, rfl⟩ := List.mem_map.1 hx
  have := memB_lt y.m y.v y.o
  omega
theorem srt_nodup {r : List Nat} (h : srtN r) : r.Nodup := h.imp fun h e => by omega
theorem fam_row {l r : List Nat} (hl : ∀ x ∈ l, x < 16777216) (hs : srtN r) (hm : ∀ x, x ∈ r ↔ x ∈ l) : famL 24 (rowF l) = r :=
  famL_eq hs fun x => by unfold rowF; rw [decide_eq_true_iff, ← hm]; exact ⟨fun hx => ⟨hl x ((hm x).1 hx), hx⟩, fun hx => hx.2⟩
theorem row_count {l r : List Nat} (hn : l.Nodup) (hs : srtN r) (hm : ∀ x, x ∈ r ↔ x ∈ l) : r.length = l.length :=
  ((List.perm_ext_iff_of_nodup (srt_nodup hs) hn).2 hm).length_eq
/-- There are few primes of six inputs. -/
theorem few6 : ((List.range 16384).filter fun k => rightB (kM k) (kV k) 6).length = 729 := by decide +kernel
theorem prims_few (X : BitVec 256) {n : Nat} (hn : n ≤ 6) : (prims X n).length ≤ 729 := by
  unfold prims prmL
  rw [List.length_map, ← few6, ← prmU_all (by omega : n ≤ 8)]
  unfold prmU
  have h1 : 256 * 2 ^ n ≤ 16384 := by
    have : 2 ^ n ≤ 2 ^ 6 := Nat.pow_le_pow_right (by decide) hn
    omega
  have h2 : List.Sublist (List.range (256 * 2 ^ n)) (List.range 16384) := List.range_sublist.2 h1
  refine Nat.le_trans (h2.filter _).length_le ?_
  rw [← List.countP_eq_length_filter, ← List.countP_eq_length_filter]
  refine List.countP_mono_left fun k _ hk => ?_
  obtain ⟨a, b, c, d⟩ := (rightB_iff _ _ _).1 (prim_right hk)
  exact (rightB_iff _ _ _).2 ⟨by omega, by omega, fun i hi => c i (by have : (6 : Int).toNat = 6 := rfl; omega), d⟩
/-- What is asked of a diagram, and of what makes families of primes in it: fresh ones, and ones that hold a family. -/
structure DgOk (Fr : Nat → World → Nat → Prop) (Dg : Nat → World → Nat → Int → (Nat → Bool) → Prop) : Prop where
  frB : ∀ {B w w' zb}, Fr B w zb → Below w.heap.size w w' → Fr B w' zb
  dgB : ∀ {B w w' zb f F}, Dg B w zb f F → Below w.heap.size w w' → Dg B w' zb f F
  new : ∀ w, Calls Tryz.prog 13 #[.int .i64 20000] w fun e w' => ∃ zb : Nat, e = .returned (.tuple #[.pointer (some ⟨zb, 0, none⟩), .int .i64 0]) ∧ Fr w.heap.size w' zb ∧ Below w.heap.size w w'
  list : ∀ {B w zb f F}, Dg B w zb f F → cF 24 F ≤ 100000 → Calls Tryz.prog 17 #[.pointer (some ⟨zb, 0, none⟩), .int .i64 f] w fun e w' => ∃ u, e = .returned (.tuple #[u, .int .i64 0]) ∧ IntsAt w' w'.heap.size u (nI (famL 24 F)) ∧ Below w.heap.size w w'
  count : ∀ {B w zb f F}, Dg B w zb f F → Calls Tryz.prog 20 #[.pointer (some ⟨zb, 0, none⟩), .int .i64 f] w fun e w' => e = .returned (.int .i64 (cF 24 F : Int)) ∧ Below w.heap.size w w'
def PrimesBad (Fr : Nat → World → Nat → Prop) : Prop := ∀ {B w zb} (X : BitVec 256) (n : Int), ofB X n = false → Fr B w zb → Calls Tryz.prog 15 #[.pointer (some ⟨zb, 0, none⟩), sv X, .int .i64 n] w fun e w' => e = .returned (.tuple #[.int .i64 0, .int .i64 1]) ∧ Below B w w'
def PrimesGood (Fr : Nat → World → Nat → Prop) (Dg : Nat → World → Nat → Int → (Nat → Bool) → Prop) : Prop := ∀ {B w zb} (X : BitVec 256) (n : Nat), ofB X n = true → n ≤ 6 → Fr B w zb → Calls Tryz.prog 15 #[.pointer (some ⟨zb, 0, none⟩), sv X, .int .i64 n] w fun e w' => ∃ id : Int, e = .returned (.tuple #[.int .i64 id, .int .i64 0]) ∧ Dg B w' zb id (famC X n) ∧ Below B w w'
theorem Tryz.infoRow11 : (Tryz.prog.info? 25).map (fun i => (i.zero, i.size, i.bytes)) = some (some (.agg #[.int .u8 0, .int .u8 0, .int .u8 0]), 3, 3) := by kernel_rfl
set_option maxHeartbeats 2000000 in
theorem primes11_no {Fr : Nat → World → Nat → Prop} {Dg : Nat → World → Nat → Int → (Nat → Bool) → Prop} (HD : DgOk Fr Dg) (HB : PrimesBad Fr) (HK : Knows11) (X : BitVec 256) (n : Int) (ho : ofB X n = false) (w : World) :
    Calls Tryz.prog 4 #[sv X, .int .i64 n] w fun e w' => e = .returned (.bool true) ∧ Below w.heap.size w w' := by
  have HN := HD.new
  have HO := fun w => rof9_any X n w
  rw [ho] at HO
  have HP := fun {w2 : World} {B zb : Nat} (hf : Fr B w2 zb) => HB X n ho hf
  have hfk := @DgOk.frB _ _ HD
  have hx := heap_alloc_new w (.cells (sa X) 37)
  have hb := below_alloc1 w (.cells (sa X) 37)
  clear HD HB ho
  unfold sv sa wv at *
  go_enter Tryz.func4, Tryz.ntmps4
  go_upto_region 1 with (fail)
  generalize w.alloc _ = W at *
  go_wp2_with fail
  refine (HN _).mono ?_
  rintro e w1 ⟨zb, rfl, hf, hb1⟩
  have hx1 := keep_blk hb1 hx
  clear HN hx
  obtain ⟨x0, x1, x2, x3, -⟩ := now4 hx1 rfl
  go_wp2_with fail
  refine (HO _).mono ?_
  rintro e w2 ⟨rfl, hb2⟩
  have hx2 := keep_blk hb2 hx1
  have hf2 := hfk hf hb2
  have hB2 := hb1.trans (hb2.mono hb1.size)
  have HP2 := HP hf2
  clear HO x0 x1 x2 x3 hx1 hf hb1 hb2 HP
  obtain ⟨x0, x1, x2, x3, -⟩ := now4 hx2 rfl
  go_wp2_with fail
  refine HP2.mono ?_
  rintro e w3 ⟨rfl, hb3⟩
  have hB3 := hB2.trans hb3
  clear HP2 x0 x1 x2 x3 hx2 hf2 hB2 hb3
  go_wp2_with fail
  refine (HK _).mono ?_
  rintro e w4 ⟨rfl, hb4⟩
  have hB4 := hb.trans ((hB3.trans (hb4.mono hB3.size)).mono hb.size)
  clear HK
  go_wp2
  go_ret
  exact ⟨rfl, hB4⟩
set_option maxHeartbeats 2000000 in
theorem primes11_big {Fr : Nat → World → Nat → Prop} {Dg : Nat → World → Nat → Int → (Nat → Bool) → Prop} (HD : DgOk Fr Dg) (HK : Knows11) (X : BitVec 256) (n : Int) (ho : ofB X n = true) (h6 : 6 < n) (w : World) :
    Calls Tryz.prog 4 #[sv X, .int .i64 n] w fun e w' => e = .returned (.bool true) ∧ Below w.heap.size w w' := by
  have HN := HD.new
  have HO := fun w => rof9_any X n w
  rw [ho] at HO
  have hx := heap_alloc_new w (.cells (sa X) 37)
  have hb := below_alloc1 w (.cells (sa X) 37)
  have d1 : decide (6 < n) = true := decide_eq_true h6
  clear HD ho
  unfold sv sa wv at *
  go_enter Tryz.func4, Tryz.ntmps4
  go_upto_region 1 with (fail)
  generalize w.alloc _ = W at *
  go_wp2_with fail
  refine (HN _).mono ?_
  rintro e w1 ⟨zb, rfl, -, hb1⟩
  have hx1 := keep_blk hb1 hx
  clear HN hx
  obtain ⟨x0, x1, x2, x3, -⟩ := now4 hx1 rfl
  go_wp2_with fail
  refine (HO _).mono ?_
  rintro e w2 ⟨rfl, hb2⟩
  have hB2 := hb1.trans (hb2.mono hb1.size)
  clear HO x0 x1 x2 x3 hx1 hb1 hb2
  go_wp2_with fail
  refine (HK _).mono ?_
  rintro e w4 ⟨rfl, hb4⟩
  have hB4 := hb.trans ((hB2.trans (hb4.mono hB2.size)).mono hb.size)
  clear HK
  go_wp2
  go_ret
  exact ⟨rfl, hB4⟩
def rz11 (rs : List Rw) : List Value := rs.flatMap fun x => [bvv x.m, bvv x.v, bvv x.o]
theorem rz11_snoc (rs : List Rw) (x : Rw) : rz11 (rs ++ [x]) = rz11 rs ++ [bvv x.m, bvv x.v, bvv x.o] := by unfold rz11; simp
theorem rz11_at : ∀ (rs : List Rw) (j : Nat) (x : Rw), rs[j]? = some x → (rz11 rs)[j * 3]? = some (bvv x.m) ∧ (rz11 rs)[j * 3 + 1]? = some (bvv x.v) ∧ (rz11 rs)[j * 3 + 2]? = some (bvv x.o)
  | [], _, _, h => by simp at h
  | a :: rs, 0, x, h => by
    simp at h
    subst h
    exact ⟨rfl, rfl, rfl⟩
  | a :: rs, j + 1, x, h => by
    obtain ⟨x1, y, z⟩ := rz11_at rs j x (by simpa using h)
    have e : rz11 (a :: rs) = bvv a.m :: bvv a.v :: bvv a.o :: rz11 rs := rfl
    rw [e, show (j + 1) * 3 = j * 3 + 3 by omega]
    exact ⟨x1, y, z⟩
theorem own_rz11 {w : World} {bd : Nat} {v : Value} {rs : List Rw} (h : w.ownsRow bd 25 3 v rs.length (rz11 rs)) : RwsAt w w.heap.size v rs := by
  rcases Nat.eq_zero_or_pos rs.length with h0 | h0
  · obtain ⟨A, c, rfl⟩ := own_form h
    exact ⟨A, c, rfl, by omega, fun h => by omega⟩
  · obtain ⟨g, c, rfl, -, hg, hlen, hc⟩ := own_cellq h h0
    refine ⟨_, c, rfl, hlen, fun _ => ⟨g, 0, rfl, hg, fun j x hx => ?_⟩⟩
    obtain ⟨a, b, d⟩ := rz11_at rs j x hx
    rw [Nat.zero_add]
    exact ⟨hc _ _ a, hc _ _ b, hc _ _ d⟩
set_option maxHeartbeats 4000000 in
set_option maxRecDepth 100000 in
theorem primes11_yes {Fr : Nat → World → Nat → Prop} {Dg : Nat → World → Nat → Int → (Nat → Bool) → Prop} (HD : DgOk Fr Dg) (HG : PrimesGood Fr Dg) (HA : AllC) (HK : Knows11) (X : BitVec 256) (n : Nat) (ho : ofB X n = true) (h6 : n ≤ 6) (w : World) :
    Calls Tryz.prog 4 #[sv X, .int .i64 n] w fun e w' => e = .returned (.bool true) ∧ Below w.heap.size w w' := by
  obtain ⟨i0, hi0, hz0, hz1, hz2⟩ := info_parts Tryz.infoRow11
  have HN := HD.new
  have HO := fun w => rof9_any X n w
  rw [ho] at HO
  have HP := fun {w2 : World} {B zb : Nat} (hf : Fr B w2 zb) => HG X n ho h6 hf
  have HL := fun w => all9_yes HA ho w
  have hfk := @DgOk.frB _ _ HD
  have hdk := @DgOk.dgB _ _ HD
  have HLi := @DgOk.list _ _ HD
  have HCo := @DgOk.count _ _ HD
  have HM := Lib.hid (fun v w hz => rmembers11_any v (rowsC X n) (by rw [rowsC_len]; have := prims_few X h6; omega) w hz)
  have hfew := prims_few X h6
  have hrl := Lib.hid (rowsC_len X n)
  have hrat := Lib.hid (fun k c (h : (prims X n)[k]? = some c) => rowsC_at h)
  have hfr := Lib.hid (fun r hs hm => fam_row (l := memsR (rowsC X n)) (r := r) (mems_small X n) hs hm)
  have hct := Lib.hid (fun r hs hm => row_count (l := memsR (rowsC X n)) (r := r) (mems_nodup X n) hs hm)
  have hml := Lib.hid (memsR_len (rowsC X n))
  have hfc : Hid (famC X n = rowF (memsR (rowsC X n))) := Lib.hid rfl
  have hx := heap_alloc_new w (.cells (sa X) 37)
  have hb := below_alloc1 w (.cells (sa X) 37)
  have d1 : decide ((6 : Int) < (n : Int)) = false := decide_eq_false (by omega)
  clear HD HG HA ho
  generalize famC X n = F at *
  generalize rowsC X n = R at *
  generalize prims X n = L at *
  unfold sv sa wv at *
  go_enter Tryz.func4, Tryz.ntmps4
  go_upto_region 1 with (fail)
  generalize w.alloc _ = W at *
  go_wp2_with fail
  refine (HN _).mono ?_
  rintro e w1 ⟨zb, rfl, hf, hb1⟩
  have hx1 := keep_blk hb1 hx
  have hWx := size_of_block hx
  clear HN hx
  obtain ⟨x0, x1, x2, x3, -⟩ := now4 hx1 rfl
  go_wp2_with fail
  refine (HO _).mono ?_
  rintro e w2 ⟨rfl, hb2⟩
  have hx2 := keep_blk hb2 hx1
  have hf2 := hfk hf hb2
  have hB2 := hb1.trans (hb2.mono hb1.size)
  have HP2 := HP hf2
  clear HO x0 x1 x2 x3 hx1 hf hb1 hb2 HP hfk
  obtain ⟨x0, x1, x2, x3, -⟩ := now4 hx2 rfl
  go_wp2_with fail
  refine HP2.mono ?_
  rintro e w3 ⟨id, rfl, hd3, hb3⟩
  have hx3 : w3.heap[w.heap.size]? = some (.cells #[.int .u64 (wd X 0).toNat, .int .u64 (wd X 1).toNat, .int .u64 (wd X 2).toNat, .int .u64 (wd X 3).toNat] 37 (0, 0)) := (hb3.block _ hWx).trans hx2
  have hB3 := hB2.trans hb3
  clear HP2 x0 x1 x2 x3 hx2 hf2 hB2 hb3
  obtain ⟨x0, x1, x2, x3, -⟩ := now4 hx3 rfl
  go_wp2_with fail
  refine (HL _).mono ?_
  rintro e w4 ⟨lv, rfl, hC, hb4⟩
  obtain ⟨A, c, rfl, -, hcc⟩ := hC
  have hd4 := hdk hd3 hb4
  have hB4 := hB3.trans (hb4.mono hB3.size)
  clear HL x0 x1 x2 x3 hx3 hd3 hB3 hb4
  have hcell : Hid (∀ (j : Nat) (y : Cb), L[j]? = some y → ∃ b off, A = some ⟨b, off, none⟩ ∧ b < w4.heap.size ∧ w4.cell? ⟨b, off + j * 2, none⟩ = some (bvv y.m) ∧ w4.cell? ⟨b, off + j * 2 + 1, none⟩ = some (bvv y.v)) := Lib.hid (fun j y hj => by
    obtain ⟨b, off, e, hB, h⟩ := hcc (by have := (List.getElem?_eq_some_iff.1 hj).1; omega)
    obtain ⟨y0, y1⟩ := h j y hj
    exact ⟨b, off, e, hB, y0, y1⟩)
  clear hcc
  go_wp2_with fail
  go_loopw [12, 13] (fun l t wr => ∃ i : Nat, i ≤ L.length ∧ t = .int .i64 i ∧ wr.ownsRow w4.heap.size 25 3 l (R.take i).length (rz11 (R.take i)) ∧ Below w4.heap.size w4 wr) (fun _ t _ => L.length - (intOf t).toNat)
  case atStart => exact ⟨0, Nat.zero_le _, rfl, World.ownsRow_nil _ _ _ _, Below.refl _ _⟩
  case round =>
    obtain ⟨i, hi, rfl, hown, hbw⟩ := hrel
    have hti : (R.take i).length = i := by rw [List.length_take, hrl.out]; omega
    by_cases hlt : i < L.length
    · obtain ⟨y, hy⟩ : ∃ y, L[i]? = some y := ⟨_, List.getElem?_eq_getElem hlt⟩
      obtain ⟨b, off, rfl, hbl, y0, y1⟩ := hcell.out i y hy
      have z0 := (hbw.cell (p := ⟨b, off + i * 2, none⟩) hbl).trans y0
      have z1 := (hbw.cell (p := ⟨b, off + i * 2 + 1, none⟩) hbl).trans y1
      have hnx : Hid (R.take (i + 1) = R.take i ++ [⟨y.m, y.v, 0⟩]) := Lib.hid (by rw [List.take_add_one, hrat.out i y hy]; rfl)
      have d2 : decide ((i : Int) < (L.length : Int)) = true := decide_eq_true (by omega)
      unfold bvv at z0 z1
      have hbs := hbw.size
      clear y0 y1 hy hrat hrl hfr hct hml hfc HM HLi HCo hdk hcell
      go_wp2_with (at_builtin; go_loud (refine wpList_append_own _ rfl _ _ 47 rfl w4.heap.size 25 i0 (.agg #[.int .u8 0, .int .u8 0, .int .u8 0]) 3 3 Tryz.underlying47 hi0 hz0 hz1 hz2 rfl (by decide) _ _ _ rfl (hown.alloc _) ⟨wr.heap.size, 0, none⟩ 1 1 [.int .u8 y.m.toNat, .int .u8 y.v.toNat, .int .u8 0] rfl rfl ?c1 ?c2 ?c3 ?c4 ?c5 ?_))
      case c1 => exact World.news_of_block (cs := #[.int .u8 y.m.toNat, .int .u8 y.v.toNat, .int .u8 0]) (t := 25) (fr := (0, 0)) (heap_alloc_new wr _)
      case c2 => intro u hu; simp at hu; rcases hu with rfl | rfl | rfl <;> rfl
      case c3 => unfold maxLen; omega
      case c4 => omega
      case c5 => simp; omega
      intro v' w8 ho8 hg8 _
      have hB8 := grown_below (hown.alloc (.cells #[.int .u8 y.m.toNat, .int .u8 y.v.toNat, .int .u8 0] 25)) hg8 (hbw.alloc hbw.size _) (Nat.le_refl _) (by simp; omega)
      have ho9 : w8.ownsRow w4.heap.size 25 3 v' (R.take (i + 1)).length (rz11 (R.take (i + 1))) := by
        rw [hnx.out, rz11_snoc, List.length_append, hti]
        exact ho8
      clear hg8 ho8 hown hbw
      go_wp2
      go_roundw
      case rel => exact ⟨i + 1, by omega, by go_num, ho9, hB8⟩
      case measure => simp [intOf]; omega
    · have d2 : decide ((i : Int) < (L.length : Int)) = false := decide_eq_false (by omega)
      have hRi : R.take i = R := List.take_of_length_le (by rw [hrl.out]; omega)
      rw [hRi] at hown
      have hR := own_rz11 hown
      have hd5 := hdk hd4 hbw
      have hB5 := hB4.trans (hbw.mono hB4.size)
      clear hRi hti hrat hcell hown hd4 hB4 hbw
      have hcF : cF 24 F ≤ L.length := by
        rw [hfc.out, ← hrl.out, ← hml.out]
        exact cF_row_le _
      have HL5 := HLi hd5 (by omega)
      clear HLi
      go_wp2_with fail
      refine HL5.mono ?_
      rintro e w6 ⟨u, rfl, hu, hb6⟩
      have hR6 := (hR.below hb6).more hb6.size
      have hd6 := hdk hd5 hb6
      have hB6 := hB5.trans (hb6.mono hB5.size)
      have HM6 := HM.out _ w6 hR6
      clear HL5 hR hd5 hB5 HM hR6
      have hu0 := hu
      obtain ⟨ua, uc, eu, -, -⟩ := hu0
      subst eu
      go_wp2_with fail
      refine HM6.mono ?_
      rintro e w7 ⟨A7, c7, r7, rfl, hi7, hs7, hm7, -, hb7⟩
      have hd7 := hdk hd6 hb7
      have hB7 := hB6.trans (hb7.mono hB6.size)
      have hu7 := (hu.below hb7).more hb7.size
      have hrow := hfr.out r7 hs7 hm7
      rw [← hfc.out] at hrow
      have hlen7 : r7.length = L.length := by rw [hct.out r7 hs7 hm7, hml.out, hrl.out]
      have hcnt : cF 24 F = L.length := by rw [← famL_len, hrow]; exact hlen7
      rw [hrow] at hu7
      have HE := rsame8_any w7 _ _ (nI r7) (nI r7) hu7 hi7
      rw [show decide (nI r7 = nI r7) = true from decide_eq_true rfl, nI_len] at HE
      have hul : (nI (famL 24 F)).length = r7.length := by rw [nI_len, hrow]
      clear HM6 hd6 hB6 hb7 hu7 hi7 hrow hm7 hs7 hb6 hu
      rw [hul]
      have hcntH := Lib.hid hcnt
      clear hul hlen7 hcnt hcF
      go_wp2_with fail
      refine HE.mono ?_
      rintro e w8 ⟨rfl, hb8⟩
      have hB8 := hB7.trans (hb8.mono hB7.size)
      have HC := HCo (hdk hd7 hb8)
      rw [hcntH.out] at HC
      clear HE hd7 hB7 hb8 HCo hdk
      go_wp2_with fail
      refine HC.mono ?_
      rintro e w9 ⟨rfl, hb9⟩
      have hB9 := hB8.trans (hb9.mono hB8.size)
      have he : (((L.length : Nat) : Int) == ((L.length : Nat) : Int)) = true := by simp
      clear HC hB8 hb9
      go_wp2_with fail
      refine (HK _).mono ?_
      rintro e w10 ⟨rfl, hb10⟩
      have hB10 := hb.trans ((hB9.trans (hb10.mono hB9.size)).mono hb.size)
      clear HK
      go_wp2
      go_ret
      exact ⟨rfl, hB10⟩
theorem taggedPrimes_any {Fr : Nat → World → Nat → Prop} {Dg : Nat → World → Nat → Int → (Nat → Bool) → Prop} (HD : DgOk Fr Dg) (HB : PrimesBad Fr) (HG : PrimesGood Fr Dg) (HA : AllC) (HK : Knows11) (X : BitVec 256) (n : Int) (w : World) :
    Calls Tryz.prog 4 #[sv X, .int .i64 n] w fun e w' => e = .returned (.bool true) ∧ Below w.heap.size w w' := by
  cases ho : ofB X n
  · exact primes11_no HD HB HK X n ho w
  · have hn : 0 ≤ n := by
      unfold ofB at ho
      rw [Bool.and_eq_true, decide_eq_true_iff] at ho
      exact ho.1.1
    by_cases h6 : 6 < n
    · exact primes11_big HD HK X n ho h6 w
    · obtain ⟨k, rfl⟩ : ∃ k : Nat, n = k := ⟨n.toNat, by omega⟩
      exact primes11_yes HD HG HA HK X k ho (by omega) w
end Go.Proofs.YtgajgjlldohekaaGreat
