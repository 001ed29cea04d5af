/- Families in memory: what stays while some arenas and maps are written; a diagram; level, halves, uses. -/
import Derived.Test.YtgajgjlldohekaaGreatGP14
import Derived.Test.YtgajgjlldohekaaGreatGP19
namespace Go.Proofs.YtgajgjlldohekaaGreat
open Go.RowKit Go.Joins

/-- w' has what w has, but for arenas' own blocks, the cells of C, the maps of M; and all of N. -/
structure Kz (C M N : Nat → Prop) (w w' : World) : Prop where
  os : w'.os = w.os
  tape : w'.tape = w.tape
  output : w'.output = w.output
  size : w.heap.size ≤ w'.heap.size
  cells : ∀ (k : Nat) (A : Array Value) (T : TypeId) (z : Nat × Nat), w.heap[k]? = some (.cells A T z) → T ≠ 108 → T ≠ 171 → ¬ C k → w'.heap[k]? = some (.cells A T z)
  maps : ∀ (k : Nat) es cl, w.heap[k]? = some (.map es cl) → ¬ M k → w'.heap[k]? = some (.map es cl)
  prot : ∀ k, N k → k < w.heap.size → w'.heap[k]? = w.heap[k]?
theorem nowz1 {w : World} {b : Nat} {T : TypeId} {C : Array Value} {x0 : Value} (h : w.heap[b]? = some (.cells C T (0, 0))) (hC : C = #[x0]) :
    w.cell? ⟨b, 0, none⟩ = some x0 ∧ (∀ j : Nat, w.frozen? ⟨b, j, none⟩ = false) := by
  subst hC
  exact ⟨by rw [cell_of_block h]; rfl, unfrozen_of_block h⟩
theorem boxz1 {w : World} {b : Nat} {T : TypeId} {C : Array Value} {x0 : Value} (h : w.heap[b]? = some (.cells C T (0, 0))) (hC : C = #[x0]) :
    (∀ x : After w, x.1.cell? ⟨b, 0, none⟩ = some x0) ∧ (∀ (x : After w) (j : Nat), x.1.frozen? ⟨b, j, none⟩ = false) := by
  subst hC
  exact ⟨fun x => (nowz1 (After.same x h) rfl).1, fun x => (nowz1 (After.same x h) rfl).2⟩
abbrev no8 : Nat → Prop := fun _ => False
theorem Kz.refl (C M N : Nat → Prop) (w : World) : Kz C M N w w := ⟨rfl, rfl, rfl, Nat.le_refl _, fun _ _ _ _ h _ _ _ => h, fun _ _ _ h _ => h, fun _ _ _ => rfl⟩
theorem Kz.trans {C M N : Nat → Prop} {a b c : World} (h : Kz C M N a b) (k : Kz C M N b c) : Kz C M N a c :=
  ⟨k.os.trans h.os, k.tape.trans h.tape, k.output.trans h.output, Nat.le_trans h.size k.size, fun i A T z hi h1 h2 hC => k.cells i A T z (h.cells i A T z hi h1 h2 hC) h1 h2 hC, fun i es cl hi hn => k.maps i es cl (h.maps i es cl hi hn) hn, fun i hN hi => (k.prot i hN (Nat.lt_of_lt_of_le hi h.size)).trans (h.prot i hN hi)⟩
theorem Kz.of_below {C M N : Nat → Prop} {w w' : World} (h : Below w.heap.size w w') : Kz C M N w w' :=
  ⟨h.os, h.tape, h.output, h.size, fun _ _ _ _ hi _ _ _ => keep_blk h hi, fun _ _ _ hi _ => keep_blk h hi, fun k _ hk => h.block k hk⟩
theorem Kz.more {C M N : Nat → Prop} {a w w' : World} (h : Kz C M N a w) (k : Below w.heap.size w w') : Kz C M N a w' := h.trans (Kz.of_below k)
theorem Kz.mono {C M N C' M' N' : Nat → Prop} {w w' : World} (h : Kz C M N w w') (hC : ∀ k, C k → C' k) (hM : ∀ k, M k → M' k) (hN : ∀ k, N' k → N k) : Kz C' M' N' w w' :=
  ⟨h.os, h.tape, h.output, h.size, fun k A T z hk h1 h2 hn => h.cells k A T z hk h1 h2 fun c => hn (hC k c), fun k es cl hk hn => h.maps k es cl hk fun m => hn (hM k m), fun k hk => h.prot k (hN k hk)⟩
/-- What is new to the world may be written. -/
theorem Kz.fresh {C M N C' M' : Nat → Prop} {w w' : World} (h : Kz C M N w w') (hC : ∀ k, C k → C' k ∨ w.heap.size ≤ k) (hM : ∀ k, M k → M' k ∨ w.heap.size ≤ k) : Kz C' M' N w w' :=
  ⟨h.os, h.tape, h.output, h.size, fun k A T z hk h1 h2 hn => h.cells k A T z hk h1 h2 fun c => by rcases hC k c with a | a; exact hn a; have := size_of_block hk; omega, fun k es cl hk hn => h.maps k es cl hk fun m => by rcases hM k m with a | a; exact hn a; have := size_of_block hk; omega, h.prot⟩
theorem Kz.below {C M : Nat → Prop} {B : Nat} {w w' : World} (h : Kz C M (· < B) w w') (hB : B ≤ w.heap.size) : Below B w w' :=
  ⟨h.os, h.tape, h.output, h.size, fun k hk => h.prot k hk (Nat.lt_of_lt_of_le hk hB)⟩
theorem Kz.of_off {C N : Nat → Prop} {w w' : World} {B ab bm : Nat} {v : Value} {room full : Nat} {S : St} (h : ArAt w B ab bm v room full S) (hN : ∀ k, N k → k < w.heap.size ∧ ¬ Fp ab bm v k) (ho : Off (Fp ab bm v) w w') : Kz C (· = bm) N w w' :=
  ⟨ho.os, ho.tape, ho.output, ho.size, fun _ _ _ _ hi h1 h2 _ => h.keep ho hi h1 h2, fun k _ _ hi hn => (ho.block k (size_of_block hi) (h.not_fp_map hi hn)).trans hi, fun k hk hl => ho.block k hl (hN k hk).2⟩
/-- An arena whose blocks are as they were. -/
theorem ArAt.same {w w' : World} {B ab bm : Nat} {v : Value} {room full : Nat} {S : St} (h : ArAt w B ab bm v room full S) (hk : ∀ k, Fp ab bm v k → k < w.heap.size → w'.heap[k]? = w.heap[k]?) : ArAt w' B ab bm v room full S :=
  ⟨h.base, (hk ab (.inl rfl) h.lt.2.1).trans h.head, own_keep h.rows (fun g hv _ hl => hk g (.inr (.inr hv)) hl), h.ids.keep (hk bm (.inr (.inl rfl)) h.lt.2.2)⟩
theorem ArAt.fp_lt {w : World} {B ab bm : Nat} {v : Value} {room full : Nat} {S : St} (h : ArAt w B ab bm v room full S) (k : Nat) (hk : Fp ab bm v k) : k < w.heap.size := by
  rcases hk with rfl | rfl | hk
  · exact h.lt.2.1
  · exact h.lt.2.2
  · exact (h.rows.lt k hk).2
/-- The ids have no gaps. -/
def Gap (S : St) : Prop := ∀ (i : Nat) (n : Nd), S[i]? = some (some n) → ∀ j, j < i → ∃ m, S[j]? = some (some m)
theorem Gap.nil : Gap [] := fun i n h => by simp at h
theorem Gap.made {S : St} (h : Gap S) (room : Nat) (n : Nd) : Gap (mkS room S n).1 := by
  unfold mkS
  split
  · exact h
  · split
    · exact h
    · split
      · exact h
      · intro i m hi j hj
        simp only at hi ⊢
        by_cases e : i = freeI S
        · subst e
          obtain ⟨m', hm'⟩ := freeI_before hj
          exact ⟨m', (putS_other (by omega) (freeI_le S)).trans hm'⟩
        · rw [putS_other e (freeI_le S)] at hi
          obtain ⟨m', hm'⟩ := h i m hi j hj
          by_cases e2 : j = freeI S
          · exact absurd hm' (by rw [e2]; exact free_not m')
          · exact ⟨m', (putS_other e2 (freeI_le S)).trans hm'⟩
theorem Gap.iff : ∀ {S : St}, Gap S → ∀ j, (∃ n, S[j]? = some (some n)) ↔ j < cnt S
  | [], _, j => by simp [cnt]
  | none :: S, h, j => by
    have hno : ∀ (i : Nat) (n : Nd), (none :: S)[i]? ≠ some (some n) := fun i n hi => by
      cases i with
      | zero => simp at hi
      | succ i =>
        obtain ⟨m, hm⟩ := h (i + 1) n hi 0 (by omega)
        simp at hm
    have hc : cnt (none :: S) = 0 := by
      unfold cnt
      rw [List.countP_eq_zero]
      intro o ho hs
      obtain ⟨i, hi, e⟩ := List.mem_iff_getElem.1 ho
      obtain ⟨n, rfl⟩ := Option.isSome_iff_exists.1 hs
      exact hno i n (by rw [List.getElem?_eq_getElem hi, e])
    rw [hc]
    exact ⟨fun ⟨n, hn⟩ => absurd hn (hno j n), fun h => by omega⟩
  | some m :: S, h, j => by
    have hS : Gap S := fun i n hi j hj => by
      have := h (i + 1) n (by simpa using hi) (j + 1) (by omega)
      simpa using this
    have ih := Gap.iff hS
    have hc : cnt (some m :: S) = cnt S + 1 := by unfold cnt; simp
    rw [hc]
    cases j with
    | zero => exact ⟨fun _ => by omega, fun _ => ⟨m, rfl⟩⟩
    | succ j =>
      have := ih j
      simp only [List.getElem?_cons_succ]
      rw [this]
      omega
/-- A diagram in memory, with all that holds of it; what is kept from it: N. -/
structure ZdAt (w : World) (N : Nat → Prop) (zb ab bm : Nat) (v : Value) (room full : Nat) (S : St) : Prop where
  head : w.heap[zb]? = some (.cells #[.pointer (some ⟨ab, 0, none⟩)] 73 (0, 0))
  ar : ArAt w 0 ab bm v room full S
  ok : ArOk room full S
  zst : ZSt S
  gap : Gap S
  off : ∀ k, N k → k < w.heap.size ∧ ¬ Fp ab bm v k
theorem Tryz.neZddA : (73 : TypeId) ≠ 108 := by decide
theorem Tryz.neZddS : (73 : TypeId) ≠ 171 := by decide
theorem ZdAt.max {w : World} {N : Nat → Prop} {zb ab bm : Nat} {v : Value} {room full : Nat} {S : St} (h : ZdAt w N zb ab bm v room full S) : S.length ≤ 20000 := by have := h.ok.len; have := h.ok.max; omega
theorem ZdAt.below {w w' : World} {N : Nat → Prop} {zb ab bm : Nat} {v : Value} {room full : Nat} {S : St} (h : ZdAt w N zb ab bm v room full S) (hb : Below w.heap.size w w') : ZdAt w' N zb ab bm v room full S :=
  ⟨keep_blk hb h.head, h.ar.below hb, h.ok, h.zst, h.gap, fun k hk => ⟨Nat.lt_of_lt_of_le (h.off k hk).1 hb.size, (h.off k hk).2⟩⟩
theorem ZdAt.fewer {w : World} {N N' : Nat → Prop} {zb ab bm : Nat} {v : Value} {room full : Nat} {S : St} (h : ZdAt w N zb ab bm v room full S) (hN : ∀ k, N' k → N k) : ZdAt w N' zb ab bm v room full S :=
  ⟨h.head, h.ar, h.ok, h.zst, h.gap, fun k hk => h.off k (hN k hk)⟩
/-- Its own blocks are among those that are kept. -/
theorem ZdAt.same {C M N' : Nat → Prop} {w w' : World} {N : Nat → Prop} {zb ab bm : Nat} {v : Value} {room full : Nat} {S : St} (h : ZdAt w N zb ab bm v room full S) (k : Kz C M N' w w') (hC : ¬ C zb) (hN : ∀ k, Fp ab bm v k → N' k) : ZdAt w' N zb ab bm v room full S :=
  ⟨k.cells _ _ _ _ h.head Tryz.neZddA Tryz.neZddS hC, h.ar.same (fun i hi hl => k.prot i (hN i hi) hl), h.ok, h.zst, h.gap, fun i hi => ⟨Nat.lt_of_lt_of_le (h.off i hi).1 k.size, (h.off i hi).2⟩⟩
theorem used8 {S : St} {id : Int} (h : 0 ≤ lvl S id) : usedB S id = true := decide_eq_true h
/-- The lowest item of a family; of an end: 24. -/
theorem zlevel_any {w : World} {N : Nat → Prop} {zb ab bm : Nat} {v : Value} {room full : Nat} {S : St} (h : ZdAt w N zb ab bm v room full S) (id : Int) (h0 : 0 ≤ lvl S id) :
    Calls Tryz.prog 161 #[.pointer (some ⟨zb, 0, none⟩), .int .i64 id] w fun e w' => e = .returned (.int .i64 (lvl S id)) ∧ Below w.heap.size w w' := by
  have HN := node_any h.ar h.max id
  obtain ⟨c0, cf⟩ := nowz1 h.head rfl
  cases hn : ndAt S id with
  | some m =>
    rw [hn] at HN
    unfold ndT at HN
    have hR : Hid (lvl S id = m.1) := Lib.hid (lvl_node hn)
    clear hn h0
    go_enter Tryz.func161, Tryz.ntmps161
    go_wp2_with fail
    refine HN.mono ?_
    rintro e w1 ⟨rfl, hb1⟩
    go_wp2
    go_ret
    exact ⟨by rw [hR.out]; rfl, hb1⟩
  | none =>
    rw [hn] at HN
    unfold ndT at HN
    have hR : Hid (lvl S id = 24) := Lib.hid (by
      by_cases he : id = 0 ∨ id = 1
      · exact lvl_end he
      · rw [lvl_not he hn] at h0; omega)
    clear hn h0
    go_enter Tryz.func161, Tryz.ntmps161
    go_wp2_with fail
    refine HN.mono ?_
    rintro e w1 ⟨rfl, hb1⟩
    go_wp2
    go_ret
    exact ⟨by rw [hR.out]; rfl, hb1⟩
/-- The halves of an id by an item. -/
def hv (S : St) (id i : Int) : Int × Int := match ndAt S id with
  | some m => if m.1 = i then (m.2.1, m.2.2) else (id, 0)
  | none => (id, 0)
theorem zhalves_any {w : World} {N : Nat → Prop} {zb ab bm : Nat} {v : Value} {room full : Nat} {S : St} (h : ZdAt w N zb ab bm v room full S) (id i : Int) :
    Calls Tryz.prog 162 #[.pointer (some ⟨zb, 0, none⟩), .int .i64 id, .int .i64 i] w fun e w' => e = .returned (.tuple #[.int .i64 (hv S id i).1, .int .i64 (hv S id i).2]) ∧ Below w.heap.size w w' := by
  have HN := node_any h.ar h.max id
  obtain ⟨c0, cf⟩ := nowz1 h.head rfl
  cases hn : ndAt S id with
  | some m =>
    rw [hn] at HN
    unfold ndT at HN
    by_cases hm : m.1 = i
    · have hmb : (m.1 == i) = true := by simp [hm]
      have hR : Hid (hv S id i = (m.2.1, m.2.2)) := Lib.hid (by unfold hv; rw [hn]; exact if_pos hm)
      clear hn hm
      go_enter Tryz.func162, Tryz.ntmps162
      go_wp2_with fail
      refine HN.mono ?_
      rintro e w1 ⟨rfl, hb1⟩
      go_wp2
      go_ret2
      exact ⟨by rw [hR.out]; rfl, hb1⟩
    · have hmb : (m.1 == i) = false := by simpa using hm
      have hR : Hid (hv S id i = (id, 0)) := Lib.hid (by unfold hv; rw [hn]; exact if_neg hm)
      clear hn hm
      go_enter Tryz.func162, Tryz.ntmps162
      go_wp2_with fail
      refine HN.mono ?_
      rintro e w1 ⟨rfl, hb1⟩
      go_wp2
      go_ret2
      exact ⟨by rw [hR.out]; rfl, hb1⟩
  | none =>
    rw [hn] at HN
    unfold ndT at HN
    have hR : Hid (hv S id i = (id, 0)) := Lib.hid (by unfold hv; rw [hn])
    clear hn
    go_enter Tryz.func162, Tryz.ntmps162
    go_wp2_with fail
    refine HN.mono ?_
    rintro e w1 ⟨rfl, hb1⟩
    go_wp2
    go_ret2
    exact ⟨by rw [hR.out]; rfl, hb1⟩
theorem zuses_any {w : World} {N : Nat → Prop} {zb ab bm : Nat} {v : Value} {room full : Nat} {S : St} (h : ZdAt w N zb ab bm v room full S) (ib cp : Nat) (ids : List Int) (hl : ids.length ≤ 3) (hi : ∀ j x, ids[j]? = some x → w.cell? ⟨ib, j, none⟩ = some (.int .i64 x)) :
    Calls Tryz.prog 46 #[.pointer (some ⟨zb, 0, none⟩), .slice (some ⟨ib, 0, none⟩) ids.length cp] w fun e w' => e = .returned (.bool (ids.all (usedB S))) ∧ Below w.heap.size w w' := by
  have hV := h.zst.vst
  have hT : Hid (∀ k, k = ids.length → (ids.take k).all (usedB S) = true → ids.all (usedB S) = true) := Lib.hid (fun k hk hh => by rw [hk, List.take_length] at hh; exact hh)
  go_enter Tryz.func46, Tryz.ntmps46
  go_wp2
  go_loopw [15] (fun t wr => ∃ k : Nat, k ≤ ids.length ∧ t = .int .i64 k ∧ Hid ((ids.take k).all (usedB S) = true) ∧ Below w.heap.size w wr) (fun t _ => ids.length - (intOf t).toNat)
  case atStart => exact ⟨0, by omega, rfl, Lib.hid (by simp), Below.refl _ _⟩
  case round =>
    obtain ⟨k, hk, rfl, hall, hb⟩ := hrel
    have hr := h.below hb
    obtain ⟨c0, cf⟩ := nowz1 hr.head rfl
    by_cases hlt : k < ids.length
    · obtain ⟨x, hx⟩ : ∃ x, ids[k]? = some x := ⟨_, List.getElem?_eq_getElem hlt⟩
      have q := After.cell ⟨wr, hb⟩ (hi k x hx)
      dsimp only at q
      have HN := node_any hr.ar hr.max x
      have hsucc : Hid (∀ u, usedB S x = u → (ids.take (k + 1)).all (usedB S) = u) := Lib.hid (fun u hu => by rw [List.take_add_one, hx, List.all_append, hall.out]; simp [hu])
      have hbad : Hid (usedB S x = false → ids.all (usedB S) = false) := Lib.hid (fun hu => by
        rw [List.all_eq_false]
        exact ⟨x, List.mem_of_getElem? hx, by rw [hu]; decide⟩)
      clear hx hi
      rcases used_cases hV x with ⟨m, hn, hu, h0, h1⟩ | ⟨hn, hu⟩
      · rw [hn] at HN
        unfold ndT at HN
        clear hn
        go_wp2_with fail
        refine HN.mono ?_
        rintro e w1 ⟨rfl, hb1⟩
        go_wp2
        go_roundw
        case rel => exact ⟨k + 1, by omega, by go_num, Lib.hid (hsucc.out true hu), hb.trans (hb1.mono hb.size)⟩
        case measure => simp [intOf]; omega
      · rw [hn] at HN
        unfold ndT at HN
        clear hn
        by_cases h0 : x = 0
        · have hu' : usedB S x = true := by rw [hu, h0]; decide
          have b0 : (x != 0) = false := by rw [h0]; rfl
          clear h0 hu
          go_wp2_with fail
          refine HN.mono ?_
          rintro e w1 ⟨rfl, hb1⟩
          go_wp2
          go_roundw
          case rel => exact ⟨k + 1, by omega, by go_num, Lib.hid (hsucc.out true hu'), hb.trans (hb1.mono hb.size)⟩
          case measure => simp [intOf]; omega
        · have b0 : (x != 0) = true := by simpa using h0
          by_cases h1 : x = 1
          · have hu' : usedB S x = true := by rw [hu, h1]; decide
            have b1 : (x != 1) = false := by rw [h1]; rfl
            clear h0 h1 hu
            go_wp2_with fail
            refine HN.mono ?_
            rintro e w1 ⟨rfl, hb1⟩
            go_wp2
            go_roundw
            case rel => exact ⟨k + 1, by omega, by go_num, Lib.hid (hsucc.out true hu'), hb.trans (hb1.mono hb.size)⟩
            case measure => simp [intOf]; omega
          · have hu' : usedB S x = false := by rw [hu]; simp [h0, h1]
            have b1 : (x != 1) = true := by simpa using h1
            clear h0 h1 hu
            go_wp2_with fail
            refine HN.mono ?_
            rintro e w1 ⟨rfl, hb1⟩
            go_wp2
            go_ret
            exact ⟨by rw [hbad.out hu']; rfl, hb.trans (hb1.mono hb.size)⟩
    · have hd := Lib.hid (hT.out k (by omega) hall.out)
      go_wp2
      go_ret
      exact ⟨by rw [hd.out]; rfl, hb⟩
end Go.Proofs.YtgajgjlldohekaaGreat
