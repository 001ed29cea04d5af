/- A diagram in memory: what stays while only an arena and some maps are written; level, half, uses. -/
import Derived.Test.YtbffcnnfkfjpgaaRch05
import Derived.Test.YtbffcnnfkfjpgaaPnt06
import Derived.Test.YtbffcnnfkfjpgaaLaw01d
namespace Go.Proofs.Ytbffcnnfkfjpgaa
open Go.RowKit Go.Joins

/-- w' has what w has, but for arenas' own blocks and the maps of M. -/
structure Kep (M : Nat → Prop) (w w' : World) : Prop where
  os : w'.os = w.os
  tape : w'.tape = w.tape
  output : w'.output = w.output
  size : w.heap.size ≤ w'.heap.size
  cells : ∀ (k : Nat) (C : Array Value) (T : TypeId) (z : Nat × Nat), w.heap[k]? = some (.cells C T z) → T ≠ 87 → T ≠ 97 → w'.heap[k]? = some (.cells C T z)
  maps : ∀ (k : Nat) es cl, w.heap[k]? = some (.map es cl) → ¬ M k → w'.heap[k]? = some (.map es cl)
theorem Kep.refl (M : Nat → Prop) (w : World) : Kep M w w := ⟨rfl, rfl, rfl, Nat.le_refl _, fun _ _ _ _ h _ _ => h, fun _ _ _ h _ => h⟩
theorem Kep.trans {M : Nat → Prop} {a b c : World} (h : Kep M a b) (k : Kep M b c) : Kep M a c :=
  ⟨k.os.trans h.os, k.tape.trans h.tape, k.output.trans h.output, Nat.le_trans h.size k.size, fun i C T z hi h1 h2 => k.cells i C T z (h.cells i C T z hi h1 h2) h1 h2, fun i es cl hi hn => k.maps i es cl (h.maps i es cl hi hn) hn⟩
theorem Kep.of_below {M : Nat → Prop} {w w' : World} (h : Below w.heap.size w w') : Kep M w w' :=
  ⟨h.os, h.tape, h.output, h.size, fun _ _ _ _ hi _ _ => keep_blk h hi, fun _ _ _ hi _ => keep_blk h hi⟩
theorem Kep.more {M : Nat → Prop} {a w w' : World} (h : Kep M a w) (k : Below w.heap.size w w') : Kep M a w' := h.trans (Kep.of_below k)
theorem Kep.mono {M N : Nat → Prop} {w w' : World} (h : Kep M w w') (hM : ∀ k, M k → N k) : Kep N w w' :=
  ⟨h.os, h.tape, h.output, h.size, h.cells, fun k es cl hi hn => h.maps k es cl hi fun m => hn (hM k m)⟩
theorem ArAt.not_fp_map {w : World} {B ab bm : Nat} {v : Value} {room full : Nat} {S : St} (h : ArAt w B ab bm v room full S) {k : Nat} {es clock} (hk : w.heap[k]? = some (.map es clock)) (hne : k ≠ bm) : ¬ Fp ab bm v k := by
  rintro (rfl | rfl | hv)
  · rw [h.head] at hk; unfold arV at hk; injection hk with hk; cases hk
  · exact hne rfl
  · rcases h.rows.2 with ⟨e, _⟩ | ⟨g, cap, cur, e, _, hg, _⟩
    · rw [e] at hv; simp [Value.ownBlock] at hv
    · rw [e] at hv
      have : g = k := by simpa [Value.ownBlock] using hv
      subst this
      rw [hg] at hk; injection hk with hk; cases hk
theorem Kep.of_off {w w' : World} {B ab bm : Nat} {v : Value} {room full : Nat} {S : St} (h : ArAt w B ab bm v room full S) (ho : Off (Fp ab bm v) w w') : Kep (· = bm) w w' :=
  ⟨ho.os, ho.tape, ho.output, ho.size, fun _ _ _ _ hi h1 h2 => h.keep ho hi h1 h2, fun k _ _ hi hn => (ho.block k (size_of_block hi) (h.not_fp_map hi hn)).trans hi⟩
theorem Kep.row {M : Nat → Prop} {w w' : World} (h : Kep M w w') {base size n : Nat} {T : TypeId} {u : Value} {xs : List Value} (hk : w.ownsRow base T size u n xs) (h1 : T ≠ 87) (h2 : T ≠ 97) : w'.ownsRow base T size u n xs :=
  ⟨hk.1, by
    rcases hk.2 with hn | ⟨g, cap, cur, hv, hg, hh, r⟩
    · exact .inl hn
    · exact .inr ⟨g, cap, cur, hv, hg, h.cells g _ _ _ hh h1 h2, r⟩⟩
theorem Try.neIntA6 : (3 : TypeId) ≠ 87 := by decide
theorem Try.neIntS6 : (3 : TypeId) ≠ 97 := by decide
theorem Try.neBddA : (61 : TypeId) ≠ 87 := by decide
theorem Try.neBddS : (61 : TypeId) ≠ 97 := by decide
/-- A diagram in memory, with all that holds of it. -/
structure BdAt (w : World) (B bb ab bm : Nat) (ov v : Value) (room full : Nat) (S : St) (o : List Nat) : Prop where
  head : w.heap[bb]? = some (.cells #[ov, .pointer (some ⟨ab, 0, none⟩)] 61 (0, 0))
  row : w.ownsRow B 3 1 ov o.length (intsV o)
  ar : ArAt w B ab bm v room full S
  ok : ArOk room full S
  rst : RSt S
  lst : LSt S o.length
  ord : OrdOk o
  eight : o.length ≤ 8
theorem BdAt.kep {M : Nat → Prop} {w w' : World} {B bb ab bm : Nat} {ov v v' : Value} {room full full' : Nat} {S S' : St} {o : List Nat} (h : BdAt w B bb ab bm ov v room full S o) (k : Kep M w w') (ha : ArAt w' B ab bm v' room full' S') (ho : ArOk room full' S') (hr : RSt S') (hl : LSt S' o.length) : BdAt w' B bb ab bm ov v' room full' S' o :=
  ⟨k.cells _ _ _ _ h.head Try.neBddA Try.neBddS, k.row h.row Try.neIntA6 Try.neIntS6, ha, ho, hr, hl, h.ord, h.eight⟩
theorem BdAt.below {w w' : World} {B bb ab bm : Nat} {ov v : Value} {room full : Nat} {S : St} {o : List Nat} (h : BdAt w B bb ab bm ov v room full S o) (hb : Below w.heap.size w w') : BdAt w' B bb ab bm ov v room full S o :=
  h.kep (M := fun _ => False) (Kep.of_below hb) (h.ar.below hb) h.ok h.rst h.lst
theorem BdAt.max {w : World} {B bb ab bm : Nat} {ov v : Value} {room full : Nat} {S : St} {o : List Nat} (h : BdAt w B bb ab bm ov v room full S o) : S.length ≤ 20000 := by have := h.ok.len; have := h.ok.max; omega
/-- An id that is used. -/
def usedB (S : St) (id : Int) : Bool := decide (0 ≤ lvl S id)
theorem used_cases {S : St} (hV : VSt S) (id : Int) : (∃ m, ndAt S id = some m ∧ usedB S id = true ∧ id ≠ 0 ∧ id ≠ 1) ∨ (ndAt S id = none ∧ usedB S id = decide (id = 0 ∨ id = 1)) := by
  cases hn : ndAt S id with
  | some m =>
    obtain ⟨h2, hm⟩ := ndAt_some.1 hn
    have h1 := (kids_lvl hV hn).1
    exact .inl ⟨m, rfl, by unfold usedB; rw [lvl_node hn]; simpa using h1.1, by omega, by omega⟩
  | none =>
    refine .inr ⟨rfl, ?_⟩
    unfold usedB
    by_cases he : id = 0 ∨ id = 1
    · rw [lvl_end he]; simp [he]
    · rw [lvl_not he hn]; simp; omega
theorem blevel_any {w : World} {B bb ab bm : Nat} {ov v : Value} {room full : Nat} {S : St} {o : List Nat} (h : BdAt w B bb ab bm ov v room full S o) (id : Int) :
    Calls Try.prog 61 #[.pointer (some ⟨bb, 0, none⟩), .int .i64 id] w fun e w' => e = .returned (.int .i64 (lvN o.length S id)) ∧ Below w.heap.size w w' := by
  have HN := node_any h.ar h.max id
  have hV := h.rst.vst
  obtain ⟨A, c, rfl⟩ := own_form h.row
  obtain ⟨c0, c1, cf⟩ := now2 h.head rfl
  have hk := fun w1 (hb : Below w.heap.size w w1) => now2 (keep_blk hb h.head) rfl
  cases hn : ndAt S id with
  | some m =>
    rw [hn] at HN
    unfold ndT at HN
    have h1 := (kids_lvl hV hn).1
    have hR : Hid (((lvN o.length S id : Nat) : Int) = m.1) := Lib.hid (by unfold lvN; rw [hn]; show ((m.1.toNat : Nat) : Int) = m.1; omega)
    clear hn h1 hk
    go_enter Try.func61, Try.ntmps61
    go_wp2_with fail
    refine HN.mono ?_
    rintro e w1 ⟨rfl, hb1⟩
    go_wp2
    go_ret
    exact ⟨by rw [hR.out]; rfl, hb1⟩
  | none =>
    rw [hn] at HN
    unfold ndT at HN
    have hR : Hid (((lvN o.length S id : Nat) : Int) = o.length) := Lib.hid (by unfold lvN; rw [hn])
    clear hn
    go_enter Try.func61, Try.ntmps61
    go_wp2_with fail
    refine HN.mono ?_
    rintro e w1 ⟨rfl, hb1⟩
    obtain ⟨d0, d1, df⟩ := hk w1 hb1
    go_wp2
    go_ret
    exact ⟨by rw [hR.out]; rfl, hb1⟩
theorem bhalf_any {w : World} {B bb ab bm : Nat} {ov v : Value} {room full : Nat} {S : St} {o : List Nat} (h : BdAt w B bb ab bm ov v room full S o) (id : Int) (l : Nat) (b : Bool) :
    Calls Try.prog 58 #[.pointer (some ⟨bb, 0, none⟩), .int .i64 id, .int .i64 l, .bool b] w fun e w' => e = .returned (.int .i64 (halfI S id l b)) ∧ Below w.heap.size w w' := by
  have HN := node_any h.ar h.max id
  obtain ⟨c0, c1, cf⟩ := now2 h.head rfl
  cases hn : ndAt S id with
  | none =>
    rw [hn] at HN
    unfold ndT at HN
    have hR : Hid (halfI S id l b = id) := Lib.hid (by unfold halfI; rw [hn])
    clear hn
    go_enter Try.func58, Try.ntmps58
    go_wp2_with fail
    refine HN.mono ?_
    rintro e w1 ⟨rfl, hb1⟩
    go_wp2
    go_ret
    exact ⟨by rw [hR.out]; rfl, hb1⟩
  | some m =>
    rw [hn] at HN
    unfold ndT at HN
    by_cases hm : m.1 = (l : Int)
    · have hmb : (m.1 != (l : Int)) = false := by simp [hm]
      have hR : Hid (halfI S id l b = if b then m.2.2 else m.2.1) := Lib.hid (by unfold halfI; rw [hn]; simp only; rw [if_pos hm])
      clear hn hm
      cases b
      · go_enter Try.func58, Try.ntmps58
        go_wp2_with fail
        refine HN.mono ?_
        rintro e w1 ⟨rfl, hb1⟩
        go_wp2
        go_ret
        exact ⟨by rw [hR.out]; rfl, hb1⟩
      · go_enter Try.func58, Try.ntmps58
        go_wp2_with fail
        refine HN.mono ?_
        rintro e w1 ⟨rfl, hb1⟩
        go_wp2
        go_ret
        exact ⟨by rw [hR.out]; rfl, hb1⟩
    · have hmb : (m.1 != (l : Int)) = true := by simpa using hm
      have hR : Hid (halfI S id l b = id) := Lib.hid (by unfold halfI; rw [hn]; simp only; rw [if_neg hm])
      clear hn
      go_enter Try.func58, Try.ntmps58
      go_wp2_with fail
      refine HN.mono ?_
      rintro e w1 ⟨rfl, hb1⟩
      go_wp2
      go_ret
      exact ⟨by rw [hR.out]; rfl, hb1⟩
theorem uses_any {w : World} {B bb ab bm : Nat} {ov v : Value} {room full : Nat} {S : St} {o : List Nat} (h : BdAt w B bb ab bm ov v room full S o) (ib cp : Nat) (ids : List Int) (hl : ids.length ≤ 3) (hi : ∀ j x, ids[j]? = some x → w.cell? ⟨ib, j, none⟩ = some (.int .i64 x)) :
    Calls Try.prog 32 #[.pointer (some ⟨bb, 0, none⟩), .slice (some ⟨ib, 0, none⟩) ids.length cp] w fun e w' => e = .returned (.bool (ids.all (usedB S))) ∧ Below w.heap.size w w' := by
  have hV := h.rst.vst
  have hT : Hid (∀ k, k = ids.length → (ids.take k).all (usedB S) = true → ids.all (usedB S) = true) := Lib.hid (fun k hk hh => by rw [hk, List.take_length] at hh; exact hh)
  go_enter Try.func32, Try.ntmps32
  go_wp2
  go_loopw [15] (fun t wr => ∃ k : Nat, k ≤ ids.length ∧ t = .int .i64 k ∧ Hid ((ids.take k).all (usedB S) = true) ∧ Below w.heap.size w wr) (fun t _ => ids.length - (intOf t).toNat)
  case atStart => exact ⟨0, by omega, rfl, Lib.hid (by simp), Below.refl _ _⟩
  case round =>
    obtain ⟨k, hk, rfl, hall, hb⟩ := hrel
    have hr := h.below hb
    obtain ⟨c0, c1, cf⟩ := now2 hr.head rfl
    by_cases hlt : k < ids.length
    · obtain ⟨x, hx⟩ : ∃ x, ids[k]? = some x := ⟨_, List.getElem?_eq_getElem hlt⟩
      have q := After.cell ⟨wr, hb⟩ (hi k x hx)
      dsimp only at q
      have HN := node_any hr.ar hr.max x
      have hsucc : Hid (∀ u, usedB S x = u → (ids.take (k + 1)).all (usedB S) = u) := Lib.hid (fun u hu => by rw [List.take_add_one, hx, List.all_append, hall.out]; simp [hu])
      have hbad : Hid (usedB S x = false → ids.all (usedB S) = false) := Lib.hid (fun hu => by
        rw [List.all_eq_false]
        exact ⟨x, List.mem_of_getElem? hx, by rw [hu]; decide⟩)
      clear hx hi
      rcases used_cases hV x with ⟨m, hn, hu, h0, h1⟩ | ⟨hn, hu⟩
      · rw [hn] at HN
        unfold ndT at HN
        clear hn
        go_wp2_with fail
        refine HN.mono ?_
        rintro e w1 ⟨rfl, hb1⟩
        go_wp2
        go_roundw
        case rel => exact ⟨k + 1, by omega, by go_num, Lib.hid (hsucc.out true hu), hb.trans (hb1.mono hb.size)⟩
        case measure => simp [intOf]; omega
      · rw [hn] at HN
        unfold ndT at HN
        clear hn
        by_cases h0 : x = 0
        · have hu' : usedB S x = true := by rw [hu, h0]; decide
          have b0 : (x != 0) = false := by rw [h0]; rfl
          clear h0 hu
          go_wp2_with fail
          refine HN.mono ?_
          rintro e w1 ⟨rfl, hb1⟩
          go_wp2
          go_roundw
          case rel => exact ⟨k + 1, by omega, by go_num, Lib.hid (hsucc.out true hu'), hb.trans (hb1.mono hb.size)⟩
          case measure => simp [intOf]; omega
        · have b0 : (x != 0) = true := by simpa using h0
          by_cases h1 : x = 1
          · have hu' : usedB S x = true := by rw [hu, h1]; decide
            have b1 : (x != 1) = false := by rw [h1]; rfl
            clear h0 h1 hu
            go_wp2_with fail
            refine HN.mono ?_
            rintro e w1 ⟨rfl, hb1⟩
            go_wp2
            go_roundw
            case rel => exact ⟨k + 1, by omega, by go_num, Lib.hid (hsucc.out true hu'), hb.trans (hb1.mono hb.size)⟩
            case measure => simp [intOf]; omega
          · have hu' : usedB S x = false := by rw [hu]; simp [h0, h1]
            have b1 : (x != 1) = true := by simpa using h1
            clear h0 h1 hu
            go_wp2_with fail
            refine HN.mono ?_
            rintro e w1 ⟨rfl, hb1⟩
            go_wp2
            go_ret
            exact ⟨by rw [hbad.out hu']; rfl, hb.trans (hb1.mono hb.size)⟩
    · have hd := Lib.hid (hT.out k (by omega) hall.out)
      go_wp2
      go_ret
      exact ⟨by rw [hd.out]; rfl, hb⟩
end Go.Proofs.Ytbffcnnfkfjpgaa
