/- across of the package reduce: for each number the places of the lists that have it, all in one memory. -/
import Derived.Test.YtcbhcclickjpnaaGK07
import Derived.ArgAppend
namespace Go.Proofs.Ytcbhcclickjpnaa
open Go.RowKit Go.Joins

theorem wpList_appendR (w : World) {ops : Array Oper} {rest : List Oper} {o : Oper} {a : Act} {Q : Exit → Act → World → Prop}
    (hg : o.guard = none) (s x : Operand) (t : TypeId) (hop : o.op = .call { callee := .builtin .append, args := #[s, x], argTypes := #[t, t] }) (V v v' : Value) (w' : World) (hs : a.eval s = V) (hx : a.eval x = v)
    (hrun : (Builtin.append_ #[t, t] o.type #[V, v]).run Try.prog w = .ok v' w') (hK : wpList Try.prog ops Q rest (a.put o.dst v') w') : wpList Try.prog ops Q (o :: rest) a w := by
  refine wpList_plain hg fun K' hK' => ?_
  unfold Oper.wp execOp
  simp [hop, resolve, invoke, builtin, hs, hx, hrun, Result.andThen]
  exact hK' _ _ hK
set_option maxRecDepth 100000 in
/-- One number behind what a slice holds, in the memory that it has. -/
theorem append_in14 {w : World} {b off n c : Nat} {ty : TypeId} {M : Nat → Value} {tot : Nat} {k : Int} {a : Nat} (h : w.heap[b]? = some (celO 3 tot M)) (hn : n < c) (ht : off + n < tot) (ha : w.cell? ⟨a, 0, none⟩ = some (.int .i64 k)) (m : Nat) :
    (Builtin.append_ #[30, 30] ty #[.slice (some ⟨b, off, none⟩) n c, .slice (some ⟨a, 0, none⟩) 1 m]).run Try.prog w = .ok (.slice (some ⟨b, off, none⟩) (n + 1) c) (w.setCell ⟨b, off + n, none⟩ (.int .i64 k)) := by
  obtain ⟨i0, hi0, hz0, hz1, hz2⟩ := info_parts Try.infoInt14
  obtain ⟨y0, yf⟩ := cel_cell h ht
  have h1 := run_append_room_cells w 30 ty 3 i0 Try.underlying30 hi0 b off n c ⟨a, 0, none⟩ 1 m [.int .i64 k] (by rw [hz1]; rfl) (fun j u hj => by
    match j, hj with
    | 0, hj =>
      injection hj with hj
      subst hj
      exact ha) (fun u hu => by rw [List.mem_singleton.1 hu]; rfl) (by omega) (fun j hj => by
    have e : j = 0 := by simpa using hj
    subst e
    rw [hz1, Nat.mul_one, Nat.add_zero, y0]; rfl) (fun j hj => by
    have e : j = 0 := by simpa using hj
    subst e
    rw [hz1, Nat.mul_one, Nat.add_zero]; exact yf)
  rw [h1, hz1, Nat.mul_one]
  rfl
theorem two_made14 (W : World) (o1 o2 : Obj) : ((W.alloc o1).alloc o2).heap[W.heap.size]? = some o1 ∧ ((W.alloc o1).alloc o2).heap[W.heap.size + 1]? = some o2 := by
  refine ⟨?_, ?_⟩
  · exact (Below.heap_alloc _ _ _ (by simp)).trans (heap_alloc_new W o1)
  · have := heap_alloc_new (W.alloc o1) o2
    rwa [World.size_alloc] at this
theorem two_keep14 {W : World} {o1 o2 o : Obj} {b : Nat} (h : W.heap[b]? = some o) : ((W.alloc o1).alloc o2).heap[b]? = some o :=
  (Below.heap_alloc _ _ _ (by have := size_of_block h; simp; omega)).trans ((Below.heap_alloc _ _ _ (size_of_block h)).trans h)
/-- The rows of one memory, as slices. -/
def rowV (mb : Nat) (o : Nat → Nat) (c n : Nat → Nat) (y : Nat) : Value := .slice (some ⟨mb, o y, none⟩) (c y) (n y)
set_option maxHeartbeats 8000000 in
set_option maxRecDepth 100000 in
theorem across14_any (V : Value) (ls : List (List Int)) (n : Nat) (w : World) (hV : MatAt w w.heap.size V ls) (hn : n ≤ 4000) (hls : ls.length ≤ 4000) (hr : ∀ r, r ∈ ls → risL n r) (hlen : ∀ r, r ∈ ls → r.length ≤ 4000) :
    Calls Try.prog 100 #[V, .int .i64 n] w fun e w' => ∃ v, e = .returned v ∧ MatAt w' w'.heap.size v ((List.range n).map fun y : Nat => whr ls (y : Int)) ∧ Below w.heap.size w w' := by
  have hmi := fun (k : Nat) (hk : k ≤ 16000000) w => make_ints14 k hk w
  have hmk1 := hmi n (by omega)
  have hmk2 := fun w => make_rows14 n (by omega) w
  have hpre := Lib.hid (pre_all hr)
  have htot := Lib.hid (totK_le hlen ls.length)
  have hmk3 := hmi (totK ls ls.length) (by have := htot.out; omega)
  obtain ⟨A, c, rfl, hl, hc⟩ := hV
  have hcH := Lib.hid hc
  have hrH := Lib.hid hr
  have hlenH := Lib.hid hlen
  have ha := heap_alloc_new w (celO 3 n fun _ => .int .i64 0)
  have hB1 := below_alloc1 w (celO 3 n fun _ => .int .i64 0)
  have hs1 : (w.alloc (celO 3 n fun _ => .int .i64 0)).heap.size = w.heap.size + 1 := World.size_alloc _ _
  have hsH := Lib.hid hs1
  clear hc hr hlen hmi hs1
  go_enter Try.func100, Try.ntmps100
  go_wp2
  generalize w.alloc _ = w1 at *
  generalize hgb : w.heap.size = gb at *
  have hgbH := Lib.hid hgb
  clear hgb
  go_loopw [6, 8, 10, 23] (fun s _ _ t wr => ∃ k : Nat, k ≤ ls.length ∧ t = .int .i64 k ∧ s = .int .i64 (totK ls k : Nat) ∧ wr.heap[gb]? = some (celO 3 n fun y => .int .i64 ((whK ls (y : Int) k).length : Nat)) ∧ Below gb w wr) (fun _ _ _ t _ => ls.length - (intOf t).toNat)
  case atStart => exact ⟨0, by omega, rfl, rfl, ha, hB1⟩
  case round =>
    clear ha hB1 hsH
    obtain ⟨k, hk, rfl, rfl, hg, hb⟩ := hrel
    by_cases hlt : k < ls.length
    · obtain ⟨b, off, rfl, hB, hcc⟩ := hcH.out (by omega)
      obtain ⟨r, hrk⟩ : ∃ r, ls[k]? = some r := ⟨_, List.getElem?_eq_getElem hlt⟩
      obtain ⟨ov, z0, hov⟩ := hcc k r hrk
      have z1 := (hb.cell (p := ⟨b, off + k, none⟩) hB).trans z0
      obtain ⟨Ar, cr, rfl, hlr, hcr⟩ := hov
      have hrm := List.mem_of_getElem? hrk
      have hrl := hlenH.out r hrm
      have hts := Lib.hid (totK_succ hrk)
      have htk : totK ls k ≤ 16000000 := by
        have := totK_le hlenH.out k
        omega
      have k0 : (0 : Int) ≤ (k : Int) := by omega
      have k1 : (k : Int) < (ls.length : Int) := by omega
      have hst : Hid (∀ y : Nat, ctX ls k 0 y = whK ls (y : Int) k) := Lib.hid (fun y => ct_start ls k y)
      have hen : Hid (∀ y : Nat, ctX ls k r.length y = whK ls (y : Int) (k + 1)) := Lib.hid (fun y => ct_row hrk y)
      have hit : Hid (∀ (j y : Nat), r[j]? = some (y : Int) → ctX ls k (j + 1) y = ctX ls k j y ++ [(k : Int)]) := Lib.hid (fun j y => ct_hit hrk (hrH.out r hrm).2)
      have hmi : Hid (∀ (j y z : Nat), r[j]? = some (y : Int) → z ≠ y → ctX ls k (j + 1) z = ctX ls k j z) := Lib.hid (fun j y z => ct_miss hrk)
      have hle : Hid (∀ (j y : Nat), (ctX ls k j y).length ≤ 4000) := Lib.hid (fun j y => by
        have h1 := ct_le (j := j) hrk y
        have h2 : nS ls y ≤ ls.length := whK_len ls y ls.length
        omega)
      have hlow := Lib.hid ((hrH.out r hrm).1)
      have hg0 : wr.heap[gb]? = some (celO 3 n fun y => .int .i64 ((ctX ls k 0 y).length : Nat)) := by
        rw [hg]
        exact congrArg some (celO_ext fun y _ => by rw [hst.out])
      generalize totK ls k = tk at *
      clear hmk1 hmk2 hmk3
      clear hcH hcc hrk z0 hrm hg hrH hlenH hst
      go_wp2
      go_loopw [10, 33] (fun _ t wi => ∃ j : Nat, j ≤ r.length ∧ t = .int .i64 j ∧ wi.heap[gb]? = some (celO 3 n fun y => .int .i64 ((ctX ls k j y).length : Nat)) ∧ Below gb w wi) (fun _ t _ => r.length - (intOf t).toNat)
      case atStart => exact ⟨0, by omega, rfl, hg0, hb⟩
      case round =>
        clear hg0 hb
        obtain ⟨j, hj, rfl, hg, hb⟩ := hrel
        by_cases hlt2 : j < r.length
        · obtain ⟨br, offr, rfl, hBr, hccr⟩ := hcr (by omega)
          obtain ⟨x, hx⟩ : ∃ x, r[j]? = some x := ⟨_, List.getElem?_eq_getElem hlt2⟩
          obtain ⟨x0, x1⟩ := hlow.out x (List.mem_of_getElem? hx)
          obtain ⟨y, rfl⟩ := Int.eq_ofNat_of_zero_le x0
          have d0 := (hb.cell (p := ⟨br, offr + j, none⟩) hBr).trans (hccr j _ hx)
          have hyn : y < n := by omega
          obtain ⟨y0, yf⟩ := cel_cell hg hyn
          have hl4 := hle.out j y
          have h1 : Hid ((ctX ls k (j + 1) y).length = (ctX ls k j y).length + 1) := Lib.hid (by rw [hit.out j y hx, List.length_append]; rfl)
          have hg2 : (wr.setCell ⟨gb, y, none⟩ (.int .i64 (((ctX ls k j y).length : Int) + 1))).heap[gb]? = some (celO 3 n fun y => .int .i64 ((ctX ls k (j + 1) y).length : Nat)) := by
            refine (cel_set hg _).trans (congrArg some (celO_ext fun z hz => ?_))
            by_cases e : z = y
            · subst e; rw [if_pos rfl, h1.out]; rfl
            · rw [if_neg e, hmi.out j y z hx e]
          have hb2 := hb.setCell (p := ⟨gb, y, none⟩) (Nat.le_refl gb) (.int .i64 (((ctX ls k j y).length : Int) + 1))
          have j0 : (0 : Int) ≤ (j : Int) := by omega
          have j1 : (j : Int) < (r.length : Int) := by omega
          have w0 : (0 : Int) ≤ (y : Int) := by omega
          have w1 : (y : Int) < (n : Int) := by omega
          generalize (ctX ls k j y).length = q1 at *
          clear hle hmi hit hlow hen hx hccr hcr hg hb h1
          go_wp2
          go_roundw
          case rel => exact ⟨j + 1, by omega, by go_num, hg2, hb2⟩
          case measure => simp [intOf]; omega
        · have e : j = r.length := by omega
          have hjd : ¬ (j : Int) < (r.length : Int) := by omega
          have hg2 : wr.heap[gb]? = some (celO 3 n fun y => .int .i64 ((whK ls (y : Int) (k + 1)).length : Nat)) := by
            rw [hg, e]
            exact congrArg some (celO_ext fun y _ => by rw [hen.out])
          clear e hle hmi hit hlow hen hcr hg
          go_wp2
          go_roundw
          case rel => exact ⟨k + 1, by omega, by go_num, by rw [hts.out]; go_num, hg2, hb⟩
          case measure => simp [intOf]; omega
    · have e : k = ls.length := by omega
      subst e
      have hkd : ¬ (ls.length : Int) < (ls.length : Int) := by omega
      have hg2 : wr.heap[gb]? = some (celO 3 n fun y => .int .i64 (nS ls y : Nat)) := hg
      have hwb : wr.heap.size > gb := size_of_block hg2
      generalize hT : totK ls ls.length = tot at *
      have hTH := Lib.hid hT
      clear hT hg
      go_wp2
      go_cut [11, 12] from 45 (fun s11 s12 wc => ∃ hb mb : Nat, s11 = .slice (some ⟨hb, 0, none⟩) n n ∧ s12 = .slice (some ⟨mb, 0, none⟩) tot tot ∧ gb < hb ∧ gb < mb ∧ hb ≠ mb ∧
        wc.heap[gb]? = some (celO 3 n fun y => .int .i64 (nS ls y : Nat)) ∧ wc.heap[hb]? = some (celO 30 n fun _ => .slice none 0 0) ∧ wc.heap[mb]? = some (celO 3 tot fun _ => .int .i64 0) ∧ Below gb w wc)
      case first =>
        clear hcH hrH hlenH hpre htot
        have hd : wr.drew.heap[gb]? = some (celO 3 n fun y => .int .i64 (nS ls y : Nat)) := hg2
        have hbd : ∀ o1 o2, Below gb w ((wr.drew.alloc o1).alloc o2) := fun o1 o2 => ((hb.drew).alloc (by show gb ≤ wr.heap.size; omega) o1).alloc (by rw [World.size_alloc]; show gb ≤ wr.heap.size + 1; omega) o2
        go_region
        all_goals
          go_wp2_with fail
          go_meet
          first
            | exact ⟨wr.heap.size, wr.heap.size + 1, rfl, rfl, hwb, by omega, by omega, two_keep14 hd, (two_made14 wr.drew _ _).1, (two_made14 wr.drew _ _).2, hbd _ _⟩
            | exact ⟨wr.heap.size + 1, wr.heap.size, rfl, rfl, by omega, hwb, by omega, two_keep14 hd, (two_made14 wr.drew _ _).2, (two_made14 wr.drew _ _).1, hbd _ _⟩
      case rest =>
        clear hb
        obtain ⟨hb, mb, rfl, rfl, g1, g2, g3, hg3, hh, hm, hbw⟩ := hcut
        clear hg2 hwb hmk1 hmk2 hmk3
        have hpm : Hid (∀ x, x < n → preS ls (x + 1) = preS ls x + nS ls x ∧ preS ls (x + 1) ≤ tot) := Lib.hid (fun x hx => ⟨rfl, by rw [← hpre.out]; exact pre_mono ls hx⟩)
        go_wp2
        go_loopw [12, 13, 14, 51] (fun M _ _ t wr => ∃ (x ox m : Nat) (o : Nat → Nat), x ≤ n ∧ t = .int .i64 x ∧ M = .slice (some ⟨mb, ox, none⟩) m m ∧ Hid (m + preS ls x = tot) ∧ m ≤ 16000000 ∧ Hid (0 < m → ox = preS ls x) ∧
          wr.heap[hb]? = some (celO 30 n fun y => if y < x then rowV mb o (fun _ => 0) (nS ls) y else .slice none 0 0) ∧ Hid (∀ y, y < x → 0 < nS ls y → o y = preS ls y) ∧
          wr.heap[gb]? = some (celO 3 n fun y => .int .i64 (nS ls y : Nat)) ∧ wr.heap[mb]? = some (celO 3 tot fun _ => .int .i64 0) ∧ Below gb w wr) (fun _ _ _ t _ => n - (intOf t).toNat)
        case atStart => exact ⟨0, 0, tot, fun _ => 0, by omega, rfl, rfl, Lib.hid rfl, by have := htot.out; omega, Lib.hid (fun _ => rfl), by simpa using hh, Lib.hid (fun y h => absurd h (Nat.not_lt_zero _)), hg3, hm, hbw⟩
        case round =>
          clear hg3 hh hm hbw
          obtain ⟨x, ox, m, o, hx, rfl, rfl, hmH, hm16, hox, hh, ho, hg, hm, hbw⟩ := hrel
          by_cases hlt : x < n
          · obtain ⟨y0, -⟩ := cel_cell hg hlt
            obtain ⟨q0, qf⟩ := cel_cell hh hlt
            have hp := Lib.hid (hpm.out x hlt)
            have hqm : nS ls x ≤ m := by have := hp.out; have := hmH.out; omega
            have x0 : (0 : Int) ≤ (x : Int) := by omega
            have x1 : (x : Int) < (n : Int) := by omega
            generalize hQ : nS ls x = q at *
            have hQH := Lib.hid hQ
            clear hQ
            have r0 := fun X : After wr => After.cell X y0
            go_upto_region 17 with (fail)
            go_region
            have e : (if m = q then some (⟨mb, ox, none⟩ : Addr) else some ⟨mb, ox + q, none⟩) = some ⟨mb, if m = q then ox else ox + q, none⟩ := by split <;> rfl
            rw [e]
            clear e
            have hm2 : Hid (m - q + preS ls (x + 1) = tot) := Lib.hid (by have := hp.out; have := hmH.out; have := hQH.out; omega)
            have hox2 : Hid (0 < m - q → (if m = q then ox else ox + q) = preS ls (x + 1)) := Lib.hid (fun h => by
              have := hp.out
              have := hox.out (by omega)
              have := hQH.out
              rw [if_neg (by omega)]
              omega)
            have hh2 : ((wr.setCell ⟨hb, x, none⟩ (.slice (some ⟨mb, ox, none⟩) 0 q)).drew).heap[hb]? = some (celO 30 n fun y => if y < x + 1 then rowV mb (fun y => if y = x then ox else o y) (fun _ => 0) (nS ls) y else .slice none 0 0) := by
              refine (cel_set hh _).trans (congrArg some (celO_ext fun y hy => ?_))
              by_cases e : y = x
              · subst e
                rw [if_pos rfl, if_pos (Nat.lt_succ_self _)]
                unfold rowV
                dsimp only
                rw [if_pos rfl, hQH.out]
              · by_cases e2 : y < x
                · rw [if_neg e, if_pos e2, if_pos (by omega)]
                  unfold rowV
                  dsimp only
                  rw [if_neg e]
                · rw [if_neg e, if_neg e2, if_neg (by omega)]
            have ho2 : Hid (∀ y, y < x + 1 → 0 < nS ls y → (if y = x then ox else o y) = preS ls y) := Lib.hid (fun y hy h => by
              by_cases e : y = x
              · subst e
                rw [if_pos rfl]
                exact hox.out (by rw [hQH.out] at h; omega)
              · rw [if_neg e]
                exact ho.out y (by omega) h)
            have hg2 : ((wr.setCell ⟨hb, x, none⟩ (.slice (some ⟨mb, ox, none⟩) 0 q)).drew).heap[gb]? = some (celO 3 n fun y => .int .i64 (nS ls y : Nat)) := cel_other hg (by omega)
            have hmm2 : ((wr.setCell ⟨hb, x, none⟩ (.slice (some ⟨mb, ox, none⟩) 0 q)).drew).heap[mb]? = some (celO 3 tot fun _ => .int .i64 0) := cel_other hm (by omega)
            have hb2 : Below gb w ((wr.setCell ⟨hb, x, none⟩ (.slice (some ⟨mb, ox, none⟩) 0 q)).drew) := (hbw.setCell (p := ⟨hb, x, none⟩) (by show gb ≤ hb; omega) _).drew
            generalize (wr.setCell ⟨hb, x, none⟩ (.slice (some ⟨mb, ox, none⟩) 0 q)).drew = wz at *
            generalize (if m = q then ox else ox + q) = ox2 at *
            clear hg hh hm hbw hox ho hp hQH y0 q0 qf r0 hcH hrH hlenH hpre htot hpm
            go_wp2
            go_roundw
            case rel => exact ⟨x + 1, ox2, m - q, _, by omega, by go_num, rfl, hm2, by omega, hox2, hh2, ho2, hg2, hmm2, hb2⟩
            case measure => simp [intOf]; omega
          · have e : x = n := by omega
            have hxd : ¬ (x : Int) < (n : Int) := by omega
            have hh2 : wr.heap[hb]? = some (celO 30 n (rowV mb o (fun y => (whK ls (y : Int) 0).length) (nS ls))) := by
              rw [hh, e]
              exact congrArg some (celO_ext fun y hy => by rw [if_pos hy]; rfl)
            have ho2 : Hid (∀ y, y < n → 0 < nS ls y → o y = preS ls y) := Lib.hid (by rw [← e]; exact ho.out)
            have hM : Hid (∀ (y i : Nat) (z : Int), y < n → (whK ls (y : Int) 0)[i]? = some z → (fun _ : Nat => Value.int .i64 0) (preS ls y + i) = .int .i64 z) := Lib.hid (fun y i z _ h => by
              have e0 : whK ls (y : Int) 0 = [] := rfl
              rw [e0] at h
              cases h)
            clear e hh ho hg hox hmH hpre htot
            go_wp2
            go_loopw [15, 16, 18, 68] (fun _ _ _ t wr => ∃ (k : Nat) (M : Nat → Value), k ≤ ls.length ∧ t = .int .i64 k ∧ wr.heap[hb]? = some (celO 30 n (rowV mb o (fun y => (whK ls (y : Int) k).length) (nS ls))) ∧ wr.heap[mb]? = some (celO 3 tot M) ∧
              Hid (∀ (y i : Nat) (z : Int), y < n → (whK ls (y : Int) k)[i]? = some z → M (preS ls y + i) = .int .i64 z) ∧ Below gb w wr) (fun _ _ _ t _ => ls.length - (intOf t).toNat)
            case atStart => exact ⟨0, _, by omega, rfl, hh2, hm, hM, hbw⟩
            case round =>
              clear hh2 hm hM hbw
              obtain ⟨k, M, hk, rfl, hh, hm, hM, hbw⟩ := hrel
              by_cases hlt : k < ls.length
              · obtain ⟨b, off, rfl, hB, hcc⟩ := hcH.out (by omega)
                obtain ⟨r, hrk⟩ : ∃ r, ls[k]? = some r := ⟨_, List.getElem?_eq_getElem hlt⟩
                obtain ⟨ov, z0, hov⟩ := hcc k r hrk
                have z1 := (hbw.cell (p := ⟨b, off + k, none⟩) hB).trans z0
                obtain ⟨Ar, cr, rfl, hlr, hcr⟩ := hov
                have hrm := List.mem_of_getElem? hrk
                have k0 : (0 : Int) ≤ (k : Int) := by omega
                have k1 : (k : Int) < (ls.length : Int) := by omega
                have hrr := (hrH.out r hrm).2
                have hlow := Lib.hid ((hrH.out r hrm).1)
                have hen : Hid (∀ y : Nat, ctX ls k r.length y = whK ls (y : Int) (k + 1)) := Lib.hid (fun y => ct_row hrk y)
                have hit : Hid (∀ (j y : Nat), r[j]? = some (y : Int) → ctX ls k (j + 1) y = ctX ls k j y ++ [(k : Int)]) := Lib.hid (fun j y => ct_hit hrk hrr)
                have hmi : Hid (∀ (j y z : Nat), r[j]? = some (y : Int) → z ≠ y → ctX ls k (j + 1) z = ctX ls k j z) := Lib.hid (fun j y z => ct_miss hrk)
                have hlt4 : Hid (∀ (j y : Nat), r[j]? = some (y : Int) → (ctX ls k j y).length < nS ls y) := Lib.hid (fun j y => ct_lt hrk hrr)
                have hle4 : Hid (∀ (j y : Nat), (ctX ls k j y).length ≤ nS ls y) := Lib.hid (fun j y => ct_le hrk y)
                have hmono : Hid (∀ y y', y < y' → preS ls y + nS ls y ≤ preS ls y') := Lib.hid (fun y y' h => pre_mono ls (show y + 1 ≤ y' from h))
                have hn4 : Hid (∀ y, nS ls y ≤ 4000) := Lib.hid (fun y => by
                  have h2 : nS ls y ≤ ls.length := whK_len ls y ls.length
                  omega)
                have hh0 : wr.heap[hb]? = some (celO 30 n (rowV mb o (fun y => (ctX ls k 0 y).length) (nS ls))) := by
                  rw [hh]
                  exact congrArg some (celO_ext fun y _ => by unfold rowV; dsimp only; rw [ct_start])
                have hM0 : Hid (∀ (y i : Nat) (z : Int), y < n → (ctX ls k 0 y)[i]? = some z → M (preS ls y + i) = .int .i64 z) := Lib.hid (fun y i z hy h => hM.out y i z hy (by rw [ct_start] at h; exact h))
                clear hcH hcc hrk z0 hrm hh hM hrr hrH hlenH
                go_wp2
                go_loopw [18, 75] (fun _ t wi => ∃ (j : Nat) (M : Nat → Value), j ≤ r.length ∧ t = .int .i64 j ∧ wi.heap[hb]? = some (celO 30 n (rowV mb o (fun y => (ctX ls k j y).length) (nS ls))) ∧ wi.heap[mb]? = some (celO 3 tot M) ∧
                  Hid (∀ (y i : Nat) (z : Int), y < n → (ctX ls k j y)[i]? = some z → M (preS ls y + i) = .int .i64 z) ∧ Below gb w wi) (fun _ t _ => r.length - (intOf t).toNat)
                case atStart => exact ⟨0, M, by omega, rfl, hh0, hm, hM0, hbw⟩
                case round =>
                  clear hh0 hm hM0 hbw M
                  obtain ⟨j, M, hj, rfl, hh, hm, hM, hbw⟩ := hrel
                  by_cases hlt2 : j < r.length
                  · obtain ⟨br, offr, rfl, hBr, hccr⟩ := hcr (by omega)
                    obtain ⟨x, hx⟩ : ∃ x, r[j]? = some x := ⟨_, List.getElem?_eq_getElem hlt2⟩
                    obtain ⟨x0, x1⟩ := hlow.out x (List.mem_of_getElem? hx)
                    obtain ⟨y, rfl⟩ := Int.eq_ofNat_of_zero_le x0
                    have d0 := (hbw.cell (p := ⟨br, offr + j, none⟩) hBr).trans (hccr j _ hx)
                    have hyn : y < n := by omega
                    have hcl := hlt4.out j y hx
                    have hoy := ho2.out y hyn (by omega)
                    have hpp := hpm.out y hyn
                    have hn40 := hn4.out y
                    have hbz : gb ≤ wr.heap.size := by have := size_of_block hm; omega
                    have hrun := append_in14 (w := wr.alloc (.cells #[.int .i64 k] 3 (0, 0))) (b := mb) (off := o y) (n := (ctX ls k j y).length) (c := nS ls y) (ty := 30) (M := M) (tot := tot) (k := k) (a := wr.heap.size) (keep_alloc hm) hcl (by omega) (by rw [cell_of_block (heap_alloc_new _ _)]; rfl) 1
                    have hm2 := cel_set (p := o y + (ctX ls k j y).length) (keep_alloc (x := .cells #[.int .i64 k] 3 (0, 0)) hm) (.int .i64 (k : Int))
                    have hh2 : ((wr.alloc (.cells #[.int .i64 k] 3 (0, 0))).setCell ⟨mb, o y + (ctX ls k j y).length, none⟩ (.int .i64 (k : Int))).heap[hb]? = _ := cel_other (keep_alloc (x := .cells #[.int .i64 k] 3 (0, 0)) hh) g3
                    have hb2 : Below gb w ((wr.alloc (.cells #[.int .i64 k] 3 (0, 0))).setCell ⟨mb, o y + (ctX ls k j y).length, none⟩ (.int .i64 (k : Int))) := (hbw.alloc hbz _).setCell (p := ⟨mb, o y + (ctX ls k j y).length, none⟩) (by show gb ≤ mb; omega) _
                    obtain ⟨q0, -⟩ := cel_cell hh hyn
                    generalize hW2 : ((wr.alloc (.cells #[.int .i64 k] 3 (0, 0))).setCell ⟨mb, o y + (ctX ls k j y).length, none⟩ (.int .i64 (k : Int))) = W2 at *
                    clear hW2
                    obtain ⟨q1, qf⟩ := cel_cell hh2 hyn
                    have hlen1 : Hid ((ctX ls k (j + 1) y).length = (ctX ls k j y).length + 1) := Lib.hid (by rw [hit.out j y hx, List.length_append]; rfl)
                    have hh3 : (W2.setCell ⟨hb, y, none⟩ (.slice (some ⟨mb, o y, none⟩) ((ctX ls k j y).length + 1) (nS ls y))).heap[hb]? = some (celO 30 n (rowV mb o (fun y => (ctX ls k (j + 1) y).length) (nS ls))) := by
                      refine (cel_set hh2 _).trans (congrArg some (celO_ext fun z hz => ?_))
                      unfold rowV
                      dsimp only
                      by_cases e : z = y
                      · subst e; rw [if_pos rfl, hlen1.out]
                      · rw [if_neg e, hmi.out j y z hx e]
                    have hm3 : (W2.setCell ⟨hb, y, none⟩ (.slice (some ⟨mb, o y, none⟩) ((ctX ls k j y).length + 1) (nS ls y))).heap[mb]? = _ := cel_other hm2 g3.symm
                    have hb3 : Below gb w (W2.setCell ⟨hb, y, none⟩ (.slice (some ⟨mb, o y, none⟩) ((ctX ls k j y).length + 1) (nS ls y))) := hb2.setCell (p := ⟨hb, y, none⟩) (by show gb ≤ hb; omega) _
                    have hM3 : Hid (∀ (z i : Nat) (u : Int), z < n → (ctX ls k (j + 1) z)[i]? = some u → (fun p => if p = o y + (ctX ls k j y).length then Value.int .i64 (k : Int) else M p) (preS ls z + i) = .int .i64 u) := Lib.hid (fun z i u hz hu => by
                      show (if preS ls z + i = o y + (ctX ls k j y).length then Value.int .i64 (k : Int) else M (preS ls z + i)) = _
                      by_cases e : z = y
                      · subst e
                        rw [hit.out j z hx, List.getElem?_append] at hu
                        split at hu
                        · rename_i hil
                          rw [if_neg (by omega)]
                          exact hM.out z i u hz hu
                        · rename_i hil
                          have ei : i = (ctX ls k j z).length := by
                            have := (List.getElem?_eq_some_iff.1 hu).1
                            simp at this
                            omega
                          rw [if_pos (by omega)]
                          rw [ei, Nat.sub_self] at hu
                          injection hu with hu
                          rw [hu]
                      · rw [hmi.out j y z hx e] at hu
                        have hil := (List.getElem?_eq_some_iff.1 hu).1
                        have h1 := hle4.out j z
                        rw [if_neg (by
                          intro he
                          rcases Nat.lt_or_gt_of_ne e with h | h
                          · have := hmono.out z y h
                            omega
                          · have := hmono.out y z h
                            omega)]
                        exact hM.out z i u hz hu)
                    unfold rowV at q0 q1
                    dsimp only at q0 q1
                    have j0 : (0 : Int) ≤ (j : Int) := by omega
                    have j1 : (j : Int) < (r.length : Int) := by omega
                    have w0 : (0 : Int) ≤ (y : Int) := by omega
                    have w1' : (y : Int) < (n : Int) := by omega
                    generalize (ctX ls k j y).length = c1 at *
                    clear hlt4 hle4 hmono hn4 hmi hit hlow hen hx hccr hcr hh hm hbw hM hh2 hm2 hb2 hlen1 hoy hpp ho2 hpm
                    generalize o y = oy at *
                    generalize nS ls y = q at *
                    go_wp2_with (at_builtin; refine wpList_appendR _ rfl _ _ 30 rfl _ _ _ W2 rfl rfl hrun ?_)
                    go_roundw
                    case rel => exact ⟨j + 1, _, by omega, by go_num, hh3, hm3, hM3, hb3⟩
                    case measure => simp [intOf]; omega
                  · have e : j = r.length := by omega
                    have hjd : ¬ (j : Int) < (r.length : Int) := by omega
                    have hh2 : wr.heap[hb]? = some (celO 30 n (rowV mb o (fun y => (whK ls (y : Int) (k + 1)).length) (nS ls))) := by
                      rw [hh, e]
                      exact congrArg some (celO_ext fun y _ => by unfold rowV; dsimp only; rw [hen.out])
                    have hM2 : Hid (∀ (y i : Nat) (z : Int), y < n → (whK ls (y : Int) (k + 1))[i]? = some z → M (preS ls y + i) = .int .i64 z) := Lib.hid (fun y i z hy h => hM.out y i z hy (by rw [e, hen.out]; exact h))
                    clear e hlt4 hle4 hmono hn4 hmi hit hlow hen hcr hh hM ho2 hpm
                    go_wp2
                    go_roundw
                    case rel => exact ⟨k + 1, M, by omega, by go_num, hh2, hm, hM2, hbw⟩
                    case measure => simp [intOf]; omega
              · have e : k = ls.length := by omega
                have hkd : ¬ (k : Int) < (ls.length : Int) := by omega
                have hR : Hid (MatAt wr wr.heap.size (.slice (some ⟨hb, 0, none⟩) n n) ((List.range n).map fun y : Nat => whr ls (y : Int))) := Lib.hid (by
                  refine ⟨some ⟨hb, 0, none⟩, n, by simp, by simp; omega, fun _ => ⟨hb, 0, rfl, size_of_block hh, fun y l hy => ?_⟩⟩
                  have hyn : y < n := by
                    have := (List.getElem?_eq_some_iff.1 hy).1
                    simpa using this
                  obtain ⟨q0, -⟩ := cel_cell hh hyn
                  rw [Nat.zero_add]
                  refine ⟨_, q0, ?_⟩
                  simp [hyn] at hy
                  subst hy
                  have el : whK ls (y : Int) k = whr ls (y : Int) := by rw [e]; rfl
                  unfold rowV
                  dsimp only
                  refine ⟨some ⟨mb, o y, none⟩, nS ls y, by rw [el], by
                    have h2 : (whr ls (y : Int)).length ≤ ls.length := whK_len ls y ls.length
                    omega, fun h0 => ⟨mb, o y, rfl, size_of_block hm, fun i z hi => ?_⟩⟩
                  have hpp := hpm.out y hyn
                  have hil := (List.getElem?_eq_some_iff.1 hi).1
                  have hoy := ho2.out y hyn h0
                  have hnl : nS ls y = (whr ls (y : Int)).length := rfl
                  obtain ⟨t0, -⟩ := cel_cell (p := o y + i) hm (by omega)
                  rw [t0, hoy]
                  exact congrArg some (hM.out y i z hyn (by rw [el]; exact hi)))
                have hbw2 : Below w.heap.size w wr := by rw [hgbH.out]; exact hbw
                clear e hcH hrH hlenH hh hm hM ho2 hpm
                go_wp2
                go_ret
                exact ⟨_, rfl, hR.out, hbw2⟩
end Go.Proofs.Ytcbhcclickjpnaa
