/- The statements of layer 12: the document's example, over what the package answers. -/
import Derived.Test.YtnddepijbbchiaaIsg12
namespace Go.Proofs.Ytnddepijbbchiaa
open Go.RowKit Go.Joins

theorem sv14_12 : sv 14#256 = .agg #[.int .u64 14, .int .u64 0, .int .u64 0, .int .u64 0] := by kernel_rfl
theorem sv2_12 : sv 2#256 = .agg #[.int .u64 2, .int .u64 0, .int .u64 0, .int .u64 0] := by kernel_rfl
theorem sv3_12 : sv 3#256 = .agg #[.int .u64 3, .int .u64 0, .int .u64 0, .int .u64 0] := by kernel_rfl
set_option maxHeartbeats 4000000 in
set_option maxRecDepth 100000 in
theorem knows12_any (HC : CoverI) (HG : GrownI) (HS : SideI) : Knows12 := by
  intro w
  have H1 := fun w => cover_yes HC ex12_may w
  have H2 := fun w => grown_yes HG ex12_may w
  have H3 := fun w => HS 2#256 0 true w
  rw [ex12_sid, sv2_12, sv3_12] at H3
  rw [show (2 : Int).toNat = 2 from rfl, sv14_12] at H1 H2
  have hl1 := Lib.hid ex12_len
  have hl2 := Lib.hid ex12_grw
  generalize grwL 14#256 2 (isoS 14#256 14#256 2) = G at *
  generalize isoS 14#256 14#256 2 = L at *
  have hE := fun w => eq4_refl 3 0 0 0 w
  clear HC HG HS
  go_enter Try.func9, Try.ntmps9
  go_wp2_with fail
  refine (H1 _).mono ?_
  rintro e w1 ⟨v, rfl, hv, hb1⟩
  obtain ⟨A, c, rfl, -, -⟩ := hv
  rw [hl1.out]
  clear H1
  go_wp2_with fail
  refine (H2 _).mono ?_
  rintro e w2 ⟨u, rfl, hu, hb2⟩
  obtain ⟨A2, c2, rfl, -, -⟩ := hu
  rw [hl2.out]
  have hB2 := hb1.trans (hb2.mono hb1.size)
  clear H2 hb1 hb2
  go_wp2_with fail
  refine (H3 _).mono ?_
  rintro e w3 ⟨rfl, hb3⟩
  have hB3 := hB2.trans (hb3.mono hB2.size)
  clear H3 hB2 hb3
  go_wp2
  go_ret
  exact ⟨rfl, hB3⟩
end Go.Proofs.Ytnddepijbbchiaa
