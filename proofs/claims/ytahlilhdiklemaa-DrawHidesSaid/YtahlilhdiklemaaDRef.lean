/-
  CONTRACTS of the document's Mix, Draw, Secret (letterlockref5) at this program. By an AI agent; no person has read it.
-/
import Derived.Test.YtahlilhdiklemaaDPure
import Derived.Laws.Bits64
namespace Go.Proofs.Ytahlilhdiklemaa.Draw
open Go.RowKit Wire Term Clo

theorem mixA_eq {n : Nat} : IntKind.u64.wrap ((n : Int) + 11400714819323198485) = ((mixA n : Nat) : Int) := by
  rw [IntKind.wrap_u64]; unfold mixA; omega
theorem mixB_eq {a : Nat} (ha : a < 18446744073709551616) : IntKind.u64.wrap (bits .xor .u64 (a : Int) ((a : Int) / 1073741824) * 13787848793156543929) = ((mixB a : Nat) : Int) := mixStep_u64 a 1073741824 13787848793156543929 ha
theorem mixC_eq {a : Nat} (ha : a < 18446744073709551616) : IntKind.u64.wrap (bits .xor .u64 (a : Int) ((a : Int) / 134217728) * 10723151780598845931) = ((mixC a : Nat) : Int) := mixStep_u64 a 134217728 10723151780598845931 ha
theorem mixD_eq {a : Nat} (ha : a < 18446744073709551616) : bits .xor .u64 (a : Int) ((a : Int) / 2147483648) = ((mixD a : Nat) : Int) := xorShift_u64 a 2147483648 ha
set_option maxHeartbeats 2000000 in
set_option maxRecDepth 1000000 in
theorem rmix_any (n : Nat) (w : World) : Calls Try.prog 17 #[.int .u64 (n : Int)] w fun e w' => e = .returned (.int .u64 ((mix n : Nat) : Int)) ∧ w' = w := by
  obtain ⟨a, ha⟩ : ∃ a, mixA n = a := ⟨_, rfl⟩
  obtain ⟨b, hb⟩ : ∃ b, mixB a = b := ⟨_, rfl⟩
  obtain ⟨c, hc⟩ : ∃ c, mixC b = c := ⟨_, rfl⟩
  obtain ⟨d, hd⟩ : ∃ d, mixD c = d := ⟨_, rfl⟩
  have h1 : IntKind.u64.wrap ((n : Int) + 11400714819323198485) = (a : Int) := by rw [← ha]; exact mixA_eq
  have h2 : IntKind.u64.wrap (bits .xor .u64 (a : Int) ((a : Int) / 1073741824) * 13787848793156543929) = (b : Int) := by rw [← hb]; exact mixB_eq (by rw [← ha]; exact mixA_lt n)
  have h3 : IntKind.u64.wrap (bits .xor .u64 (b : Int) ((b : Int) / 134217728) * 10723151780598845931) = (c : Int) := by rw [← hc]; exact mixC_eq (by rw [← hb]; exact mixB_lt a)
  have h4 : bits .xor .u64 (c : Int) ((c : Int) / 2147483648) = (d : Int) := by rw [← hd]; exact mixD_eq (by rw [← hc]; exact mixC_lt b)
  have HM : Hid (mix n = d) := by show mixD (mixC (mixB (mixA n))) = d; rw [ha, hb, hc, hd]
  clear ha hb hc hd
  go_enter Try.func17, Try.ntmps17
  go_wp2
  go_ret
  exact ⟨by rw [HM.out]; rfl, rfl⟩
theorem draw_eq {s i : Nat} : IntKind.u64.wrap ((s : Int) + IntKind.u64.wrap ((i : Int) * 11400714819323198485)) = (((s + i * 11400714819323198485) % 18446744073709551616 : Nat) : Int) := by
  rw [IntKind.wrap_u64, IntKind.wrap_u64]; omega
set_option maxHeartbeats 2000000 in
set_option maxRecDepth 1000000 in
theorem rdraw_any (s i : Nat) (hi : i ≤ 4611686018427387904) (w : World) : Calls Try.prog 13 #[.int .u64 (s : Int), .int .i64 (i : Int)] w fun e w' => e = .returned (.int .u64 ((draw s i : Nat) : Int)) ∧ w' = w := by
  have h0 : IntKind.u64.wrap (i : Int) = (i : Int) := by rw [IntKind.wrap_u64]; omega
  obtain ⟨m, hm⟩ : ∃ m, IntKind.u64.wrap ((i : Int) * 11400714819323198485) = m := ⟨_, rfl⟩
  obtain ⟨x, hx⟩ : ∃ x, (s + i * 11400714819323198485) % 18446744073709551616 = x := ⟨_, rfl⟩
  have h1 : IntKind.u64.wrap ((s : Int) + m) = (x : Int) := by rw [← hm, ← hx]; exact draw_eq
  have HX : Hid (draw s i = mix x) := by show mix _ = _; rw [hx]
  clear hx
  go_enter Try.func13, Try.ntmps13
  go_wp2_with (go_at_call 17; refine (rmix_any x _).mono ?_; rintro e w1 ⟨rfl, rfl⟩)
  go_ret
  exact ⟨by rw [HX.out]; rfl, rfl⟩
end Go.Proofs.Ytahlilhdiklemaa.Draw
