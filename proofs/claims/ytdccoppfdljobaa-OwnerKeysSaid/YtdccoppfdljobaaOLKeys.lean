/-
  THE LAW OwnerKeys, and the laws' example (shown). By an AI agent; no person has read it.
-/
import Derived.Test.YtdccoppfdljobaaOKeys
namespace Go.Proofs.Ytdccoppfdljobaa.Own
open Go Go.RowKit Wire Frm

set_option linter.unusedVariables false
set_option linter.unusedSimpArgs false
theorem names_at {w : World} {g : Nat} {t : TypeId} (h : (box g #[.string ⟨#[97, 110, 110, 97]⟩, .string ⟨#[98, 101, 110]⟩, .string ⟨#[97]⟩, .string ⟨#[98]⟩, .string ⟨#[110, 111, 116, 101, 115]⟩, .string ⟨#[97, 110]⟩, .string ⟨#[110, 97]⟩, .string ⟨#[110]⟩] t).P w) {m : Nat} (hm : m < 8) : w.cell? ⟨g, m, none⟩ = some (.string (nmK.getD m ByteArray.empty)) := by
  rw [box_at h m]
  have h5 : m = 0 ∨ m = 1 ∨ m = 2 ∨ m = 3 ∨ m = 4 ∨ m = 5 ∨ m = 6 ∨ m = 7 := by omega
  rcases h5 with rfl | rfl | rfl | rfl | rfl | rfl | rfl | rfl <;> rfl
set_option maxHeartbeats 4000000 in
set_option maxRecDepth 1000000 in
theorem shown_any (w : World) : Calls Try.prog 4 #[] w fun e w' => e = .returned (.bool true) ∧ Below w.heap.size w w' := by
  have HK : Hid (key 102 ⟨#[97, 110, 110, 97]⟩ ⟨#[110, 111, 116, 101, 115]⟩ = ⟨#[102, 47, 97, 110, 110, 97, 47, 110, 111, 116, 101, 115]⟩) := Lib.hid (by decide +kernel)
  have HF := Lib.hid (fm_refl w)
  go_enter Try.func4, Try.ntmps4
  go_wp2_with fail
  with_reducible refine (takenil_any _).mono ?_
  rintro e w1 ⟨rfl, hb⟩
  replace HF := Lib.hid (HF.out.go hb)
  clear hb
  try dsimp only
  unfold ZE
  try dsimp only
  go_wp2_with fail
  have hF := HF.out.box #[.string ⟨#[]⟩, .string ⟨#[]⟩, .int .i64 0, .slice none 0 0, .slice none 0 0, .int .u64 0, .slice none 0 0, .slice none 0 0, .string ⟨#[]⟩, .string ⟨#[]⟩, .int .u64 0, .int .i64 0, .string ⟨#[]⟩, .string ⟨#[]⟩, .int .i64 0, .slice none 0 0] 36
  obtain ⟨gx, hg⟩ : ∃ g, w1.heap.size = g := ⟨_, rfl⟩
  rw [hg] at hF ⊢
  clear hg
  generalize w1.alloc (.cells #[.string ⟨#[]⟩, .string ⟨#[]⟩, .int .i64 0, .slice none 0 0, .slice none 0 0, .int .u64 0, .slice none 0 0, .slice none 0 0, .string ⟨#[]⟩, .string ⟨#[]⟩, .int .u64 0, .int .i64 0, .string ⟨#[]⟩, .string ⟨#[]⟩, .int .i64 0, .slice none 0 0] 36) = w1 at hF ⊢
  replace HF := Lib.hid hF
  clear hF
  with_reducible refine (metakey_any _ _ _ (by decide)).mono ?_
  rintro e w1 ⟨rfl, hb⟩
  replace HF := Lib.hid (HF.out.go hb)
  clear hb
  try dsimp only
  rw [HK.out]
  go_wp2_with fail
  go_ret
  exact ⟨rfl, HF.out.bel⟩
set_option maxHeartbeats 4000000 in
set_option maxRecDepth 1000000 in
theorem keys_walk (a b c d : Int) (w : World) (ha : -9223372036854775808 ≤ a ∧ a ≤ 9223372036854775807) (hb : -9223372036854775808 ≤ b ∧ b ≤ 9223372036854775807) (hc : -9223372036854775808 ≤ c ∧ c ≤ 9223372036854775807) (hd : -9223372036854775808 ≤ d ∧ d ≤ 9223372036854775807) : Calls Try.prog 3 #[.int .i64 a, .int .i64 b, .int .i64 c, .int .i64 d] w fun e w' => e = .returned (.bool true) ∧ Below w.heap.size w w' := by
  have HS := Lib.hid fun w => shown_any w
  have HPa : Hid (∀ w, Calls Try.prog 5 #[.int .i64 a, .int .i64 8] w fun e w' => e = .returned (.int .i64 ((pk a 8 : Nat) : Int)) ∧ w' = w) := Lib.hid fun w => pick7_any a 8 w ha (by decide) (by decide)
  have hla := pk_lt a (n := 8) (by decide)
  generalize pk a 8 = ma at HPa hla
  obtain ⟨Xa, hXa⟩ : ∃ X, nmK.getD ma ByteArray.empty = X := ⟨_, rfl⟩
  have hna := nm_ok hla
  rw [hXa] at hna
  have HNa := Lib.hid hXa
  have hza : (0 : Int) ≤ (ma : Int) := Int.natCast_nonneg _
  have hya : (ma : Int) < 8 := by omega
  have hsza := hna.2
  clear hXa ha
  have HPb : Hid (∀ w, Calls Try.prog 5 #[.int .i64 b, .int .i64 8] w fun e w' => e = .returned (.int .i64 ((pk b 8 : Nat) : Int)) ∧ w' = w) := Lib.hid fun w => pick7_any b 8 w hb (by decide) (by decide)
  have hlb := pk_lt b (n := 8) (by decide)
  generalize pk b 8 = mb at HPb hlb
  obtain ⟨Xb, hXb⟩ : ∃ X, nmK.getD mb ByteArray.empty = X := ⟨_, rfl⟩
  have hnb := nm_ok hlb
  rw [hXb] at hnb
  have HNb := Lib.hid hXb
  have hzb : (0 : Int) ≤ (mb : Int) := Int.natCast_nonneg _
  have hyb : (mb : Int) < 8 := by omega
  have hszb := hnb.2
  clear hXb hb
  have HPc : Hid (∀ w, Calls Try.prog 5 #[.int .i64 c, .int .i64 8] w fun e w' => e = .returned (.int .i64 ((pk c 8 : Nat) : Int)) ∧ w' = w) := Lib.hid fun w => pick7_any c 8 w hc (by decide) (by decide)
  have hlc := pk_lt c (n := 8) (by decide)
  generalize pk c 8 = mc at HPc hlc
  obtain ⟨Xc, hXc⟩ : ∃ X, nmK.getD mc ByteArray.empty = X := ⟨_, rfl⟩
  have hnc := nm_ok hlc
  rw [hXc] at hnc
  have HNc := Lib.hid hXc
  have hzc : (0 : Int) ≤ (mc : Int) := Int.natCast_nonneg _
  have hyc : (mc : Int) < 8 := by omega
  have hszc := hnc.2
  clear hXc hc
  have HPd : Hid (∀ w, Calls Try.prog 5 #[.int .i64 d, .int .i64 8] w fun e w' => e = .returned (.int .i64 ((pk d 8 : Nat) : Int)) ∧ w' = w) := Lib.hid fun w => pick7_any d 8 w hd (by decide) (by decide)
  have hld := pk_lt d (n := 8) (by decide)
  generalize pk d 8 = md at HPd hld
  obtain ⟨Xd, hXd⟩ : ∃ X, nmK.getD md ByteArray.empty = X := ⟨_, rfl⟩
  have hnd := nm_ok hld
  rw [hXd] at hnd
  have HNd := Lib.hid hXd
  have hzd : (0 : Int) ≤ (md : Int) := Int.natCast_nonneg _
  have hyd : (md : Int) < 8 := by omega
  have hszd := hnd.2
  clear hXd hd
  have eK := beq_key (key_same (k := 102) (f := Xb) (g := Xd) hna.1 hnc.1)
  have HK1 := Lib.hid fun w => metakey_any Xa Xb w (by omega)
  have sK1 := key_size 102 Xa Xb
  have HK2 := Lib.hid fun w => metakey_any Xc Xd w (by omega)
  have sK2 := key_size 102 Xc Xd
  have eD := beq_key (key_same (k := 100) (f := Xb) (g := Xd) hna.1 hnc.1)
  have HD1 := Lib.hid fun w => datakey_any Xa Xb w (by omega)
  have sD1 := key_size 100 Xa Xb
  have HD2 := Lib.hid fun w => datakey_any Xc Xd w (by omega)
  have sD2 := key_size 100 Xc Xd
  have eO := beq_key (key_other (f := Xb) (g := Xd) hna.1 hnc.1)
  generalize key 102 Xa Xb = K1 at *
  generalize key 102 Xc Xd = K2 at *
  generalize key 100 Xa Xb = D1 at *
  generalize key 100 Xc Xd = D2 at *
  clear sK2 sD2 hna hnb hnc hnd
  have q1 : ((K1.size : Nat) : Int) = (Xa.size : Int) + (Xb.size : Int) + 3 := by omega
  have q2 : ((D1.size : Nat) : Int) = (Xa.size : Int) + (Xb.size : Int) + 3 := by omega
  clear sK1 sD1
  have w1x : IntKind.i64.wrap ((Xa.size : Int) + (Xb.size : Int)) = (Xa.size : Int) + (Xb.size : Int) := by rw [IntKind.wrap_i64]; omega
  have w2x : IntKind.i64.wrap ((Xa.size : Int) + (Xb.size : Int) + 3) = (Xa.size : Int) + (Xb.size : Int) + 3 := by rw [IntKind.wrap_i64]; omega
  have x1 : (Xa.toList == Xc.toList) = decide (Xa = Xc) := beq_key (by rw [decide_eq_true_eq])
  have x2 : (Xb.toList == Xd.toList) = decide (Xb = Xd) := beq_key (by rw [decide_eq_true_eq])
  generalize decide (Xa = Xc) = ba at *
  generalize decide (Xb = Xd) = bb at *
  have HF := Lib.hid (fm_refl w)
  go_enter Try.func3, Try.ntmps3
  go_wp2_with fail
  with_reducible refine (HS.out _).mono ?_
  rintro e w1 ⟨rfl, hb⟩
  replace HF := Lib.hid (HF.out.go hb)
  clear hb
  try dsimp only
  go_wp2_with fail
  have hF := HF.out.box #[.string ⟨#[97, 110, 110, 97]⟩, .string ⟨#[98, 101, 110]⟩, .string ⟨#[97]⟩, .string ⟨#[98]⟩, .string ⟨#[110, 111, 116, 101, 115]⟩, .string ⟨#[97, 110]⟩, .string ⟨#[110, 97]⟩, .string ⟨#[110]⟩] 9
  obtain ⟨gn, hg⟩ : ∃ g, w1.heap.size = g := ⟨_, rfl⟩
  rw [hg] at hF ⊢
  clear hg
  generalize w1.alloc (.cells #[.string ⟨#[97, 110, 110, 97]⟩, .string ⟨#[98, 101, 110]⟩, .string ⟨#[97]⟩, .string ⟨#[98]⟩, .string ⟨#[110, 111, 116, 101, 115]⟩, .string ⟨#[97, 110]⟩, .string ⟨#[110, 97]⟩, .string ⟨#[110]⟩] 9) = w1 at hF ⊢
  replace HF := Lib.hid hF
  clear hF
  have ka := names_at (HF.out.at 0 rfl) hla
  rw [HNa.out] at ka
  have kb := names_at (HF.out.at 0 rfl) hlb
  rw [HNb.out] at kb
  have kc := names_at (HF.out.at 0 rfl) hlc
  rw [HNc.out] at kc
  have kd := names_at (HF.out.at 0 rfl) hld
  rw [HNd.out] at kd
  with_reducible refine (HPa.out _).mono ?_
  rintro e w2 ⟨rfl, hw⟩
  obtain rfl : w1 = w2 := hw.symm
  try dsimp only
  go_wp2_with fail
  with_reducible refine (HPb.out _).mono ?_
  rintro e w2 ⟨rfl, hw⟩
  obtain rfl : w1 = w2 := hw.symm
  try dsimp only
  go_wp2_with fail
  with_reducible refine (HPc.out _).mono ?_
  rintro e w2 ⟨rfl, hw⟩
  obtain rfl : w1 = w2 := hw.symm
  try dsimp only
  go_wp2_with fail
  with_reducible refine (HPd.out _).mono ?_
  rintro e w2 ⟨rfl, hw⟩
  obtain rfl : w1 = w2 := hw.symm
  try dsimp only
  clear hsza hszb hszc hszd hla hlb hlc hld
  cases ba <;> cases bb
  all_goals simp only [Bool.and_true, Bool.and_false, Bool.false_and] at eK eD
  all_goals
    go_wp2_with fail
    with_reducible refine (HK1.out _).mono ?_
    rintro e w1 ⟨rfl, hb⟩
    replace HF := Lib.hid (HF.out.go hb)
    clear hb
    try dsimp only
    go_wp2_with fail
    with_reducible refine (HK2.out _).mono ?_
    rintro e w1 ⟨rfl, hb⟩
    replace HF := Lib.hid (HF.out.go hb)
    clear hb
    try dsimp only
    go_wp2_with fail
    with_reducible refine (HD1.out _).mono ?_
    rintro e w1 ⟨rfl, hb⟩
    replace HF := Lib.hid (HF.out.go hb)
    clear hb
    try dsimp only
    go_wp2_with fail
    with_reducible refine (HD2.out _).mono ?_
    rintro e w1 ⟨rfl, hb⟩
    replace HF := Lib.hid (HF.out.go hb)
    clear hb
    try dsimp only
    go_wp2_with fail
    with_reducible refine (HK1.out _).mono ?_
    rintro e w1 ⟨rfl, hb⟩
    replace HF := Lib.hid (HF.out.go hb)
    clear hb
    try dsimp only
    go_wp2_with fail
    with_reducible refine (HD2.out _).mono ?_
    rintro e w1 ⟨rfl, hb⟩
    replace HF := Lib.hid (HF.out.go hb)
    clear hb
    try dsimp only
    go_wp2_with fail
    with_reducible refine (HK1.out _).mono ?_
    rintro e w1 ⟨rfl, hb⟩
    replace HF := Lib.hid (HF.out.go hb)
    clear hb
    try dsimp only
    go_wp2_with fail
    with_reducible refine (HD1.out _).mono ?_
    rintro e w1 ⟨rfl, hb⟩
    replace HF := Lib.hid (HF.out.go hb)
    clear hb
    try dsimp only
    go_wp2_with fail
    go_ret
    exact ⟨rfl, HF.out.bel⟩
end Go.Proofs.Ytdccoppfdljobaa.Own
