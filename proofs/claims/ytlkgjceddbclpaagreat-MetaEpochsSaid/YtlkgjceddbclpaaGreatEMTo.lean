/-
  MTo. By an AI agent.
-/
import Derived.Test.YtlkgjceddbclpaaGreatEZ
import Derived.Test.YtlkgjceddbclpaaGreatEMKnown
import Derived.Test.YtlkgjceddbclpaaGreatEMSpec
import Derived.Test.YtlkgjceddbclpaaGreatEMLawQ
import Derived.Test.YtlkgjceddbclpaaGreatED1
namespace Go.Proofs.YtlkgjceddbclpaaGreat.Mta
open Go.RowKit Wire Term Rig Draw

theorem few_MR {m : Mt} (h : MR m) (hv : m.ver < 18446744073709551616) : FewM m := by
  obtain ⟨v1, v2⟩ := vf_small h
  obtain ⟨b1, b2⟩ := bs_small h
  exact ⟨few_right h.1, by omega, by omega, fun t ht => by have := v2 t ht; omega, fun b hb => by have := b2 b hb; omega, by have := kd_len h.2.2.1 (by decide); omega, hv⟩
theorem few_mOf {r : Rt} (h : Ann r) {n ver : Nat} (hn : n < 18446744073709551616) (hv : ver < 18446744073709551616) : FewM (mOf r n ver) := few_MR (mOf_right h hn hv) hv
def Fit (k : List (Tm × Tm)) : Prop := k.length ≤ 40 ∧ ∀ b ∈ k, b.1.length ≤ 10000 ∧ b.2.length ≤ 10000
theorem fit_sizes {ks : List (ByteArray × ByteArray)} (h : Fit (pl ks)) : ks.length ≤ 40 ∧ ∀ k ∈ ks, k.1.size ≤ 10000 ∧ k.2.size ≤ 10000 := by
  refine ⟨by have := h.1; rw [pl_len] at this; exact this, fun k hk => ?_⟩
  have := h.2 (k.1.data.toList, k.2.data.toList) (List.mem_map.2 ⟨k, hk, rfl⟩)
  rw [Lib.size_eq, Lib.size_eq]
  exact this
theorem fit_kn {m : Nat} (hm : m < 8) : (kn m).1.length ≤ 10000 ∧ (kn m).2.length ≤ 10000 := by
  have h1 := wn_len (u := (whoN m).data.toList) ⟨m, hm, rfl⟩
  have h2 := (pubU_sz h1).2
  exact ⟨by show (whoN m).data.toList.length ≤ 10000; omega, by show (pubU (whoN m).data.toList).length ≤ 10000; omega⟩
theorem fit_known : Fit knownL := ⟨by decide, fun b hb => by
  obtain ⟨m, hm, rfl⟩ := List.mem_map.1 hb
  exact fit_kn (List.mem_range.1 hm)⟩
theorem sgs_sizes {ss : List ByteArray} {n : Nat} (h : bl ss = sgs n) (hn : n ≤ 40) : ss.length ≤ 40 ∧ ∀ s ∈ ss, s.size ≤ 10000 := by
  have hl := congrArg List.length h
  rw [bl_len, sgs_len] at hl
  refine ⟨by omega, fun s hs => ?_⟩
  have h1 : s.data.toList ∈ bl ss := List.mem_map.2 ⟨s, hs, rfl⟩
  rw [h] at h1
  obtain ⟨i, hi, he⟩ := List.mem_map.1 h1
  have := (sgn_sz (i := i) (by have := List.mem_range.1 hi; omega)).2
  rw [Lib.size_eq, ← he]
  omega
theorem root_size {n : Nat} (hn : n < 18446744073709551616) {R : ByteArray} (h : R.data.toList = Reg.rootS n) : R.size ≤ 10000 := by
  have := (Reg.root_sz hn).2
  rw [Lib.size_eq, h]; omega
theorem sec_size {s : Tm} (hs : s.length ≤ 12) {T : ByteArray} (h : T.data.toList = secU s) : T.size ≤ 10000 := by
  have := (secU_sz hs).2
  rw [Lib.size_eq, h]; omega
theorem pub_size {s : Tm} (hs : s.length ≤ 12) {T : ByteArray} (h : T.data.toList = pubU s) : T.size ≤ 10000 := by
  have := (pubU_sz hs).2
  rw [Lib.size_eq, h]; omega
theorem build_to (MB : MBuildOK) {r : Rt} (h : Ann r) {n ver : Nat} (hn : n < 18446744073709551616) (hv : ver < 18446744073709551616) {SEC ROOT : ByteArray} (h1 : SEC.data.toList = secU annaT) (h2 : ROOT.data.toList = Reg.rootS n)
    {S : Option Addr} {cs : Nat} {ss : List ByteArray} {K : Option Addr} {ck : Nat} {ks : List (ByteArray × ByteArray)} (hss : bl ss = sgs (r.ep.toNat + 1)) (hk : ∀ s ∈ oth r, pub (pl ks) s = (pubU s, 0)) (hf : Fit (pl ks))
    (gs : List Nat) (vr : Value) (w : World) (hg : ∀ g ∈ gs, g < w.heap.size) (hx : IsX (Off gs) w vr r) (hS : SReads w S ss) (hSc : ss.length ≤ cs ∧ (S = none → cs = 0)) (hK : PReads w K ks) (hKc : ks.length ≤ ck ∧ (K = none → ck = 0)) {vz : Int} (hvz : vz = (ver : Int)) {ns nk : Nat} (hns : ns = ss.length) (hnk : nk = ks.length) :
    Calls Tryz.prog 18 #[.string SEC, vr, .int .u64 vz, .string ROOT, .slice S ns cs, .slice K nk ck] w fun e w' => Mb gs (mOf r n ver, 0) e w' ∧ Below w.heap.size w w' := by
  subst hvz hns hnk
  have he := (ann_ep h).1
  obtain ⟨s1, s2⟩ := sgs_sizes hss (by omega)
  obtain ⟨k1, k2⟩ := fit_sizes hf
  have h3 := MB gs SEC vr r ver ROOT S cs ss K ck ks w hg hx (few_right h.1) hv (sec_size anna_len h1) (root_size hn h2) hS hSc s1 s2 hK hKc k1 k2
  rw [h1, h2, hss, build_with h hn hv hk] at h3
  exact h3
theorem check_to (MC : MCheckOK) {v : Value} {m : Mt} {P O F : ByteArray} {c : Int} (hc : checkM m P.data.toList O.data.toList F.data.toList = c) (hf : FewM m) (hp : P.size ≤ 10000) (ho : O.size ≤ 10000) (hfl : F.size ≤ 10000) (w : World) (hm : IsM AnyB w v m) :
    Calls Tryz.prog 34 #[v, .string P, .string O, .string F] w fun e w' => e = .returned (.int .i64 c) ∧ Below w.heap.size w w' := by
  have := MC v m P O F w hm hf hp ho hfl
  rw [hc] at this
  exact this
theorem takeM_nil : takeM [] = (mzero, 2) := by
  rcases takeM_cases [] with h | ⟨m, _, _, _, h⟩
  · exact h
  · have := congrArg List.length h
    unfold putAll at this
    have h2 := (put_le (n := [bodyB m, m.sig].length) (by simp)).1
    rw [List.length_append, List.length_nil] at this
    omega
end Go.Proofs.YtlkgjceddbclpaaGreat.Mta

