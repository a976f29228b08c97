/-
  MCSign. By an AI agent.
-/
import Derived.Test.YtlkgjceddbclpaaGreatEZ
import Derived.Test.YtlkgjceddbclpaaGreatEMCBody
import Derived.Test.YtlkgjceddbclpaaGreatEMCBlocks
namespace Go.Proofs.YtlkgjceddbclpaaGreat.Mta
open Go.RowKit Wire Term Rig

set_option linter.unusedSimpArgs false
set_option linter.unusedVariables false
def LstU (B : Nat) (ys : List ByteArray) (e : Ending) (w' : World) : Prop := ∃ (A : Option Addr) (c : Nat), (ys.length ≤ c ∧ (A = none → c = 0)) ∧ SReads w' A ys ∧ (∀ b off, A = some ⟨b, off, none⟩ → B ≤ b ∧ b < w'.heap.size) ∧ e = .returned (.slice A ys.length c)
theorem copy_at8 {a : Option Addr} {c : Nat} (g : Nat) (ys : List ByteArray) (w : World) (hp : Pieces w g [(a, c, ys)]) (hl : ys.length ≤ 40) :
  Calls Tryz.prog 109 #[.slice (some ⟨g, 0, none⟩) 1 1] w fun e w' => LstU w.heap.size ys e w' ∧ Below w.heap.size w w' := by
 have he : whole [(a, c, ys)] = ys := by simp [whole]
 have h := concat_own g _ _ hp (by simp) (by rw [he]; omega)
 rw [he] at h
 refine h.mono ?_
 rintro e w' ⟨⟨v, rfl, zs, h1, h2, h3⟩, h4⟩
 obtain rfl := bl_inj h1
 obtain ⟨A, c, rfl⟩ := own_value h2; obtain ⟨A2, c2, ys2, q1, q2, q3, q4, q5⟩ := owns_lst (w0 := w) ⟨zs, rfl, h2, h3⟩
 obtain rfl := bl_inj q1
 injection q5 with q5
 injection q5 with e1 e2 e3
 subst e1; subst e3
 exact ⟨⟨A, c, q2, q3, fun b off e => by have := own1_of h2 b off e; exact ⟨this.1, this.2.1⟩, rfl⟩, h4⟩
def signC (secret : Tm) (m : Mt) : Tm × Int := if (ofText (bodyB m)).2 ≠ 0 then ([], (ofText (bodyB m)).2) else two 103 secret (ofText (bodyB m)).1
theorem body_most {m : Mt} (hf : FewM m) (hr : RR m.r) : (bodyB m).length ≤ 4000000 := by
 obtain ⟨hf1, hf2, hf3, hf4, hf5, hf6, hf7⟩ := hf
 have hrow := row_small hr
 have hvl := putAll_most (k := 10000) (n := 40) (by omega) (l := m.vf) hf2 (by omega) hf4
 have hkl := putAll_most (k := 20100) (n := 40) (by omega) (l := m.bs.map fun b => putAll [b.1, b.2]) (by rw [List.length_map]; exact hf3) (by omega) fun t ht => by
  obtain ⟨b, hb, rfl⟩ := List.mem_map.1 ht
  have h := putAll_most (k := 10000) (n := 2) (by omega) (l := [b.1, b.2]) (by simp) (by omega) fun t ht => by
   have h5 := hf5 b hb
   have : t = b.1 ∨ t = b.2 := by simpa using ht
   rcases this with rfl | rfl <;> omega
  omega
 have hpl := (put_le hf7).2
 have h := putAll_most (k := 900000) (n := 4) (by omega) (l := [rowR m.r, put m.ver, putAll m.vf, putAll (m.bs.map fun b => putAll [b.1, b.2])]) (by simp) (by omega) fun t ht => by
  have : t = rowR m.r ∨ t = put m.ver ∨ t = putAll m.vf ∨ t = putAll (m.bs.map fun b => putAll [b.1, b.2]) := by simpa using ht
  rcases this with rfl | rfl | rfl | rfl <;> omega
 unfold bodyB
 omega
set_option maxHeartbeats 4000000 in
set_option maxRecDepth 1000000 in
theorem sign_any (secret : ByteArray) (o f sig : ByteArray) (ep : Int) (A : Option Addr) (c : Nat) (rs : List ByteArray) (B : Option Addr) (d : Nat) (ws : List ByteArray) (ver : Nat) (V : Option Addr) (cv : Nat) (vs : List ByteArray) (K : Option Addr) (ck : Nat) (ks : List (ByteArray × ByteArray)) (w : World) (hA : SReads w A rs) (hB : SReads w B ws) (hV : SReads w V vs) (hK : PReads w K ks) (hf : FewM ⟨⟨o.data.toList, f.data.toList, ep, bl rs, bl ws⟩, ver, bl vs, pl ks, sig.data.toList⟩) (hr : RR ⟨o.data.toList, f.data.toList, ep, bl rs, bl ws⟩) (hs : secret.size ≤ 10000) :
  Calls Tryz.prog 58 #[.string secret, .agg #[.string o, .string f, .int .i64 ep, .slice A rs.length c, .slice B ws.length d, .int .u64 (ver : Int), .slice V vs.length cv, .slice K ks.length ck, .string sig]] w fun e w' => Sr (signC secret.data.toList ⟨⟨o.data.toList, f.data.toList, ep, bl rs, bl ws⟩, ver, bl vs, pl ks, sig.data.toList⟩) e ∧ Below w.heap.size w w' := by
 have hbm := body_most hf hr
 have HA := zh hA; have HBB := zh hB; have HV := zh hV; have HK := zh hK
 have HBY := zh fun w h1 h2 h3 h4 => cbody_any o f sig ep A c rs B d ws ver V cv vs K ck ks w h1 h2 h3 h4 hf hr
 obtain ⟨bd, hbd⟩ : ∃ b, bodyB ⟨⟨o.data.toList, f.data.toList, ep, bl rs, bl ws⟩, ver, bl vs, pl ks, sig.data.toList⟩ = b := ⟨_, rfl⟩
 have hsg : signC secret.data.toList ⟨⟨o.data.toList, f.data.toList, ep, bl rs, bl ws⟩, ver, bl vs, pl ks, sig.data.toList⟩ = if (ofText bd).2 ≠ 0 then ([], (ofText bd).2) else two 103 secret.data.toList (ofText bd).1 := by unfold signC; rw [hbd]
 rw [hsg]; rw [hbd] at HBY hbm
 have HOT : Hid (∀ (T : ByteArray) w, T.data.toList = bd → Calls Tryz.prog 86 #[.string T] w fun e w' => Sr (ofText bd) e ∧ Below w.heap.size w w') := fun T w hT => by
  rw [← hT]
  exact t_OfText T w (by rw [Lib.size_eq, hT]; omega)
 obtain ⟨x, e0, hx⟩ : ∃ x e, ofText bd = (x, e) := ⟨_, _, rfl⟩
 have hxl := ofText_len hx
 rw [hx] at HOT ⊢
 simp only
 have HSN : Hid (∀ (X : ByteArray) w, X.data.toList = x → Calls Tryz.prog 115 #[.string secret, .string X] w fun e w' => Sr (two 103 secret.data.toList x) e ∧ Below w.heap.size w w') := fun X w hX => by
  rw [← hX]
  exact t_Sign secret X w (by omega) (by rw [Lib.size_eq, hX]; omega)
 obtain ⟨z, ez, hz⟩ : ∃ z e, two 103 secret.data.toList x = (z, e) := ⟨_, _, rfl⟩; rw [hz] at HSN ⊢; clear hA hB hV hK hf hr hbd hsg hbm hx hxl hz
 by_cases he : e0 = 0
 case neg =>
  rw [if_pos he]
  have q : (e0 != 0) = true := by simpa using he
  go_enter Tryz.func58, Tryz.ntmps58
  go_wp2_with fail
  have HB := zh (al w (.cells #[.string o, .string f, .int .i64 ep, .slice A rs.length c, .slice B ws.length d, .int .u64 (ver : Int), .slice V vs.length cv, .slice K ks.length ck, .string sig] 39))
  generalize w.alloc (.cells #[.string o, .string f, .int .i64 ep, .slice A rs.length c, .slice B ws.length d, .int .u64 (ver : Int), .slice V vs.length cv, .slice K ks.length ck, .string sig] 39) = w1 at HB ⊢
  (with_reducible refine (HBY.out _ (HA.out.below HB.out zl) (HBB.out.below HB.out zl) (HV.out.below HB.out zl) (HK.out.below HB.out zl)).mono ?_); rintro e w2 ⟨⟨T, hT, rfl⟩, hb2⟩; have HB2 := zh (Bel.call HB.out hb2); have HT := zh hT; clear hb2 hT HB; dsimp only
  go_wp2_with fail
  (with_reducible refine (HOT.out T _ HT.out).mono ?_); rintro e w3 ⟨⟨X, hX, rfl⟩, hb3⟩; have HB3 := zh (Bel.call HB2.out hb3); dsimp only at hX; have HX := zh hX; clear hb3 hX HB2; dsimp only
  go_wp2
  go_ret2
  exact ⟨⟨⟨#[]⟩, rfl, rfl⟩, HB3.out⟩
 subst he
 rw [if_neg (by simp)]
 go_enter Tryz.func58, Tryz.ntmps58
 go_wp2_with fail
 have HB := zh (al w (.cells #[.string o, .string f, .int .i64 ep, .slice A rs.length c, .slice B ws.length d, .int .u64 (ver : Int), .slice V vs.length cv, .slice K ks.length ck, .string sig] 39))
 generalize w.alloc (.cells #[.string o, .string f, .int .i64 ep, .slice A rs.length c, .slice B ws.length d, .int .u64 (ver : Int), .slice V vs.length cv, .slice K ks.length ck, .string sig] 39) = w1 at HB ⊢
 (with_reducible refine (HBY.out _ (HA.out.below HB.out zl) (HBB.out.below HB.out zl) (HV.out.below HB.out zl) (HK.out.below HB.out zl)).mono ?_); rintro e w2 ⟨⟨T, hT, rfl⟩, hb2⟩; have HB2 := zh (Bel.call HB.out hb2); have HT := zh hT; clear hb2 hT HB; dsimp only
 go_wp2_with fail
 (with_reducible refine (HOT.out T _ HT.out).mono ?_); rintro e w3 ⟨⟨X, hX, rfl⟩, hb3⟩; have HB3 := zh (Bel.call HB2.out hb3); dsimp only at hX; have HX := zh hX; clear hb3 hX HB2; dsimp only
 go_wp2_with fail
 (with_reducible refine (HSN.out X _ HX.out).mono ?_); rintro e w4 ⟨⟨Z, hZ, rfl⟩, hb4⟩; have HB4 := zh (Bel.call HB3.out hb4); dsimp only at hZ; have HZ := zh hZ; clear hb4 hZ; dsimp only
 go_wp2
 go_ret2
 exact ⟨⟨Z, HZ.out, rfl⟩, HB4.out⟩
set_option maxHeartbeats 8000000 in
set_option maxRecDepth 1000000 in
theorem mapart_any (o f : ByteArray) (ep : Int) (A : Option Addr) (c : Nat) (rs : List ByteArray) (B : Option Addr) (d : Nat) (ws : List ByteArray) (w : World) (hA : SReads w A rs) (hB : SReads w B ws) (hl1 : rs.length ≤ 40) (hl2 : ws.length ≤ 40) (hna : A = none → c = 0) (hnb : B = none → d = 0) :
  Calls Tryz.prog 55 #[RV o f ep A rs.length c B ws.length d] w fun e w' => (∃ (X1 : Option Addr) (k1 : Nat) (X2 : Option Addr) (k2 : Nat), SReads w' X1 rs ∧ SReads w' X2 ws ∧ (rs.length ≤ k1 ∧ (X1 = none → k1 = 0)) ∧ (ws.length ≤ k2 ∧ (X2 = none → k2 = 0)) ∧ (∀ b off, X1 = some ⟨b, off, none⟩ → w.heap.size ≤ b ∧ b < w'.heap.size) ∧ (∀ b off, X2 = some ⟨b, off, none⟩ → w.heap.size ≤ b ∧ b < w'.heap.size) ∧ e = .returned (RV o f ep X1 rs.length k1 X2 ws.length k2)) ∧ Below w.heap.size w w' := by
 have HA := zh hA; have HBB := zh hB; have HNA := zh hna; have HNB := zh hnb
 have HC1 := zh fun w g hg h => copy_any A rs.length c rs w g hg h hl1 hna rfl
 have HC2 := zh fun w g hg h => copy_any B ws.length d ws w g hg h hl2 hnb rfl
 clear hA hB hna hnb
 unfold RV
 go_enter Tryz.func55, Tryz.ntmps55
 go_wp2_with fail
 have hT : Two w ((w.alloc (.cells #[.string o, .string f, .int .i64 ep, .slice A rs.length c, .slice B ws.length d] 27)).alloc (.cells #[.string ⟨#[]⟩, .string ⟨#[]⟩, .int .i64 0, .slice none 0 0, .slice none 0 0] 27)) o f ep A rs.length c B ws.length d := two_first (Below.refl _ _)
 have hSB : Sf w.heap.size ((w.alloc (.cells #[.string o, .string f, .int .i64 ep, .slice A rs.length c, .slice B ws.length d] 27)).alloc (.cells #[.string ⟨#[]⟩, .string ⟨#[]⟩, .int .i64 0, .slice none 0 0, .slice none 0 0] 27)) := (sf_alloc w _ _).below (al _ _) (by simp)
 generalize ((w.alloc (.cells #[.string o, .string f, .int .i64 ep, .slice A rs.length c, .slice B ws.length d] 27)).alloc (.cells #[.string ⟨#[]⟩, .string ⟨#[]⟩, .int .i64 0, .slice none 0 0, .slice none 0 0] 27)) = wz at hT hSB ⊢
 have hdr : Below wz.heap.size wz wz.drew := Below.drewN' (Below.refl wz.heap.size wz) 1
 have HT := zh (hT.more hdr); have HSB := zh (hSB.below hdr hT.1.2.2.2.2.2)
 refine wp_region_held_drew (S := fun _ => True) (by kernel_rfl) trivial (fun hHeld => ?_)
 clear hHeld hT hSB hdr; obtain ⟨wd, hwd⟩ : ∃ W, wz.drew = W := ⟨_, rfl⟩; rw [show wz.drew = wd from hwd] at HT HSB ⊢; clear hwd; obtain ⟨⟨c0, c1, c2, c3, c4, _⟩, ⟨r0, r1, r2, r3, r4, _⟩, ⟨f0, f1, f2, f3, f4⟩, _⟩ := HT.out; obtain ⟨b0, b1, b2, b3, b4⟩ := HSB.out
 have hHeld : True := trivial
 refine zqT 0 ?_ ?_ ?_; rotate_left
 · intro w' hSw; go_simp; try with_reducible rfl
 (try simp only [Act.put, zq1, zq2, zq3]); clear hHeld
 have hHeld : True := trivial
 refine zqT 4 ?_ ?_ ?_; rotate_left
 · intro w' hSw; go_simp; try with_reducible rfl
 (try simp only [Act.put, zq1, zq2, zq3]); clear hHeld; refine zqR [1, 5] ?_; refine zqC (fun K hK => ?_) ?_
 ·
  go_simp
  skip
  refine hK.out _ _ trivial (fun _ => ?_); (try simp only [Act.put, zq1, zq2, zq3]); refine zqR [2, 5] ?_; refine zqC (fun K hK => ?_) ?_
  ·
   go_simp; clear c0 c1 c2 c3 c4 r0 r1 r2 r3 r4 f0 f1 f2 f3 f4 b0 b1 b2 b3 b4
   have hpc := one_piece wd wd.heap.size 25 rfl (rfl : rs.length = rs.length) (HA.out.below HT.out.2.2.2 zl) HNA.out
   have hal := al wd (.cells #[.slice A rs.length c] 25)
   have hT := HT.out.more hal
   have hSB := HSB.out.below hal HT.out.1.2.2.2.2.2
   obtain ⟨G1, hG1⟩ : ∃ n, wd.heap.size = n := ⟨_, rfl⟩
   generalize wd.alloc (.cells #[.slice A rs.length c] 25) = w1 at hpc hal hT hSB ⊢
   rw [hG1] at hpc ⊢; have HT := zh hT; have HSB := zh hSB; have HP1 := zh hpc; clear hpc hal hT hSB hG1; obtain ⟨⟨c0, c1, c2, c3, c4, _⟩, ⟨r0, r1, r2, r3, r4, _⟩, ⟨f0, f1, f2, f3, f4⟩, _⟩ := HT.out; obtain ⟨b0, b1, b2, b3, b4⟩ := HSB.out; refine hK.out _ _ trivial (fun _ => ?_); (try simp only [Act.put, zq1, zq2, zq3]); refine zqR [3, 5] ?_; refine zqC (fun K hK => ?_) ?_
   ·
    go_simp
    go_at_call 109
    with_reducible refine (copy_at8 G1 rs w1 HP1.out (by omega)).mono ?_
    intro e w2 hh
    obtain ⟨hh1, hb⟩ := hh
    unfold LstU at hh1
    obtain ⟨X1, k1, hc1, hr1, hf1, he1⟩ := hh1
    subst he1
    have HTO := HT
    clear c0 c1 c2 c3 c4 r0 r1 r2 r3 r4 f0 f1 f2 f3 f4 b0 b1 b2 b3 b4
    have HF1 : Hid (∀ b off, X1 = some ⟨b, off, none⟩ → w.heap.size ≤ b ∧ b ≠ w.heap.size ∧ b ≠ w.heap.size + 1) := zh fun b off h => by
     have h1 := (hf1 b off h).1
     have h2 := HT.out.2.1.2.2.2.2.2
     exact ⟨by omega, by omega, by omega⟩
    have HT := zh (HT.out.more hb); have HSB := zh (HSB.out.below hb HTO.out.1.2.2.2.2.2); have HS1 := zh hr1; have HL1 := zh hc1
    have HU1 : Hid (∀ b off, X1 = some ⟨b, off, none⟩ → b < w2.heap.size) := zh fun b off h => (hf1 b off h).2
    clear hb hc1 hr1 hf1; obtain ⟨⟨c0, c1, c2, c3, c4, _⟩, ⟨r0, r1, r2, r3, r4, _⟩, ⟨f0, f1, f2, f3, f4⟩, _⟩ := HT.out; obtain ⟨b0, b1, b2, b3, b4⟩ := HSB.out; dsimp only; refine hK.out _ _ trivial (fun _ => ?_); (try simp only [Act.put, zq1, zq2, zq3]); refine zqR [5] ?_
    refine zqN fun K hK => ?_
    go_simp
    skip
    refine hK.out _ _ trivial (fun _ => ?_); try simp only [Act.put, zq1, zq2, zq3]
    have hHeld : True := trivial
    refine zqT 8 ?_ ?_ ?_; rotate_left
    · intro w' hSw; go_simp; try with_reducible rfl
    (try simp only [Act.put, zq1, zq2, zq3]); clear hHeld; refine zqR [6] ?_
    refine zqN fun K hK => ?_
    go_simp; clear c0 c1 c2 c3 c4 r0 r1 r2 r3 r4 f0 f1 f2 f3 f4 b0 b1 b2 b3 b4
    have hpc := one_piece w2 w2.heap.size 25 rfl (rfl : ws.length = ws.length) (HBB.out.below HT.out.2.2.2 zl) HNB.out
    have hal := al w2 (.cells #[.slice B ws.length d] 25)
    have hT := HT.out.more hal
    have hSB := HSB.out.below hal HT.out.1.2.2.2.2.2
    have hS1 := HS1.out.below hal zl
    have hU1 := fun b off h => Nat.lt_of_lt_of_le (HU1.out b off h) hal.size
    obtain ⟨G2, hG2⟩ : ∃ n, w2.heap.size = n := ⟨_, rfl⟩
    generalize w2.alloc (.cells #[.slice B ws.length d] 25) = w3 at hpc hal hT hSB hS1 hU1 ⊢
    rw [hG2] at hpc ⊢; have HT := zh hT; have HSB := zh hSB; have HP2 := zh hpc; have HS1 := zh hS1; have HU1 := zh hU1; clear hpc hal hT hSB hG2 hS1 hU1; obtain ⟨⟨c0, c1, c2, c3, c4, _⟩, ⟨r0, r1, r2, r3, r4, _⟩, ⟨f0, f1, f2, f3, f4⟩, _⟩ := HT.out; obtain ⟨b0, b1, b2, b3, b4⟩ := HSB.out; refine hK.out _ _ trivial (fun _ => ?_); (try simp only [Act.put, zq1, zq2, zq3]); refine zqR [7] ?_
    refine zqN fun K hK => ?_
    go_simp
    go_at_call 109
    with_reducible refine (copy_at8 G2 ws w3 HP2.out (by omega)).mono ?_
    intro e w4 hh
    obtain ⟨hh1, hb⟩ := hh
    unfold LstU at hh1
    obtain ⟨X2, k2, hc2, hr2, hf2, he2⟩ := hh1
    subst he2
    have HTO := HT
    clear c0 c1 c2 c3 c4 r0 r1 r2 r3 r4 f0 f1 f2 f3 f4 b0 b1 b2 b3 b4
    have HF2 : Hid (∀ b off, X2 = some ⟨b, off, none⟩ → w.heap.size ≤ b ∧ b ≠ w.heap.size ∧ b ≠ w.heap.size + 1) := zh fun b off h => by
     have h1 := (hf2 b off h).1
     have h2 := HT.out.2.1.2.2.2.2.2
     exact ⟨by omega, by omega, by omega⟩
    have HT := zh (HT.out.more hb); have HSB := zh (HSB.out.below hb HTO.out.1.2.2.2.2.2); have HS1 := zh (HS1.out.below hb zl); have HS2 := zh hr2; have HL2 := zh hc2
    have HU2 : Hid (∀ b off, X2 = some ⟨b, off, none⟩ → b < w4.heap.size) := zh fun b off h => (hf2 b off h).2
    have HU1 := zh fun b off h => Nat.lt_of_lt_of_le (HU1.out b off h) hb.size
    clear hb hc2 hr2 hf2; obtain ⟨⟨c0, c1, c2, c3, c4, _⟩, ⟨r0, r1, r2, r3, r4, _⟩, ⟨f0, f1, f2, f3, f4⟩, _⟩ := HT.out; obtain ⟨b0, b1, b2, b3, b4⟩ := HSB.out; dsimp only; refine hK.out _ _ trivial (fun _ => ?_); (try simp only [Act.put, zq1, zq2, zq3]); refine zqR [9] ?_
    refine zqN fun K hK => ?_
    go_simp
    skip
    refine hK.out _ _ trivial (fun _ => ?_); try simp only [Act.put, zq1, zq2, zq3]
    have hHeld : True := trivial
    refine zqT 10 ?_ ?_ ?_; rotate_left
    · intro w' hSw; go_simp; try with_reducible rfl
    (try simp only [Act.put, zq1, zq2, zq3]); clear hHeld; refine zqR [11] ?_
    refine zqN fun K hK => ?_
    go_simp
    skip
    refine hK.out _ _ trivial (fun _ => ?_); try simp only [Act.put, zq1, zq2, zq3]
    refine wpAnyH_done (by kernel_rfl) ?_ _
    have hS1 := HS1.out
    have hS2 := HS2.out
    have hB5 := HT.out.2.2.2
    go_wp2
    refine bodyPost_ret (v := RV o f ep X1 rs.length k1 X2 ws.length k2) (by simp [results, Tryz.results55, go_sem, RV, r0, r1, r2, r3, r4]) rfl ?_
    have p1 : ∀ b off, X1 = some ⟨b, off, none⟩ → b ≠ w.heap.size := fun b off h => (HF1.out b off h).2.1
    have p2 : ∀ b off, X2 = some ⟨b, off, none⟩ → b ≠ w.heap.size := fun b off h => (HF2.out b off h).2.1
    have q1 : ∀ b off, X1 = some ⟨b, off, none⟩ → b ≠ w.heap.size + 1 := fun b off h => (HF1.out b off h).2.2
    have q2 : ∀ b off, X2 = some ⟨b, off, none⟩ → b ≠ w.heap.size + 1 := fun b off h => (HF2.out b off h).2.2
    exact ⟨⟨X1, k1, X2, k2, sreads_set5 (sreads_set (sreads_set hS1 p1) p1) q1, sreads_set5 (sreads_set (sreads_set hS2 p2) p2) q2, HL1.out, HL2.out, fun b off h => ⟨(HF1.out b off h).1, by simpa [World.setCell] using HU1.out b off h⟩, fun b off h => ⟨(HF2.out b off h).1, by simpa [World.setCell] using HU2.out b off h⟩, rfl⟩, set5 ((hB5.setCell (p := ⟨w.heap.size, 3, none⟩) zl _).setCell (p := ⟨w.heap.size, 4, none⟩) zl _) (by omega)⟩
   refine zqN fun K hK => ?_
   go_simp
   skip
   refine hK.out _ _ trivial (fun _ => ?_); (try simp only [Act.put, zq1, zq2, zq3]); refine zqR [3, 6] ?_; refine zqC (fun K hK => ?_) ?_
   ·
    go_simp
    go_at_call 109
    with_reducible refine (copy_at8 G1 rs w1 HP1.out (by omega)).mono ?_
    intro e w2 hh
    obtain ⟨hh1, hb⟩ := hh
    unfold LstU at hh1
    obtain ⟨X1, k1, hc1, hr1, hf1, he1⟩ := hh1
    subst he1
    have HTO := HT
    clear c0 c1 c2 c3 c4 r0 r1 r2 r3 r4 f0 f1 f2 f3 f4 b0 b1 b2 b3 b4
    have HF1 : Hid (∀ b off, X1 = some ⟨b, off, none⟩ → w.heap.size ≤ b ∧ b ≠ w.heap.size ∧ b ≠ w.heap.size + 1) := zh fun b off h => by
     have h1 := (hf1 b off h).1
     have h2 := HT.out.2.1.2.2.2.2.2
     exact ⟨by omega, by omega, by omega⟩
    have HT := zh (HT.out.more hb); have HSB := zh (HSB.out.below hb HTO.out.1.2.2.2.2.2); have HS1 := zh hr1; have HL1 := zh hc1
    have HU1 : Hid (∀ b off, X1 = some ⟨b, off, none⟩ → b < w2.heap.size) := zh fun b off h => (hf1 b off h).2
    clear hb hc1 hr1 hf1; obtain ⟨⟨c0, c1, c2, c3, c4, _⟩, ⟨r0, r1, r2, r3, r4, _⟩, ⟨f0, f1, f2, f3, f4⟩, _⟩ := HT.out; obtain ⟨b0, b1, b2, b3, b4⟩ := HSB.out; dsimp only; refine hK.out _ _ trivial (fun _ => ?_); try simp only [Act.put, zq1, zq2, zq3]
    have hHeld : True := trivial
    refine zqT 8 ?_ ?_ ?_; rotate_left
    · intro w' hSw; go_simp; try with_reducible rfl
    (try simp only [Act.put, zq1, zq2, zq3]); clear hHeld; refine zqR [6] ?_
    refine zqN fun K hK => ?_
    go_simp; clear c0 c1 c2 c3 c4 r0 r1 r2 r3 r4 f0 f1 f2 f3 f4 b0 b1 b2 b3 b4
    have hpc := one_piece w2 w2.heap.size 25 rfl (rfl : ws.length = ws.length) (HBB.out.below HT.out.2.2.2 zl) HNB.out
    have hal := al w2 (.cells #[.slice B ws.length d] 25)
    have hT := HT.out.more hal
    have hSB := HSB.out.below hal HT.out.1.2.2.2.2.2
    have hS1 := HS1.out.below hal zl
    have hU1 := fun b off h => Nat.lt_of_lt_of_le (HU1.out b off h) hal.size
    obtain ⟨G2, hG2⟩ : ∃ n, w2.heap.size = n := ⟨_, rfl⟩
    generalize w2.alloc (.cells #[.slice B ws.length d] 25) = w3 at hpc hal hT hSB hS1 hU1 ⊢
    rw [hG2] at hpc ⊢; have HT := zh hT; have HSB := zh hSB; have HP2 := zh hpc; have HS1 := zh hS1; have HU1 := zh hU1; clear hpc hal hT hSB hG2 hS1 hU1; obtain ⟨⟨c0, c1, c2, c3, c4, _⟩, ⟨r0, r1, r2, r3, r4, _⟩, ⟨f0, f1, f2, f3, f4⟩, _⟩ := HT.out; obtain ⟨b0, b1, b2, b3, b4⟩ := HSB.out; refine hK.out _ _ trivial (fun _ => ?_); (try simp only [Act.put, zq1, zq2, zq3]); refine zqR [7] ?_
    refine zqN fun K hK => ?_
    go_simp
    go_at_call 109
    with_reducible refine (copy_at8 G2 ws w3 HP2.out (by omega)).mono ?_
    intro e w4 hh
    obtain ⟨hh1, hb⟩ := hh
    unfold LstU at hh1
    obtain ⟨X2, k2, hc2, hr2, hf2, he2⟩ := hh1
    subst he2
    have HTO := HT
    clear c0 c1 c2 c3 c4 r0 r1 r2 r3 r4 f0 f1 f2 f3 f4 b0 b1 b2 b3 b4
    have HF2 : Hid (∀ b off, X2 = some ⟨b, off, none⟩ → w.heap.size ≤ b ∧ b ≠ w.heap.size ∧ b ≠ w.heap.size + 1) := zh fun b off h => by
     have h1 := (hf2 b off h).1
     have h2 := HT.out.2.1.2.2.2.2.2
     exact ⟨by omega, by omega, by omega⟩
    have HT := zh (HT.out.more hb); have HSB := zh (HSB.out.below hb HTO.out.1.2.2.2.2.2); have HS1 := zh (HS1.out.below hb zl); have HS2 := zh hr2; have HL2 := zh hc2
    have HU2 : Hid (∀ b off, X2 = some ⟨b, off, none⟩ → b < w4.heap.size) := zh fun b off h => (hf2 b off h).2
    have HU1 := zh fun b off h => Nat.lt_of_lt_of_le (HU1.out b off h) hb.size
    clear hb hc2 hr2 hf2; obtain ⟨⟨c0, c1, c2, c3, c4, _⟩, ⟨r0, r1, r2, r3, r4, _⟩, ⟨f0, f1, f2, f3, f4⟩, _⟩ := HT.out; obtain ⟨b0, b1, b2, b3, b4⟩ := HSB.out; dsimp only; refine hK.out _ _ trivial (fun _ => ?_); (try simp only [Act.put, zq1, zq2, zq3]); refine zqR [9] ?_
    refine zqN fun K hK => ?_
    go_simp
    skip
    refine hK.out _ _ trivial (fun _ => ?_); try simp only [Act.put, zq1, zq2, zq3]
    have hHeld : True := trivial
    refine zqT 10 ?_ ?_ ?_; rotate_left
    · intro w' hSw; go_simp; try with_reducible rfl
    (try simp only [Act.put, zq1, zq2, zq3]); clear hHeld; refine zqR [11] ?_
    refine zqN fun K hK => ?_
    go_simp
    skip
    refine hK.out _ _ trivial (fun _ => ?_); try simp only [Act.put, zq1, zq2, zq3]
    refine wpAnyH_done (by kernel_rfl) ?_ _
    have hS1 := HS1.out
    have hS2 := HS2.out
    have hB5 := HT.out.2.2.2
    go_wp2
    refine bodyPost_ret (v := RV o f ep X1 rs.length k1 X2 ws.length k2) (by simp [results, Tryz.results55, go_sem, RV, r0, r1, r2, r3, r4]) rfl ?_
    have p1 : ∀ b off, X1 = some ⟨b, off, none⟩ → b ≠ w.heap.size := fun b off h => (HF1.out b off h).2.1
    have p2 : ∀ b off, X2 = some ⟨b, off, none⟩ → b ≠ w.heap.size := fun b off h => (HF2.out b off h).2.1
    have q1 : ∀ b off, X1 = some ⟨b, off, none⟩ → b ≠ w.heap.size + 1 := fun b off h => (HF1.out b off h).2.2
    have q2 : ∀ b off, X2 = some ⟨b, off, none⟩ → b ≠ w.heap.size + 1 := fun b off h => (HF2.out b off h).2.2
    exact ⟨⟨X1, k1, X2, k2, sreads_set5 (sreads_set (sreads_set hS1 p1) p1) q1, sreads_set5 (sreads_set (sreads_set hS2 p2) p2) q2, HL1.out, HL2.out, fun b off h => ⟨(HF1.out b off h).1, by simpa [World.setCell] using HU1.out b off h⟩, fun b off h => ⟨(HF2.out b off h).1, by simpa [World.setCell] using HU2.out b off h⟩, rfl⟩, set5 ((hB5.setCell (p := ⟨w.heap.size, 3, none⟩) zl _).setCell (p := ⟨w.heap.size, 4, none⟩) zl _) (by omega)⟩
   refine zqN fun K hK => ?_
   go_simp; clear c0 c1 c2 c3 c4 r0 r1 r2 r3 r4 f0 f1 f2 f3 f4 b0 b1 b2 b3 b4
   have hpc := one_piece w1 w1.heap.size 25 rfl (rfl : ws.length = ws.length) (HBB.out.below HT.out.2.2.2 zl) HNB.out
   have hal := al w1 (.cells #[.slice B ws.length d] 25)
   have hT := HT.out.more hal
   have hSB := HSB.out.below hal HT.out.1.2.2.2.2.2
   have hP1 := HP1.out.below hal zl
   obtain ⟨G2, hG2⟩ : ∃ n, w1.heap.size = n := ⟨_, rfl⟩
   generalize w1.alloc (.cells #[.slice B ws.length d] 25) = w2 at hpc hal hT hSB hP1 ⊢
   rw [hG2] at hpc ⊢; have HT := zh hT; have HSB := zh hSB; have HP2 := zh hpc; have HP1 := zh hP1; clear hpc hal hT hSB hG2 hP1; obtain ⟨⟨c0, c1, c2, c3, c4, _⟩, ⟨r0, r1, r2, r3, r4, _⟩, ⟨f0, f1, f2, f3, f4⟩, _⟩ := HT.out; obtain ⟨b0, b1, b2, b3, b4⟩ := HSB.out; refine hK.out _ _ trivial (fun _ => ?_); (try simp only [Act.put, zq1, zq2, zq3]); refine zqR [3] ?_
   refine zqN fun K hK => ?_
   go_simp
   go_at_call 109
   with_reducible refine (copy_at8 G1 rs w2 HP1.out (by omega)).mono ?_
   intro e w3 hh
   obtain ⟨hh1, hb⟩ := hh
   unfold LstU at hh1
   obtain ⟨X1, k1, hc1, hr1, hf1, he1⟩ := hh1
   subst he1
   have HTO := HT
   clear c0 c1 c2 c3 c4 r0 r1 r2 r3 r4 f0 f1 f2 f3 f4 b0 b1 b2 b3 b4
   have HF1 : Hid (∀ b off, X1 = some ⟨b, off, none⟩ → w.heap.size ≤ b ∧ b ≠ w.heap.size ∧ b ≠ w.heap.size + 1) := zh fun b off h => by
    have h1 := (hf1 b off h).1
    have h2 := HT.out.2.1.2.2.2.2.2
    exact ⟨by omega, by omega, by omega⟩
   have HT := zh (HT.out.more hb); have HSB := zh (HSB.out.below hb HTO.out.1.2.2.2.2.2); have HP2 := zh (HP2.out.below hb zl); have HS1 := zh hr1; have HL1 := zh hc1
   have HU1 : Hid (∀ b off, X1 = some ⟨b, off, none⟩ → b < w3.heap.size) := zh fun b off h => (hf1 b off h).2
   clear hb hc1 hr1 hf1; obtain ⟨⟨c0, c1, c2, c3, c4, _⟩, ⟨r0, r1, r2, r3, r4, _⟩, ⟨f0, f1, f2, f3, f4⟩, _⟩ := HT.out; obtain ⟨b0, b1, b2, b3, b4⟩ := HSB.out; dsimp only; refine hK.out _ _ trivial (fun _ => ?_); try simp only [Act.put, zq1, zq2, zq3]
   have hHeld : True := trivial
   refine zqT 8 ?_ ?_ ?_; rotate_left
   · intro w' hSw; go_simp; try with_reducible rfl
   (try simp only [Act.put, zq1, zq2, zq3]); clear hHeld; refine zqR [7] ?_
   refine zqN fun K hK => ?_
   go_simp
   go_at_call 109
   with_reducible refine (copy_at8 G2 ws w3 HP2.out (by omega)).mono ?_
   intro e w4 hh
   obtain ⟨hh1, hb⟩ := hh
   unfold LstU at hh1
   obtain ⟨X2, k2, hc2, hr2, hf2, he2⟩ := hh1
   subst he2
   have HTO := HT
   clear c0 c1 c2 c3 c4 r0 r1 r2 r3 r4 f0 f1 f2 f3 f4 b0 b1 b2 b3 b4
   have HF2 : Hid (∀ b off, X2 = some ⟨b, off, none⟩ → w.heap.size ≤ b ∧ b ≠ w.heap.size ∧ b ≠ w.heap.size + 1) := zh fun b off h => by
    have h1 := (hf2 b off h).1
    have h2 := HT.out.2.1.2.2.2.2.2
    exact ⟨by omega, by omega, by omega⟩
   have HT := zh (HT.out.more hb); have HSB := zh (HSB.out.below hb HTO.out.1.2.2.2.2.2); have HS1 := zh (HS1.out.below hb zl); have HS2 := zh hr2; have HL2 := zh hc2
   have HU2 : Hid (∀ b off, X2 = some ⟨b, off, none⟩ → b < w4.heap.size) := zh fun b off h => (hf2 b off h).2
   have HU1 := zh fun b off h => Nat.lt_of_lt_of_le (HU1.out b off h) hb.size
   clear hb hc2 hr2 hf2; obtain ⟨⟨c0, c1, c2, c3, c4, _⟩, ⟨r0, r1, r2, r3, r4, _⟩, ⟨f0, f1, f2, f3, f4⟩, _⟩ := HT.out; obtain ⟨b0, b1, b2, b3, b4⟩ := HSB.out; dsimp only; refine hK.out _ _ trivial (fun _ => ?_); (try simp only [Act.put, zq1, zq2, zq3]); refine zqR [9] ?_
   refine zqN fun K hK => ?_
   go_simp
   skip
   refine hK.out _ _ trivial (fun _ => ?_); try simp only [Act.put, zq1, zq2, zq3]
   have hHeld : True := trivial
   refine zqT 10 ?_ ?_ ?_; rotate_left
   · intro w' hSw; go_simp; try with_reducible rfl
   (try simp only [Act.put, zq1, zq2, zq3]); clear hHeld; refine zqR [11] ?_
   refine zqN fun K hK => ?_
   go_simp
   skip
   refine hK.out _ _ trivial (fun _ => ?_); try simp only [Act.put, zq1, zq2, zq3]
   refine wpAnyH_done (by kernel_rfl) ?_ _
   have hS1 := HS1.out
   have hS2 := HS2.out
   have hB5 := HT.out.2.2.2
   go_wp2
   refine bodyPost_ret (v := RV o f ep X1 rs.length k1 X2 ws.length k2) (by simp [results, Tryz.results55, go_sem, RV, r0, r1, r2, r3, r4]) rfl ?_
   have p1 : ∀ b off, X1 = some ⟨b, off, none⟩ → b ≠ w.heap.size := fun b off h => (HF1.out b off h).2.1
   have p2 : ∀ b off, X2 = some ⟨b, off, none⟩ → b ≠ w.heap.size := fun b off h => (HF2.out b off h).2.1
   have q1 : ∀ b off, X1 = some ⟨b, off, none⟩ → b ≠ w.heap.size + 1 := fun b off h => (HF1.out b off h).2.2
   have q2 : ∀ b off, X2 = some ⟨b, off, none⟩ → b ≠ w.heap.size + 1 := fun b off h => (HF2.out b off h).2.2
   exact ⟨⟨X1, k1, X2, k2, sreads_set5 (sreads_set (sreads_set hS1 p1) p1) q1, sreads_set5 (sreads_set (sreads_set hS2 p2) p2) q2, HL1.out, HL2.out, fun b off h => ⟨(HF1.out b off h).1, by simpa [World.setCell] using HU1.out b off h⟩, fun b off h => ⟨(HF2.out b off h).1, by simpa [World.setCell] using HU2.out b off h⟩, rfl⟩, set5 ((hB5.setCell (p := ⟨w.heap.size, 3, none⟩) zl _).setCell (p := ⟨w.heap.size, 4, none⟩) zl _) (by omega)⟩
  refine zqN fun K hK => ?_
  go_simp
  skip
  refine hK.out _ _ trivial (fun _ => ?_); (try simp only [Act.put, zq1, zq2, zq3]); refine zqR [2, 6] ?_; refine zqC (fun K hK => ?_) ?_
  ·
   go_simp; clear c0 c1 c2 c3 c4 r0 r1 r2 r3 r4 f0 f1 f2 f3 f4 b0 b1 b2 b3 b4
   have hpc := one_piece wd wd.heap.size 25 rfl (rfl : rs.length = rs.length) (HA.out.below HT.out.2.2.2 zl) HNA.out
   have hal := al wd (.cells #[.slice A rs.length c] 25)
   have hT := HT.out.more hal
   have hSB := HSB.out.below hal HT.out.1.2.2.2.2.2
   obtain ⟨G1, hG1⟩ : ∃ n, wd.heap.size = n := ⟨_, rfl⟩
   generalize wd.alloc (.cells #[.slice A rs.length c] 25) = w1 at hpc hal hT hSB ⊢
   rw [hG1] at hpc ⊢; have HT := zh hT; have HSB := zh hSB; have HP1 := zh hpc; clear hpc hal hT hSB hG1; obtain ⟨⟨c0, c1, c2, c3, c4, _⟩, ⟨r0, r1, r2, r3, r4, _⟩, ⟨f0, f1, f2, f3, f4⟩, _⟩ := HT.out; obtain ⟨b0, b1, b2, b3, b4⟩ := HSB.out; refine hK.out _ _ trivial (fun _ => ?_); (try simp only [Act.put, zq1, zq2, zq3]); refine zqR [3, 6] ?_; refine zqC (fun K hK => ?_) ?_
   ·
    go_simp
    go_at_call 109
    with_reducible refine (copy_at8 G1 rs w1 HP1.out (by omega)).mono ?_
    intro e w2 hh
    obtain ⟨hh1, hb⟩ := hh
    unfold LstU at hh1
    obtain ⟨X1, k1, hc1, hr1, hf1, he1⟩ := hh1
    subst he1
    have HTO := HT
    clear c0 c1 c2 c3 c4 r0 r1 r2 r3 r4 f0 f1 f2 f3 f4 b0 b1 b2 b3 b4
    have HF1 : Hid (∀ b off, X1 = some ⟨b, off, none⟩ → w.heap.size ≤ b ∧ b ≠ w.heap.size ∧ b ≠ w.heap.size + 1) := zh fun b off h => by
     have h1 := (hf1 b off h).1
     have h2 := HT.out.2.1.2.2.2.2.2
     exact ⟨by omega, by omega, by omega⟩
    have HT := zh (HT.out.more hb); have HSB := zh (HSB.out.below hb HTO.out.1.2.2.2.2.2); have HS1 := zh hr1; have HL1 := zh hc1
    have HU1 : Hid (∀ b off, X1 = some ⟨b, off, none⟩ → b < w2.heap.size) := zh fun b off h => (hf1 b off h).2
    clear hb hc1 hr1 hf1; obtain ⟨⟨c0, c1, c2, c3, c4, _⟩, ⟨r0, r1, r2, r3, r4, _⟩, ⟨f0, f1, f2, f3, f4⟩, _⟩ := HT.out; obtain ⟨b0, b1, b2, b3, b4⟩ := HSB.out; dsimp only; refine hK.out _ _ trivial (fun _ => ?_); try simp only [Act.put, zq1, zq2, zq3]
    have hHeld : True := trivial
    refine zqT 8 ?_ ?_ ?_; rotate_left
    · intro w' hSw; go_simp; try with_reducible rfl
    (try simp only [Act.put, zq1, zq2, zq3]); clear hHeld; refine zqR [6] ?_
    refine zqN fun K hK => ?_
    go_simp; clear c0 c1 c2 c3 c4 r0 r1 r2 r3 r4 f0 f1 f2 f3 f4 b0 b1 b2 b3 b4
    have hpc := one_piece w2 w2.heap.size 25 rfl (rfl : ws.length = ws.length) (HBB.out.below HT.out.2.2.2 zl) HNB.out
    have hal := al w2 (.cells #[.slice B ws.length d] 25)
    have hT := HT.out.more hal
    have hSB := HSB.out.below hal HT.out.1.2.2.2.2.2
    have hS1 := HS1.out.below hal zl
    have hU1 := fun b off h => Nat.lt_of_lt_of_le (HU1.out b off h) hal.size
    obtain ⟨G2, hG2⟩ : ∃ n, w2.heap.size = n := ⟨_, rfl⟩
    generalize w2.alloc (.cells #[.slice B ws.length d] 25) = w3 at hpc hal hT hSB hS1 hU1 ⊢
    rw [hG2] at hpc ⊢; have HT := zh hT; have HSB := zh hSB; have HP2 := zh hpc; have HS1 := zh hS1; have HU1 := zh hU1; clear hpc hal hT hSB hG2 hS1 hU1; obtain ⟨⟨c0, c1, c2, c3, c4, _⟩, ⟨r0, r1, r2, r3, r4, _⟩, ⟨f0, f1, f2, f3, f4⟩, _⟩ := HT.out; obtain ⟨b0, b1, b2, b3, b4⟩ := HSB.out; refine hK.out _ _ trivial (fun _ => ?_); (try simp only [Act.put, zq1, zq2, zq3]); refine zqR [7] ?_
    refine zqN fun K hK => ?_
    go_simp
    go_at_call 109
    with_reducible refine (copy_at8 G2 ws w3 HP2.out (by omega)).mono ?_
    intro e w4 hh
    obtain ⟨hh1, hb⟩ := hh
    unfold LstU at hh1
    obtain ⟨X2, k2, hc2, hr2, hf2, he2⟩ := hh1
    subst he2
    have HTO := HT
    clear c0 c1 c2 c3 c4 r0 r1 r2 r3 r4 f0 f1 f2 f3 f4 b0 b1 b2 b3 b4
    have HF2 : Hid (∀ b off, X2 = some ⟨b, off, none⟩ → w.heap.size ≤ b ∧ b ≠ w.heap.size ∧ b ≠ w.heap.size + 1) := zh fun b off h => by
     have h1 := (hf2 b off h).1
     have h2 := HT.out.2.1.2.2.2.2.2
     exact ⟨by omega, by omega, by omega⟩
    have HT := zh (HT.out.more hb); have HSB := zh (HSB.out.below hb HTO.out.1.2.2.2.2.2); have HS1 := zh (HS1.out.below hb zl); have HS2 := zh hr2; have HL2 := zh hc2
    have HU2 : Hid (∀ b off, X2 = some ⟨b, off, none⟩ → b < w4.heap.size) := zh fun b off h => (hf2 b off h).2
    have HU1 := zh fun b off h => Nat.lt_of_lt_of_le (HU1.out b off h) hb.size
    clear hb hc2 hr2 hf2; obtain ⟨⟨c0, c1, c2, c3, c4, _⟩, ⟨r0, r1, r2, r3, r4, _⟩, ⟨f0, f1, f2, f3, f4⟩, _⟩ := HT.out; obtain ⟨b0, b1, b2, b3, b4⟩ := HSB.out; dsimp only; refine hK.out _ _ trivial (fun _ => ?_); (try simp only [Act.put, zq1, zq2, zq3]); refine zqR [9] ?_
    refine zqN fun K hK => ?_
    go_simp
    skip
    refine hK.out _ _ trivial (fun _ => ?_); try simp only [Act.put, zq1, zq2, zq3]
    have hHeld : True := trivial
    refine zqT 10 ?_ ?_ ?_; rotate_left
    · intro w' hSw; go_simp; try with_reducible rfl
    (try simp only [Act.put, zq1, zq2, zq3]); clear hHeld; refine zqR [11] ?_
    refine zqN fun K hK => ?_
    go_simp
    skip
    refine hK.out _ _ trivial (fun _ => ?_); try simp only [Act.put, zq1, zq2, zq3]
    refine wpAnyH_done (by kernel_rfl) ?_ _
    have hS1 := HS1.out
    have hS2 := HS2.out
    have hB5 := HT.out.2.2.2
    go_wp2
    refine bodyPost_ret (v := RV o f ep X1 rs.length k1 X2 ws.length k2) (by simp [results, Tryz.results55, go_sem, RV, r0, r1, r2, r3, r4]) rfl ?_
    have p1 : ∀ b off, X1 = some ⟨b, off, none⟩ → b ≠ w.heap.size := fun b off h => (HF1.out b off h).2.1
    have p2 : ∀ b off, X2 = some ⟨b, off, none⟩ → b ≠ w.heap.size := fun b off h => (HF2.out b off h).2.1
    have q1 : ∀ b off, X1 = some ⟨b, off, none⟩ → b ≠ w.heap.size + 1 := fun b off h => (HF1.out b off h).2.2
    have q2 : ∀ b off, X2 = some ⟨b, off, none⟩ → b ≠ w.heap.size + 1 := fun b off h => (HF2.out b off h).2.2
    exact ⟨⟨X1, k1, X2, k2, sreads_set5 (sreads_set (sreads_set hS1 p1) p1) q1, sreads_set5 (sreads_set (sreads_set hS2 p2) p2) q2, HL1.out, HL2.out, fun b off h => ⟨(HF1.out b off h).1, by simpa [World.setCell] using HU1.out b off h⟩, fun b off h => ⟨(HF2.out b off h).1, by simpa [World.setCell] using HU2.out b off h⟩, rfl⟩, set5 ((hB5.setCell (p := ⟨w.heap.size, 3, none⟩) zl _).setCell (p := ⟨w.heap.size, 4, none⟩) zl _) (by omega)⟩
   refine zqN fun K hK => ?_
   go_simp; clear c0 c1 c2 c3 c4 r0 r1 r2 r3 r4 f0 f1 f2 f3 f4 b0 b1 b2 b3 b4
   have hpc := one_piece w1 w1.heap.size 25 rfl (rfl : ws.length = ws.length) (HBB.out.below HT.out.2.2.2 zl) HNB.out
   have hal := al w1 (.cells #[.slice B ws.length d] 25)
   have hT := HT.out.more hal
   have hSB := HSB.out.below hal HT.out.1.2.2.2.2.2
   have hP1 := HP1.out.below hal zl
   obtain ⟨G2, hG2⟩ : ∃ n, w1.heap.size = n := ⟨_, rfl⟩
   generalize w1.alloc (.cells #[.slice B ws.length d] 25) = w2 at hpc hal hT hSB hP1 ⊢
   rw [hG2] at hpc ⊢; have HT := zh hT; have HSB := zh hSB; have HP2 := zh hpc; have HP1 := zh hP1; clear hpc hal hT hSB hG2 hP1; obtain ⟨⟨c0, c1, c2, c3, c4, _⟩, ⟨r0, r1, r2, r3, r4, _⟩, ⟨f0, f1, f2, f3, f4⟩, _⟩ := HT.out; obtain ⟨b0, b1, b2, b3, b4⟩ := HSB.out; refine hK.out _ _ trivial (fun _ => ?_); (try simp only [Act.put, zq1, zq2, zq3]); refine zqR [3] ?_
   refine zqN fun K hK => ?_
   go_simp
   go_at_call 109
   with_reducible refine (copy_at8 G1 rs w2 HP1.out (by omega)).mono ?_
   intro e w3 hh
   obtain ⟨hh1, hb⟩ := hh
   unfold LstU at hh1
   obtain ⟨X1, k1, hc1, hr1, hf1, he1⟩ := hh1
   subst he1
   have HTO := HT
   clear c0 c1 c2 c3 c4 r0 r1 r2 r3 r4 f0 f1 f2 f3 f4 b0 b1 b2 b3 b4
   have HF1 : Hid (∀ b off, X1 = some ⟨b, off, none⟩ → w.heap.size ≤ b ∧ b ≠ w.heap.size ∧ b ≠ w.heap.size + 1) := zh fun b off h => by
    have h1 := (hf1 b off h).1
    have h2 := HT.out.2.1.2.2.2.2.2
    exact ⟨by omega, by omega, by omega⟩
   have HT := zh (HT.out.more hb); have HSB := zh (HSB.out.below hb HTO.out.1.2.2.2.2.2); have HP2 := zh (HP2.out.below hb zl); have HS1 := zh hr1; have HL1 := zh hc1
   have HU1 : Hid (∀ b off, X1 = some ⟨b, off, none⟩ → b < w3.heap.size) := zh fun b off h => (hf1 b off h).2
   clear hb hc1 hr1 hf1; obtain ⟨⟨c0, c1, c2, c3, c4, _⟩, ⟨r0, r1, r2, r3, r4, _⟩, ⟨f0, f1, f2, f3, f4⟩, _⟩ := HT.out; obtain ⟨b0, b1, b2, b3, b4⟩ := HSB.out; dsimp only; refine hK.out _ _ trivial (fun _ => ?_); try simp only [Act.put, zq1, zq2, zq3]
   have hHeld : True := trivial
   refine zqT 8 ?_ ?_ ?_; rotate_left
   · intro w' hSw; go_simp; try with_reducible rfl
   (try simp only [Act.put, zq1, zq2, zq3]); clear hHeld; refine zqR [7] ?_
   refine zqN fun K hK => ?_
   go_simp
   go_at_call 109
   with_reducible refine (copy_at8 G2 ws w3 HP2.out (by omega)).mono ?_
   intro e w4 hh
   obtain ⟨hh1, hb⟩ := hh
   unfold LstU at hh1
   obtain ⟨X2, k2, hc2, hr2, hf2, he2⟩ := hh1
   subst he2
   have HTO := HT
   clear c0 c1 c2 c3 c4 r0 r1 r2 r3 r4 f0 f1 f2 f3 f4 b0 b1 b2 b3 b4
   have HF2 : Hid (∀ b off, X2 = some ⟨b, off, none⟩ → w.heap.size ≤ b ∧ b ≠ w.heap.size ∧ b ≠ w.heap.size + 1) := zh fun b off h => by
    have h1 := (hf2 b off h).1
    have h2 := HT.out.2.1.2.2.2.2.2
    exact ⟨by omega, by omega, by omega⟩
   have HT := zh (HT.out.more hb); have HSB := zh (HSB.out.below hb HTO.out.1.2.2.2.2.2); have HS1 := zh (HS1.out.below hb zl); have HS2 := zh hr2; have HL2 := zh hc2
   have HU2 : Hid (∀ b off, X2 = some ⟨b, off, none⟩ → b < w4.heap.size) := zh fun b off h => (hf2 b off h).2
   have HU1 := zh fun b off h => Nat.lt_of_lt_of_le (HU1.out b off h) hb.size
   clear hb hc2 hr2 hf2; obtain ⟨⟨c0, c1, c2, c3, c4, _⟩, ⟨r0, r1, r2, r3, r4, _⟩, ⟨f0, f1, f2, f3, f4⟩, _⟩ := HT.out; obtain ⟨b0, b1, b2, b3, b4⟩ := HSB.out; dsimp only; refine hK.out _ _ trivial (fun _ => ?_); (try simp only [Act.put, zq1, zq2, zq3]); refine zqR [9] ?_
   refine zqN fun K hK => ?_
   go_simp
   skip
   refine hK.out _ _ trivial (fun _ => ?_); try simp only [Act.put, zq1, zq2, zq3]
   have hHeld : True := trivial
   refine zqT 10 ?_ ?_ ?_; rotate_left
   · intro w' hSw; go_simp; try with_reducible rfl
   (try simp only [Act.put, zq1, zq2, zq3]); clear hHeld; refine zqR [11] ?_
   refine zqN fun K hK => ?_
   go_simp
   skip
   refine hK.out _ _ trivial (fun _ => ?_); try simp only [Act.put, zq1, zq2, zq3]
   refine wpAnyH_done (by kernel_rfl) ?_ _
   have hS1 := HS1.out
   have hS2 := HS2.out
   have hB5 := HT.out.2.2.2
   go_wp2
   refine bodyPost_ret (v := RV o f ep X1 rs.length k1 X2 ws.length k2) (by simp [results, Tryz.results55, go_sem, RV, r0, r1, r2, r3, r4]) rfl ?_
   have p1 : ∀ b off, X1 = some ⟨b, off, none⟩ → b ≠ w.heap.size := fun b off h => (HF1.out b off h).2.1
   have p2 : ∀ b off, X2 = some ⟨b, off, none⟩ → b ≠ w.heap.size := fun b off h => (HF2.out b off h).2.1
   have q1 : ∀ b off, X1 = some ⟨b, off, none⟩ → b ≠ w.heap.size + 1 := fun b off h => (HF1.out b off h).2.2
   have q2 : ∀ b off, X2 = some ⟨b, off, none⟩ → b ≠ w.heap.size + 1 := fun b off h => (HF2.out b off h).2.2
   exact ⟨⟨X1, k1, X2, k2, sreads_set5 (sreads_set (sreads_set hS1 p1) p1) q1, sreads_set5 (sreads_set (sreads_set hS2 p2) p2) q2, HL1.out, HL2.out, fun b off h => ⟨(HF1.out b off h).1, by simpa [World.setCell] using HU1.out b off h⟩, fun b off h => ⟨(HF2.out b off h).1, by simpa [World.setCell] using HU2.out b off h⟩, rfl⟩, set5 ((hB5.setCell (p := ⟨w.heap.size, 3, none⟩) zl _).setCell (p := ⟨w.heap.size, 4, none⟩) zl _) (by omega)⟩
  refine zqN fun K hK => ?_
  go_simp; clear c0 c1 c2 c3 c4 r0 r1 r2 r3 r4 f0 f1 f2 f3 f4 b0 b1 b2 b3 b4
  have hpc := one_piece wd wd.heap.size 25 rfl (rfl : ws.length = ws.length) (HBB.out.below HT.out.2.2.2 zl) HNB.out
  have hal := al wd (.cells #[.slice B ws.length d] 25)
  have hT := HT.out.more hal
  have hSB := HSB.out.below hal HT.out.1.2.2.2.2.2
  obtain ⟨G2, hG2⟩ : ∃ n, wd.heap.size = n := ⟨_, rfl⟩
  generalize wd.alloc (.cells #[.slice B ws.length d] 25) = w1 at hpc hal hT hSB ⊢
  rw [hG2] at hpc ⊢; have HT := zh hT; have HSB := zh hSB; have HP2 := zh hpc; clear hpc hal hT hSB hG2; obtain ⟨⟨c0, c1, c2, c3, c4, _⟩, ⟨r0, r1, r2, r3, r4, _⟩, ⟨f0, f1, f2, f3, f4⟩, _⟩ := HT.out; obtain ⟨b0, b1, b2, b3, b4⟩ := HSB.out; refine hK.out _ _ trivial (fun _ => ?_); (try simp only [Act.put, zq1, zq2, zq3]); refine zqR [2] ?_
  refine zqN fun K hK => ?_
  go_simp; clear c0 c1 c2 c3 c4 r0 r1 r2 r3 r4 f0 f1 f2 f3 f4 b0 b1 b2 b3 b4
  have hpc := one_piece w1 w1.heap.size 25 rfl (rfl : rs.length = rs.length) (HA.out.below HT.out.2.2.2 zl) HNA.out
  have hal := al w1 (.cells #[.slice A rs.length c] 25)
  have hT := HT.out.more hal
  have hSB := HSB.out.below hal HT.out.1.2.2.2.2.2
  have hP2 := HP2.out.below hal zl
  obtain ⟨G1, hG1⟩ : ∃ n, w1.heap.size = n := ⟨_, rfl⟩
  generalize w1.alloc (.cells #[.slice A rs.length c] 25) = w2 at hpc hal hT hSB hP2 ⊢
  rw [hG1] at hpc ⊢; have HT := zh hT; have HSB := zh hSB; have HP1 := zh hpc; have HP2 := zh hP2; clear hpc hal hT hSB hG1 hP2; obtain ⟨⟨c0, c1, c2, c3, c4, _⟩, ⟨r0, r1, r2, r3, r4, _⟩, ⟨f0, f1, f2, f3, f4⟩, _⟩ := HT.out; obtain ⟨b0, b1, b2, b3, b4⟩ := HSB.out; refine hK.out _ _ trivial (fun _ => ?_); (try simp only [Act.put, zq1, zq2, zq3]); refine zqR [3] ?_
  refine zqN fun K hK => ?_
  go_simp
  go_at_call 109
  with_reducible refine (copy_at8 G1 rs w2 HP1.out (by omega)).mono ?_
  intro e w3 hh
  obtain ⟨hh1, hb⟩ := hh
  unfold LstU at hh1
  obtain ⟨X1, k1, hc1, hr1, hf1, he1⟩ := hh1
  subst he1
  have HTO := HT
  clear c0 c1 c2 c3 c4 r0 r1 r2 r3 r4 f0 f1 f2 f3 f4 b0 b1 b2 b3 b4
  have HF1 : Hid (∀ b off, X1 = some ⟨b, off, none⟩ → w.heap.size ≤ b ∧ b ≠ w.heap.size ∧ b ≠ w.heap.size + 1) := zh fun b off h => by
   have h1 := (hf1 b off h).1
   have h2 := HT.out.2.1.2.2.2.2.2
   exact ⟨by omega, by omega, by omega⟩
  have HT := zh (HT.out.more hb); have HSB := zh (HSB.out.below hb HTO.out.1.2.2.2.2.2); have HP2 := zh (HP2.out.below hb zl); have HS1 := zh hr1; have HL1 := zh hc1
  have HU1 : Hid (∀ b off, X1 = some ⟨b, off, none⟩ → b < w3.heap.size) := zh fun b off h => (hf1 b off h).2
  clear hb hc1 hr1 hf1; obtain ⟨⟨c0, c1, c2, c3, c4, _⟩, ⟨r0, r1, r2, r3, r4, _⟩, ⟨f0, f1, f2, f3, f4⟩, _⟩ := HT.out; obtain ⟨b0, b1, b2, b3, b4⟩ := HSB.out; dsimp only; refine hK.out _ _ trivial (fun _ => ?_); try simp only [Act.put, zq1, zq2, zq3]
  have hHeld : True := trivial
  refine zqT 8 ?_ ?_ ?_; rotate_left
  · intro w' hSw; go_simp; try with_reducible rfl
  (try simp only [Act.put, zq1, zq2, zq3]); clear hHeld; refine zqR [7] ?_
  refine zqN fun K hK => ?_
  go_simp
  go_at_call 109
  with_reducible refine (copy_at8 G2 ws w3 HP2.out (by omega)).mono ?_
  intro e w4 hh
  obtain ⟨hh1, hb⟩ := hh
  unfold LstU at hh1
  obtain ⟨X2, k2, hc2, hr2, hf2, he2⟩ := hh1
  subst he2
  have HTO := HT
  clear c0 c1 c2 c3 c4 r0 r1 r2 r3 r4 f0 f1 f2 f3 f4 b0 b1 b2 b3 b4
  have HF2 : Hid (∀ b off, X2 = some ⟨b, off, none⟩ → w.heap.size ≤ b ∧ b ≠ w.heap.size ∧ b ≠ w.heap.size + 1) := zh fun b off h => by
   have h1 := (hf2 b off h).1
   have h2 := HT.out.2.1.2.2.2.2.2
   exact ⟨by omega, by omega, by omega⟩
  have HT := zh (HT.out.more hb); have HSB := zh (HSB.out.below hb HTO.out.1.2.2.2.2.2); have HS1 := zh (HS1.out.below hb zl); have HS2 := zh hr2; have HL2 := zh hc2
  have HU2 : Hid (∀ b off, X2 = some ⟨b, off, none⟩ → b < w4.heap.size) := zh fun b off h => (hf2 b off h).2
  have HU1 := zh fun b off h => Nat.lt_of_lt_of_le (HU1.out b off h) hb.size
  clear hb hc2 hr2 hf2; obtain ⟨⟨c0, c1, c2, c3, c4, _⟩, ⟨r0, r1, r2, r3, r4, _⟩, ⟨f0, f1, f2, f3, f4⟩, _⟩ := HT.out; obtain ⟨b0, b1, b2, b3, b4⟩ := HSB.out; dsimp only; refine hK.out _ _ trivial (fun _ => ?_); (try simp only [Act.put, zq1, zq2, zq3]); refine zqR [9] ?_
  refine zqN fun K hK => ?_
  go_simp
  skip
  refine hK.out _ _ trivial (fun _ => ?_); try simp only [Act.put, zq1, zq2, zq3]
  have hHeld : True := trivial
  refine zqT 10 ?_ ?_ ?_; rotate_left
  · intro w' hSw; go_simp; try with_reducible rfl
  (try simp only [Act.put, zq1, zq2, zq3]); clear hHeld; refine zqR [11] ?_
  refine zqN fun K hK => ?_
  go_simp
  skip
  refine hK.out _ _ trivial (fun _ => ?_); try simp only [Act.put, zq1, zq2, zq3]
  refine wpAnyH_done (by kernel_rfl) ?_ _
  have hS1 := HS1.out
  have hS2 := HS2.out
  have hB5 := HT.out.2.2.2
  go_wp2
  refine bodyPost_ret (v := RV o f ep X1 rs.length k1 X2 ws.length k2) (by simp [results, Tryz.results55, go_sem, RV, r0, r1, r2, r3, r4]) rfl ?_
  have p1 : ∀ b off, X1 = some ⟨b, off, none⟩ → b ≠ w.heap.size := fun b off h => (HF1.out b off h).2.1
  have p2 : ∀ b off, X2 = some ⟨b, off, none⟩ → b ≠ w.heap.size := fun b off h => (HF2.out b off h).2.1
  have q1 : ∀ b off, X1 = some ⟨b, off, none⟩ → b ≠ w.heap.size + 1 := fun b off h => (HF1.out b off h).2.2
  have q2 : ∀ b off, X2 = some ⟨b, off, none⟩ → b ≠ w.heap.size + 1 := fun b off h => (HF2.out b off h).2.2
  exact ⟨⟨X1, k1, X2, k2, sreads_set5 (sreads_set (sreads_set hS1 p1) p1) q1, sreads_set5 (sreads_set (sreads_set hS2 p2) p2) q2, HL1.out, HL2.out, fun b off h => ⟨(HF1.out b off h).1, by simpa [World.setCell] using HU1.out b off h⟩, fun b off h => ⟨(HF2.out b off h).1, by simpa [World.setCell] using HU2.out b off h⟩, rfl⟩, set5 ((hB5.setCell (p := ⟨w.heap.size, 3, none⟩) zl _).setCell (p := ⟨w.heap.size, 4, none⟩) zl _) (by omega)⟩
 refine zqN fun K hK => ?_
 go_simp
 skip
 refine hK.out _ _ trivial (fun _ => ?_); (try simp only [Act.put, zq1, zq2, zq3]); refine zqR [1, 6] ?_; refine zqC (fun K hK => ?_) ?_
 ·
  go_simp
  skip
  refine hK.out _ _ trivial (fun _ => ?_); (try simp only [Act.put, zq1, zq2, zq3]); refine zqR [2, 6] ?_; refine zqC (fun K hK => ?_) ?_
  ·
   go_simp; clear c0 c1 c2 c3 c4 r0 r1 r2 r3 r4 f0 f1 f2 f3 f4 b0 b1 b2 b3 b4
   have hpc := one_piece wd wd.heap.size 25 rfl (rfl : rs.length = rs.length) (HA.out.below HT.out.2.2.2 zl) HNA.out
   have hal := al wd (.cells #[.slice A rs.length c] 25)
   have hT := HT.out.more hal
   have hSB := HSB.out.below hal HT.out.1.2.2.2.2.2
   obtain ⟨G1, hG1⟩ : ∃ n, wd.heap.size = n := ⟨_, rfl⟩
   generalize wd.alloc (.cells #[.slice A rs.length c] 25) = w1 at hpc hal hT hSB ⊢
   rw [hG1] at hpc ⊢; have HT := zh hT; have HSB := zh hSB; have HP1 := zh hpc; clear hpc hal hT hSB hG1; obtain ⟨⟨c0, c1, c2, c3, c4, _⟩, ⟨r0, r1, r2, r3, r4, _⟩, ⟨f0, f1, f2, f3, f4⟩, _⟩ := HT.out; obtain ⟨b0, b1, b2, b3, b4⟩ := HSB.out; refine hK.out _ _ trivial (fun _ => ?_); (try simp only [Act.put, zq1, zq2, zq3]); refine zqR [3, 6] ?_; refine zqC (fun K hK => ?_) ?_
   ·
    go_simp
    go_at_call 109
    with_reducible refine (copy_at8 G1 rs w1 HP1.out (by omega)).mono ?_
    intro e w2 hh
    obtain ⟨hh1, hb⟩ := hh
    unfold LstU at hh1
    obtain ⟨X1, k1, hc1, hr1, hf1, he1⟩ := hh1
    subst he1
    have HTO := HT
    clear c0 c1 c2 c3 c4 r0 r1 r2 r3 r4 f0 f1 f2 f3 f4 b0 b1 b2 b3 b4
    have HF1 : Hid (∀ b off, X1 = some ⟨b, off, none⟩ → w.heap.size ≤ b ∧ b ≠ w.heap.size ∧ b ≠ w.heap.size + 1) := zh fun b off h => by
     have h1 := (hf1 b off h).1
     have h2 := HT.out.2.1.2.2.2.2.2
     exact ⟨by omega, by omega, by omega⟩
    have HT := zh (HT.out.more hb); have HSB := zh (HSB.out.below hb HTO.out.1.2.2.2.2.2); have HS1 := zh hr1; have HL1 := zh hc1
    have HU1 : Hid (∀ b off, X1 = some ⟨b, off, none⟩ → b < w2.heap.size) := zh fun b off h => (hf1 b off h).2
    clear hb hc1 hr1 hf1; obtain ⟨⟨c0, c1, c2, c3, c4, _⟩, ⟨r0, r1, r2, r3, r4, _⟩, ⟨f0, f1, f2, f3, f4⟩, _⟩ := HT.out; obtain ⟨b0, b1, b2, b3, b4⟩ := HSB.out; dsimp only; refine hK.out _ _ trivial (fun _ => ?_); try simp only [Act.put, zq1, zq2, zq3]
    have hHeld : True := trivial
    refine zqT 8 ?_ ?_ ?_; rotate_left
    · intro w' hSw; go_simp; try with_reducible rfl
    (try simp only [Act.put, zq1, zq2, zq3]); clear hHeld; refine zqR [6] ?_
    refine zqN fun K hK => ?_
    go_simp; clear c0 c1 c2 c3 c4 r0 r1 r2 r3 r4 f0 f1 f2 f3 f4 b0 b1 b2 b3 b4
    have hpc := one_piece w2 w2.heap.size 25 rfl (rfl : ws.length = ws.length) (HBB.out.below HT.out.2.2.2 zl) HNB.out
    have hal := al w2 (.cells #[.slice B ws.length d] 25)
    have hT := HT.out.more hal
    have hSB := HSB.out.below hal HT.out.1.2.2.2.2.2
    have hS1 := HS1.out.below hal zl
    have hU1 := fun b off h => Nat.lt_of_lt_of_le (HU1.out b off h) hal.size
    obtain ⟨G2, hG2⟩ : ∃ n, w2.heap.size = n := ⟨_, rfl⟩
    generalize w2.alloc (.cells #[.slice B ws.length d] 25) = w3 at hpc hal hT hSB hS1 hU1 ⊢
    rw [hG2] at hpc ⊢; have HT := zh hT; have HSB := zh hSB; have HP2 := zh hpc; have HS1 := zh hS1; have HU1 := zh hU1; clear hpc hal hT hSB hG2 hS1 hU1; obtain ⟨⟨c0, c1, c2, c3, c4, _⟩, ⟨r0, r1, r2, r3, r4, _⟩, ⟨f0, f1, f2, f3, f4⟩, _⟩ := HT.out; obtain ⟨b0, b1, b2, b3, b4⟩ := HSB.out; refine hK.out _ _ trivial (fun _ => ?_); (try simp only [Act.put, zq1, zq2, zq3]); refine zqR [7] ?_
    refine zqN fun K hK => ?_
    go_simp
    go_at_call 109
    with_reducible refine (copy_at8 G2 ws w3 HP2.out (by omega)).mono ?_
    intro e w4 hh
    obtain ⟨hh1, hb⟩ := hh
    unfold LstU at hh1
    obtain ⟨X2, k2, hc2, hr2, hf2, he2⟩ := hh1
    subst he2
    have HTO := HT
    clear c0 c1 c2 c3 c4 r0 r1 r2 r3 r4 f0 f1 f2 f3 f4 b0 b1 b2 b3 b4
    have HF2 : Hid (∀ b off, X2 = some ⟨b, off, none⟩ → w.heap.size ≤ b ∧ b ≠ w.heap.size ∧ b ≠ w.heap.size + 1) := zh fun b off h => by
     have h1 := (hf2 b off h).1
     have h2 := HT.out.2.1.2.2.2.2.2
     exact ⟨by omega, by omega, by omega⟩
    have HT := zh (HT.out.more hb); have HSB := zh (HSB.out.below hb HTO.out.1.2.2.2.2.2); have HS1 := zh (HS1.out.below hb zl); have HS2 := zh hr2; have HL2 := zh hc2
    have HU2 : Hid (∀ b off, X2 = some ⟨b, off, none⟩ → b < w4.heap.size) := zh fun b off h => (hf2 b off h).2
    have HU1 := zh fun b off h => Nat.lt_of_lt_of_le (HU1.out b off h) hb.size
    clear hb hc2 hr2 hf2; obtain ⟨⟨c0, c1, c2, c3, c4, _⟩, ⟨r0, r1, r2, r3, r4, _⟩, ⟨f0, f1, f2, f3, f4⟩, _⟩ := HT.out; obtain ⟨b0, b1, b2, b3, b4⟩ := HSB.out; dsimp only; refine hK.out _ _ trivial (fun _ => ?_); (try simp only [Act.put, zq1, zq2, zq3]); refine zqR [9] ?_
    refine zqN fun K hK => ?_
    go_simp
    skip
    refine hK.out _ _ trivial (fun _ => ?_); try simp only [Act.put, zq1, zq2, zq3]
    have hHeld : True := trivial
    refine zqT 10 ?_ ?_ ?_; rotate_left
    · intro w' hSw; go_simp; try with_reducible rfl
    (try simp only [Act.put, zq1, zq2, zq3]); clear hHeld; refine zqR [11] ?_
    refine zqN fun K hK => ?_
    go_simp
    skip
    refine hK.out _ _ trivial (fun _ => ?_); try simp only [Act.put, zq1, zq2, zq3]
    refine wpAnyH_done (by kernel_rfl) ?_ _
    have hS1 := HS1.out
    have hS2 := HS2.out
    have hB5 := HT.out.2.2.2
    go_wp2
    refine bodyPost_ret (v := RV o f ep X1 rs.length k1 X2 ws.length k2) (by simp [results, Tryz.results55, go_sem, RV, r0, r1, r2, r3, r4]) rfl ?_
    have p1 : ∀ b off, X1 = some ⟨b, off, none⟩ → b ≠ w.heap.size := fun b off h => (HF1.out b off h).2.1
    have p2 : ∀ b off, X2 = some ⟨b, off, none⟩ → b ≠ w.heap.size := fun b off h => (HF2.out b off h).2.1
    have q1 : ∀ b off, X1 = some ⟨b, off, none⟩ → b ≠ w.heap.size + 1 := fun b off h => (HF1.out b off h).2.2
    have q2 : ∀ b off, X2 = some ⟨b, off, none⟩ → b ≠ w.heap.size + 1 := fun b off h => (HF2.out b off h).2.2
    exact ⟨⟨X1, k1, X2, k2, sreads_set5 (sreads_set (sreads_set hS1 p1) p1) q1, sreads_set5 (sreads_set (sreads_set hS2 p2) p2) q2, HL1.out, HL2.out, fun b off h => ⟨(HF1.out b off h).1, by simpa [World.setCell] using HU1.out b off h⟩, fun b off h => ⟨(HF2.out b off h).1, by simpa [World.setCell] using HU2.out b off h⟩, rfl⟩, set5 ((hB5.setCell (p := ⟨w.heap.size, 3, none⟩) zl _).setCell (p := ⟨w.heap.size, 4, none⟩) zl _) (by omega)⟩
   refine zqN fun K hK => ?_
   go_simp; clear c0 c1 c2 c3 c4 r0 r1 r2 r3 r4 f0 f1 f2 f3 f4 b0 b1 b2 b3 b4
   have hpc := one_piece w1 w1.heap.size 25 rfl (rfl : ws.length = ws.length) (HBB.out.below HT.out.2.2.2 zl) HNB.out
   have hal := al w1 (.cells #[.slice B ws.length d] 25)
   have hT := HT.out.more hal
   have hSB := HSB.out.below hal HT.out.1.2.2.2.2.2
   have hP1 := HP1.out.below hal zl
   obtain ⟨G2, hG2⟩ : ∃ n, w1.heap.size = n := ⟨_, rfl⟩
   generalize w1.alloc (.cells #[.slice B ws.length d] 25) = w2 at hpc hal hT hSB hP1 ⊢
   rw [hG2] at hpc ⊢; have HT := zh hT; have HSB := zh hSB; have HP2 := zh hpc; have HP1 := zh hP1; clear hpc hal hT hSB hG2 hP1; obtain ⟨⟨c0, c1, c2, c3, c4, _⟩, ⟨r0, r1, r2, r3, r4, _⟩, ⟨f0, f1, f2, f3, f4⟩, _⟩ := HT.out; obtain ⟨b0, b1, b2, b3, b4⟩ := HSB.out; refine hK.out _ _ trivial (fun _ => ?_); (try simp only [Act.put, zq1, zq2, zq3]); refine zqR [3] ?_
   refine zqN fun K hK => ?_
   go_simp
   go_at_call 109
   with_reducible refine (copy_at8 G1 rs w2 HP1.out (by omega)).mono ?_
   intro e w3 hh
   obtain ⟨hh1, hb⟩ := hh
   unfold LstU at hh1
   obtain ⟨X1, k1, hc1, hr1, hf1, he1⟩ := hh1
   subst he1
   have HTO := HT
   clear c0 c1 c2 c3 c4 r0 r1 r2 r3 r4 f0 f1 f2 f3 f4 b0 b1 b2 b3 b4
   have HF1 : Hid (∀ b off, X1 = some ⟨b, off, none⟩ → w.heap.size ≤ b ∧ b ≠ w.heap.size ∧ b ≠ w.heap.size + 1) := zh fun b off h => by
    have h1 := (hf1 b off h).1
    have h2 := HT.out.2.1.2.2.2.2.2
    exact ⟨by omega, by omega, by omega⟩
   have HT := zh (HT.out.more hb); have HSB := zh (HSB.out.below hb HTO.out.1.2.2.2.2.2); have HP2 := zh (HP2.out.below hb zl); have HS1 := zh hr1; have HL1 := zh hc1
   have HU1 : Hid (∀ b off, X1 = some ⟨b, off, none⟩ → b < w3.heap.size) := zh fun b off h => (hf1 b off h).2
   clear hb hc1 hr1 hf1; obtain ⟨⟨c0, c1, c2, c3, c4, _⟩, ⟨r0, r1, r2, r3, r4, _⟩, ⟨f0, f1, f2, f3, f4⟩, _⟩ := HT.out; obtain ⟨b0, b1, b2, b3, b4⟩ := HSB.out; dsimp only; refine hK.out _ _ trivial (fun _ => ?_); try simp only [Act.put, zq1, zq2, zq3]
   have hHeld : True := trivial
   refine zqT 8 ?_ ?_ ?_; rotate_left
   · intro w' hSw; go_simp; try with_reducible rfl
   (try simp only [Act.put, zq1, zq2, zq3]); clear hHeld; refine zqR [7] ?_
   refine zqN fun K hK => ?_
   go_simp
   go_at_call 109
   with_reducible refine (copy_at8 G2 ws w3 HP2.out (by omega)).mono ?_
   intro e w4 hh
   obtain ⟨hh1, hb⟩ := hh
   unfold LstU at hh1
   obtain ⟨X2, k2, hc2, hr2, hf2, he2⟩ := hh1
   subst he2
   have HTO := HT
   clear c0 c1 c2 c3 c4 r0 r1 r2 r3 r4 f0 f1 f2 f3 f4 b0 b1 b2 b3 b4
   have HF2 : Hid (∀ b off, X2 = some ⟨b, off, none⟩ → w.heap.size ≤ b ∧ b ≠ w.heap.size ∧ b ≠ w.heap.size + 1) := zh fun b off h => by
    have h1 := (hf2 b off h).1
    have h2 := HT.out.2.1.2.2.2.2.2
    exact ⟨by omega, by omega, by omega⟩
   have HT := zh (HT.out.more hb); have HSB := zh (HSB.out.below hb HTO.out.1.2.2.2.2.2); have HS1 := zh (HS1.out.below hb zl); have HS2 := zh hr2; have HL2 := zh hc2
   have HU2 : Hid (∀ b off, X2 = some ⟨b, off, none⟩ → b < w4.heap.size) := zh fun b off h => (hf2 b off h).2
   have HU1 := zh fun b off h => Nat.lt_of_lt_of_le (HU1.out b off h) hb.size
   clear hb hc2 hr2 hf2; obtain ⟨⟨c0, c1, c2, c3, c4, _⟩, ⟨r0, r1, r2, r3, r4, _⟩, ⟨f0, f1, f2, f3, f4⟩, _⟩ := HT.out; obtain ⟨b0, b1, b2, b3, b4⟩ := HSB.out; dsimp only; refine hK.out _ _ trivial (fun _ => ?_); (try simp only [Act.put, zq1, zq2, zq3]); refine zqR [9] ?_
   refine zqN fun K hK => ?_
   go_simp
   skip
   refine hK.out _ _ trivial (fun _ => ?_); try simp only [Act.put, zq1, zq2, zq3]
   have hHeld : True := trivial
   refine zqT 10 ?_ ?_ ?_; rotate_left
   · intro w' hSw; go_simp; try with_reducible rfl
   (try simp only [Act.put, zq1, zq2, zq3]); clear hHeld; refine zqR [11] ?_
   refine zqN fun K hK => ?_
   go_simp
   skip
   refine hK.out _ _ trivial (fun _ => ?_); try simp only [Act.put, zq1, zq2, zq3]
   refine wpAnyH_done (by kernel_rfl) ?_ _
   have hS1 := HS1.out
   have hS2 := HS2.out
   have hB5 := HT.out.2.2.2
   go_wp2
   refine bodyPost_ret (v := RV o f ep X1 rs.length k1 X2 ws.length k2) (by simp [results, Tryz.results55, go_sem, RV, r0, r1, r2, r3, r4]) rfl ?_
   have p1 : ∀ b off, X1 = some ⟨b, off, none⟩ → b ≠ w.heap.size := fun b off h => (HF1.out b off h).2.1
   have p2 : ∀ b off, X2 = some ⟨b, off, none⟩ → b ≠ w.heap.size := fun b off h => (HF2.out b off h).2.1
   have q1 : ∀ b off, X1 = some ⟨b, off, none⟩ → b ≠ w.heap.size + 1 := fun b off h => (HF1.out b off h).2.2
   have q2 : ∀ b off, X2 = some ⟨b, off, none⟩ → b ≠ w.heap.size + 1 := fun b off h => (HF2.out b off h).2.2
   exact ⟨⟨X1, k1, X2, k2, sreads_set5 (sreads_set (sreads_set hS1 p1) p1) q1, sreads_set5 (sreads_set (sreads_set hS2 p2) p2) q2, HL1.out, HL2.out, fun b off h => ⟨(HF1.out b off h).1, by simpa [World.setCell] using HU1.out b off h⟩, fun b off h => ⟨(HF2.out b off h).1, by simpa [World.setCell] using HU2.out b off h⟩, rfl⟩, set5 ((hB5.setCell (p := ⟨w.heap.size, 3, none⟩) zl _).setCell (p := ⟨w.heap.size, 4, none⟩) zl _) (by omega)⟩
  refine zqN fun K hK => ?_
  go_simp; clear c0 c1 c2 c3 c4 r0 r1 r2 r3 r4 f0 f1 f2 f3 f4 b0 b1 b2 b3 b4
  have hpc := one_piece wd wd.heap.size 25 rfl (rfl : ws.length = ws.length) (HBB.out.below HT.out.2.2.2 zl) HNB.out
  have hal := al wd (.cells #[.slice B ws.length d] 25)
  have hT := HT.out.more hal
  have hSB := HSB.out.below hal HT.out.1.2.2.2.2.2
  obtain ⟨G2, hG2⟩ : ∃ n, wd.heap.size = n := ⟨_, rfl⟩
  generalize wd.alloc (.cells #[.slice B ws.length d] 25) = w1 at hpc hal hT hSB ⊢
  rw [hG2] at hpc ⊢; have HT := zh hT; have HSB := zh hSB; have HP2 := zh hpc; clear hpc hal hT hSB hG2; obtain ⟨⟨c0, c1, c2, c3, c4, _⟩, ⟨r0, r1, r2, r3, r4, _⟩, ⟨f0, f1, f2, f3, f4⟩, _⟩ := HT.out; obtain ⟨b0, b1, b2, b3, b4⟩ := HSB.out; refine hK.out _ _ trivial (fun _ => ?_); (try simp only [Act.put, zq1, zq2, zq3]); refine zqR [2] ?_
  refine zqN fun K hK => ?_
  go_simp; clear c0 c1 c2 c3 c4 r0 r1 r2 r3 r4 f0 f1 f2 f3 f4 b0 b1 b2 b3 b4
  have hpc := one_piece w1 w1.heap.size 25 rfl (rfl : rs.length = rs.length) (HA.out.below HT.out.2.2.2 zl) HNA.out
  have hal := al w1 (.cells #[.slice A rs.length c] 25)
  have hT := HT.out.more hal
  have hSB := HSB.out.below hal HT.out.1.2.2.2.2.2
  have hP2 := HP2.out.below hal zl
  obtain ⟨G1, hG1⟩ : ∃ n, w1.heap.size = n := ⟨_, rfl⟩
  generalize w1.alloc (.cells #[.slice A rs.length c] 25) = w2 at hpc hal hT hSB hP2 ⊢
  rw [hG1] at hpc ⊢; have HT := zh hT; have HSB := zh hSB; have HP1 := zh hpc; have HP2 := zh hP2; clear hpc hal hT hSB hG1 hP2; obtain ⟨⟨c0, c1, c2, c3, c4, _⟩, ⟨r0, r1, r2, r3, r4, _⟩, ⟨f0, f1, f2, f3, f4⟩, _⟩ := HT.out; obtain ⟨b0, b1, b2, b3, b4⟩ := HSB.out; refine hK.out _ _ trivial (fun _ => ?_); (try simp only [Act.put, zq1, zq2, zq3]); refine zqR [3] ?_
  refine zqN fun K hK => ?_
  go_simp
  go_at_call 109
  with_reducible refine (copy_at8 G1 rs w2 HP1.out (by omega)).mono ?_
  intro e w3 hh
  obtain ⟨hh1, hb⟩ := hh
  unfold LstU at hh1
  obtain ⟨X1, k1, hc1, hr1, hf1, he1⟩ := hh1
  subst he1
  have HTO := HT
  clear c0 c1 c2 c3 c4 r0 r1 r2 r3 r4 f0 f1 f2 f3 f4 b0 b1 b2 b3 b4
  have HF1 : Hid (∀ b off, X1 = some ⟨b, off, none⟩ → w.heap.size ≤ b ∧ b ≠ w.heap.size ∧ b ≠ w.heap.size + 1) := zh fun b off h => by
   have h1 := (hf1 b off h).1
   have h2 := HT.out.2.1.2.2.2.2.2
   exact ⟨by omega, by omega, by omega⟩
  have HT := zh (HT.out.more hb); have HSB := zh (HSB.out.below hb HTO.out.1.2.2.2.2.2); have HP2 := zh (HP2.out.below hb zl); have HS1 := zh hr1; have HL1 := zh hc1
  have HU1 : Hid (∀ b off, X1 = some ⟨b, off, none⟩ → b < w3.heap.size) := zh fun b off h => (hf1 b off h).2
  clear hb hc1 hr1 hf1; obtain ⟨⟨c0, c1, c2, c3, c4, _⟩, ⟨r0, r1, r2, r3, r4, _⟩, ⟨f0, f1, f2, f3, f4⟩, _⟩ := HT.out; obtain ⟨b0, b1, b2, b3, b4⟩ := HSB.out; dsimp only; refine hK.out _ _ trivial (fun _ => ?_); try simp only [Act.put, zq1, zq2, zq3]
  have hHeld : True := trivial
  refine zqT 8 ?_ ?_ ?_; rotate_left
  · intro w' hSw; go_simp; try with_reducible rfl
  (try simp only [Act.put, zq1, zq2, zq3]); clear hHeld; refine zqR [7] ?_
  refine zqN fun K hK => ?_
  go_simp
  go_at_call 109
  with_reducible refine (copy_at8 G2 ws w3 HP2.out (by omega)).mono ?_
  intro e w4 hh
  obtain ⟨hh1, hb⟩ := hh
  unfold LstU at hh1
  obtain ⟨X2, k2, hc2, hr2, hf2, he2⟩ := hh1
  subst he2
  have HTO := HT
  clear c0 c1 c2 c3 c4 r0 r1 r2 r3 r4 f0 f1 f2 f3 f4 b0 b1 b2 b3 b4
  have HF2 : Hid (∀ b off, X2 = some ⟨b, off, none⟩ → w.heap.size ≤ b ∧ b ≠ w.heap.size ∧ b ≠ w.heap.size + 1) := zh fun b off h => by
   have h1 := (hf2 b off h).1
   have h2 := HT.out.2.1.2.2.2.2.2
   exact ⟨by omega, by omega, by omega⟩
  have HT := zh (HT.out.more hb); have HSB := zh (HSB.out.below hb HTO.out.1.2.2.2.2.2); have HS1 := zh (HS1.out.below hb zl); have HS2 := zh hr2; have HL2 := zh hc2
  have HU2 : Hid (∀ b off, X2 = some ⟨b, off, none⟩ → b < w4.heap.size) := zh fun b off h => (hf2 b off h).2
  have HU1 := zh fun b off h => Nat.lt_of_lt_of_le (HU1.out b off h) hb.size
  clear hb hc2 hr2 hf2; obtain ⟨⟨c0, c1, c2, c3, c4, _⟩, ⟨r0, r1, r2, r3, r4, _⟩, ⟨f0, f1, f2, f3, f4⟩, _⟩ := HT.out; obtain ⟨b0, b1, b2, b3, b4⟩ := HSB.out; dsimp only; refine hK.out _ _ trivial (fun _ => ?_); (try simp only [Act.put, zq1, zq2, zq3]); refine zqR [9] ?_
  refine zqN fun K hK => ?_
  go_simp
  skip
  refine hK.out _ _ trivial (fun _ => ?_); try simp only [Act.put, zq1, zq2, zq3]
  have hHeld : True := trivial
  refine zqT 10 ?_ ?_ ?_; rotate_left
  · intro w' hSw; go_simp; try with_reducible rfl
  (try simp only [Act.put, zq1, zq2, zq3]); clear hHeld; refine zqR [11] ?_
  refine zqN fun K hK => ?_
  go_simp
  skip
  refine hK.out _ _ trivial (fun _ => ?_); try simp only [Act.put, zq1, zq2, zq3]
  refine wpAnyH_done (by kernel_rfl) ?_ _
  have hS1 := HS1.out
  have hS2 := HS2.out
  have hB5 := HT.out.2.2.2
  go_wp2
  refine bodyPost_ret (v := RV o f ep X1 rs.length k1 X2 ws.length k2) (by simp [results, Tryz.results55, go_sem, RV, r0, r1, r2, r3, r4]) rfl ?_
  have p1 : ∀ b off, X1 = some ⟨b, off, none⟩ → b ≠ w.heap.size := fun b off h => (HF1.out b off h).2.1
  have p2 : ∀ b off, X2 = some ⟨b, off, none⟩ → b ≠ w.heap.size := fun b off h => (HF2.out b off h).2.1
  have q1 : ∀ b off, X1 = some ⟨b, off, none⟩ → b ≠ w.heap.size + 1 := fun b off h => (HF1.out b off h).2.2
  have q2 : ∀ b off, X2 = some ⟨b, off, none⟩ → b ≠ w.heap.size + 1 := fun b off h => (HF2.out b off h).2.2
  exact ⟨⟨X1, k1, X2, k2, sreads_set5 (sreads_set (sreads_set hS1 p1) p1) q1, sreads_set5 (sreads_set (sreads_set hS2 p2) p2) q2, HL1.out, HL2.out, fun b off h => ⟨(HF1.out b off h).1, by simpa [World.setCell] using HU1.out b off h⟩, fun b off h => ⟨(HF2.out b off h).1, by simpa [World.setCell] using HU2.out b off h⟩, rfl⟩, set5 ((hB5.setCell (p := ⟨w.heap.size, 3, none⟩) zl _).setCell (p := ⟨w.heap.size, 4, none⟩) zl _) (by omega)⟩
 refine zqN fun K hK => ?_
 go_simp; clear c0 c1 c2 c3 c4 r0 r1 r2 r3 r4 f0 f1 f2 f3 f4 b0 b1 b2 b3 b4
 have hpc := one_piece wd wd.heap.size 25 rfl (rfl : ws.length = ws.length) (HBB.out.below HT.out.2.2.2 zl) HNB.out
 have hal := al wd (.cells #[.slice B ws.length d] 25)
 have hT := HT.out.more hal
 have hSB := HSB.out.below hal HT.out.1.2.2.2.2.2
 obtain ⟨G2, hG2⟩ : ∃ n, wd.heap.size = n := ⟨_, rfl⟩
 generalize wd.alloc (.cells #[.slice B ws.length d] 25) = w1 at hpc hal hT hSB ⊢
 rw [hG2] at hpc ⊢; have HT := zh hT; have HSB := zh hSB; have HP2 := zh hpc; clear hpc hal hT hSB hG2; obtain ⟨⟨c0, c1, c2, c3, c4, _⟩, ⟨r0, r1, r2, r3, r4, _⟩, ⟨f0, f1, f2, f3, f4⟩, _⟩ := HT.out; obtain ⟨b0, b1, b2, b3, b4⟩ := HSB.out; refine hK.out _ _ trivial (fun _ => ?_); (try simp only [Act.put, zq1, zq2, zq3]); refine zqR [1] ?_
 refine zqN fun K hK => ?_
 go_simp
 skip
 refine hK.out _ _ trivial (fun _ => ?_); (try simp only [Act.put, zq1, zq2, zq3]); refine zqR [2] ?_
 refine zqN fun K hK => ?_
 go_simp; clear c0 c1 c2 c3 c4 r0 r1 r2 r3 r4 f0 f1 f2 f3 f4 b0 b1 b2 b3 b4
 have hpc := one_piece w1 w1.heap.size 25 rfl (rfl : rs.length = rs.length) (HA.out.below HT.out.2.2.2 zl) HNA.out
 have hal := al w1 (.cells #[.slice A rs.length c] 25)
 have hT := HT.out.more hal
 have hSB := HSB.out.below hal HT.out.1.2.2.2.2.2
 have hP2 := HP2.out.below hal zl
 obtain ⟨G1, hG1⟩ : ∃ n, w1.heap.size = n := ⟨_, rfl⟩
 generalize w1.alloc (.cells #[.slice A rs.length c] 25) = w2 at hpc hal hT hSB hP2 ⊢
 rw [hG1] at hpc ⊢; have HT := zh hT; have HSB := zh hSB; have HP1 := zh hpc; have HP2 := zh hP2; clear hpc hal hT hSB hG1 hP2; obtain ⟨⟨c0, c1, c2, c3, c4, _⟩, ⟨r0, r1, r2, r3, r4, _⟩, ⟨f0, f1, f2, f3, f4⟩, _⟩ := HT.out; obtain ⟨b0, b1, b2, b3, b4⟩ := HSB.out; refine hK.out _ _ trivial (fun _ => ?_); (try simp only [Act.put, zq1, zq2, zq3]); refine zqR [3] ?_
 refine zqN fun K hK => ?_
 go_simp
 go_at_call 109
 with_reducible refine (copy_at8 G1 rs w2 HP1.out (by omega)).mono ?_
 intro e w3 hh
 obtain ⟨hh1, hb⟩ := hh
 unfold LstU at hh1
 obtain ⟨X1, k1, hc1, hr1, hf1, he1⟩ := hh1
 subst he1
 have HTO := HT
 clear c0 c1 c2 c3 c4 r0 r1 r2 r3 r4 f0 f1 f2 f3 f4 b0 b1 b2 b3 b4
 have HF1 : Hid (∀ b off, X1 = some ⟨b, off, none⟩ → w.heap.size ≤ b ∧ b ≠ w.heap.size ∧ b ≠ w.heap.size + 1) := zh fun b off h => by
  have h1 := (hf1 b off h).1
  have h2 := HT.out.2.1.2.2.2.2.2
  exact ⟨by omega, by omega, by omega⟩
 have HT := zh (HT.out.more hb); have HSB := zh (HSB.out.below hb HTO.out.1.2.2.2.2.2); have HP2 := zh (HP2.out.below hb zl); have HS1 := zh hr1; have HL1 := zh hc1
 have HU1 : Hid (∀ b off, X1 = some ⟨b, off, none⟩ → b < w3.heap.size) := zh fun b off h => (hf1 b off h).2
 clear hb hc1 hr1 hf1; obtain ⟨⟨c0, c1, c2, c3, c4, _⟩, ⟨r0, r1, r2, r3, r4, _⟩, ⟨f0, f1, f2, f3, f4⟩, _⟩ := HT.out; obtain ⟨b0, b1, b2, b3, b4⟩ := HSB.out; dsimp only; refine hK.out _ _ trivial (fun _ => ?_); try simp only [Act.put, zq1, zq2, zq3]
 have hHeld : True := trivial
 refine zqT 8 ?_ ?_ ?_; rotate_left
 · intro w' hSw; go_simp; try with_reducible rfl
 (try simp only [Act.put, zq1, zq2, zq3]); clear hHeld; refine zqR [7] ?_
 refine zqN fun K hK => ?_
 go_simp
 go_at_call 109
 with_reducible refine (copy_at8 G2 ws w3 HP2.out (by omega)).mono ?_
 intro e w4 hh
 obtain ⟨hh1, hb⟩ := hh
 unfold LstU at hh1
 obtain ⟨X2, k2, hc2, hr2, hf2, he2⟩ := hh1
 subst he2
 have HTO := HT
 clear c0 c1 c2 c3 c4 r0 r1 r2 r3 r4 f0 f1 f2 f3 f4 b0 b1 b2 b3 b4
 have HF2 : Hid (∀ b off, X2 = some ⟨b, off, none⟩ → w.heap.size ≤ b ∧ b ≠ w.heap.size ∧ b ≠ w.heap.size + 1) := zh fun b off h => by
  have h1 := (hf2 b off h).1
  have h2 := HT.out.2.1.2.2.2.2.2
  exact ⟨by omega, by omega, by omega⟩
 have HT := zh (HT.out.more hb); have HSB := zh (HSB.out.below hb HTO.out.1.2.2.2.2.2); have HS1 := zh (HS1.out.below hb zl); have HS2 := zh hr2; have HL2 := zh hc2
 have HU2 : Hid (∀ b off, X2 = some ⟨b, off, none⟩ → b < w4.heap.size) := zh fun b off h => (hf2 b off h).2
 have HU1 := zh fun b off h => Nat.lt_of_lt_of_le (HU1.out b off h) hb.size
 clear hb hc2 hr2 hf2; obtain ⟨⟨c0, c1, c2, c3, c4, _⟩, ⟨r0, r1, r2, r3, r4, _⟩, ⟨f0, f1, f2, f3, f4⟩, _⟩ := HT.out; obtain ⟨b0, b1, b2, b3, b4⟩ := HSB.out; dsimp only; refine hK.out _ _ trivial (fun _ => ?_); (try simp only [Act.put, zq1, zq2, zq3]); refine zqR [9] ?_
 refine zqN fun K hK => ?_
 go_simp
 skip
 refine hK.out _ _ trivial (fun _ => ?_); try simp only [Act.put, zq1, zq2, zq3]
 have hHeld : True := trivial
 refine zqT 10 ?_ ?_ ?_; rotate_left
 · intro w' hSw; go_simp; try with_reducible rfl
 (try simp only [Act.put, zq1, zq2, zq3]); clear hHeld; refine zqR [11] ?_
 refine zqN fun K hK => ?_
 go_simp
 skip
 refine hK.out _ _ trivial (fun _ => ?_); try simp only [Act.put, zq1, zq2, zq3]
 refine wpAnyH_done (by kernel_rfl) ?_ _
 have hS1 := HS1.out
 have hS2 := HS2.out
 have hB5 := HT.out.2.2.2
 go_wp2
 refine bodyPost_ret (v := RV o f ep X1 rs.length k1 X2 ws.length k2) (by simp [results, Tryz.results55, go_sem, RV, r0, r1, r2, r3, r4]) rfl ?_
 have p1 : ∀ b off, X1 = some ⟨b, off, none⟩ → b ≠ w.heap.size := fun b off h => (HF1.out b off h).2.1
 have p2 : ∀ b off, X2 = some ⟨b, off, none⟩ → b ≠ w.heap.size := fun b off h => (HF2.out b off h).2.1
 have q1 : ∀ b off, X1 = some ⟨b, off, none⟩ → b ≠ w.heap.size + 1 := fun b off h => (HF1.out b off h).2.2
 have q2 : ∀ b off, X2 = some ⟨b, off, none⟩ → b ≠ w.heap.size + 1 := fun b off h => (HF2.out b off h).2.2
 exact ⟨⟨X1, k1, X2, k2, sreads_set5 (sreads_set (sreads_set hS1 p1) p1) q1, sreads_set5 (sreads_set (sreads_set hS2 p2) p2) q2, HL1.out, HL2.out, fun b off h => ⟨(HF1.out b off h).1, by simpa [World.setCell] using HU1.out b off h⟩, fun b off h => ⟨(HF2.out b off h).1, by simpa [World.setCell] using HU2.out b off h⟩, rfl⟩, set5 ((hB5.setCell (p := ⟨w.heap.size, 3, none⟩) zl _).setCell (p := ⟨w.heap.size, 4, none⟩) zl _) (by omega)⟩
end Go.Proofs.YtlkgjceddbclpaaGreat.Mta

