/-
  U3. By an AI agent.
-/
import Derived.Test.YtbdealddjonobaaGreatYZ
import Derived.Test.YtbdealddjonobaaGreatYU1
import Derived.Test.YtbdealddjonobaaGreatYB2
namespace Go.Proofs.YtbdealddjonobaaGreat.Usr
open Wire Term Rig Draw Reg Mta Mga

set_option linter.unusedVariables false
theorem sech_sz {use who : Tm} {n : Nat} (h : use.length + who.length ≤ 15) (hn : n < 18446744073709551616) : Sz 3 (sech use who n) ∧ (sech use who n).length ≤ 40 ∧ (sech use who n).headD 0 = 104 := by
  have hl : (use ++ 58 :: who).length ≤ 16 := by rw [List.length_append, List.length_cons]; omega
  have h1 : Sz 1 (txt use who) := sz_txt 0 (by omega)
  have h2 : Sz 1 (ofAtom n) := sz_atom 0 hn
  refine ⟨sz_one (.inl rfl) (sz_pair h1 h2), ?_, rfl⟩
  have h3 := (put_le hn).2
  have h6 : 0 < (use ++ 58 :: who).length := by rw [List.length_append, List.length_cons]; omega
  have h5 : (put (use ++ 58 :: who).length).length = 2 := by rw [put_byte (by omega) (by omega)]; rfl
  unfold sech prs ofAtom txt
  simp only [List.length_cons, List.length_append, putText_len] at hl h5 ⊢
  omega
theorem secret_sm {use who : Tm} {n : Nat} (h : use.length + who.length ≤ 15) (hn : n < 18446744073709551616) : secret use who n = (sech use who n, 0) := by
  obtain ⟨h1, h2, h3, _⟩ := secret_small (use := use) (who := who) (n := n) (by omega) hn
  exact secret_ok hn h1 h2 h3
structure Fair (u : Us) (f : Tm) : Prop where
  fl : f.length ≤ 5
  wn : ∀ x, x ∈ (u.of f).r.rs ∨ x ∈ (u.of f).r.ws → Wn x
  R : Sz 3 (u.of f).root ∧ (u.of f).root.length ≤ 40
  g : ∀ t ∈ (u.of f).sg, Sz 3 t ∧ t.length ≤ 50 ∧ t.headD 0 = 104
def AllFair (u : Us) : Prop := u.nm.length ≤ 5 ∧ ∀ f ∈ u.ns, Fair u f
theorem fair0 {n : Tm} {sd : Nat} (h : n.length ≤ 5) : AllFair (us0 n sd) := ⟨h, fun f hf => (List.not_mem_nil hf).elim⟩
theorem sc_sm {u : Us} (h : u.nm.length ≤ 5) {use f : Tm} (hu : use.length ≤ 4) (hf : f.length ≤ 5) (k : Nat) : Sz 3 (u.sc use f k) ∧ (u.sc use f k).length ≤ 40 ∧ (u.sc use f k).headD 0 = 104 := by
  have hp : use.length + (u.path f).length ≤ 15 := by unfold Us.path; rw [List.length_append, List.length_cons]; omega
  have hd : draw u.sd k < 18446744073709551616 := mix_lt _
  unfold Us.sc
  rw [secret_sm hp hd]
  exact sech_sz hp hd
theorem fair_upd {u : Us} (h : AllFair u) {f : Tm} {v : Us} (hn : v.nm = u.nm) (hs : ∀ x ∈ v.ns, x = f ∨ x ∈ u.ns) (ho : ∀ x, x ≠ f → v.of x = u.of x) (hf : f ∈ v.ns → Fair v f) : AllFair v := by
  refine ⟨by rw [hn]; exact h.1, fun x hx => ?_⟩
  by_cases e : x = f
  · subst e; exact hf hx
  · rcases hs x hx with h2 | h2
    · exact absurd h2 e
    · obtain ⟨a, b, c, d⟩ := h.2 x h2
      exact ⟨a, by rw [ho x e]; exact b, by rw [ho x e]; exact c, by rw [ho x e]; exact d⟩
theorem fair_create {u : Us} (h : AllFair u) {f : Tm} (hf : f.length ≤ 5) : AllFair (create u f).1 := by
  unfold create
  by_cases h1 : nm f = false
  · rw [if_pos h1]; exact h
  rw [if_neg h1]
  by_cases h2 : u.live f = true
  · rw [if_pos h2]; exact h
  rw [if_neg h2]
  by_cases h3 : 8 ≤ u.lives.length
  · rw [if_pos h3]; exact h
  rw [if_neg h3]
  refine fair_upd h (f := f) rfl (fun x hx => ?_) (fun x hx => updO_ne hx) fun _ => ?_
  · by_cases e : f ∈ u.ns
    · simp only [if_pos e] at hx; exact .inr hx
    · simp only [if_neg e, List.mem_append, List.mem_singleton] at hx; exact hx.symm
  · obtain ⟨r1, r2, _⟩ := sc_sm h.1 (use := uRoot) (by decide) hf u.dr
    obtain ⟨g1, g2, g3⟩ := sc_sm h.1 (use := uSign) (by decide) hf (u.dr + 1)
    refine ⟨hf, ?_, ?_, ?_⟩
    · show ∀ x, x ∈ (updO u.of f (u.made f) f).r.rs ∨ x ∈ (updO u.of f (u.made f) f).r.ws → Wn x
      rw [updO_self]
      exact fun x hx => by rcases hx with hx | hx <;> exact (List.not_mem_nil hx).elim
    · show Sz 3 (updO u.of f (u.made f) f).root ∧ (updO u.of f (u.made f) f).root.length ≤ 40
      rw [updO_self]
      exact ⟨r1, r2⟩
    · show ∀ t ∈ (updO u.of f (u.made f) f).sg, Sz 3 t ∧ t.length ≤ 50 ∧ t.headD 0 = 104
      rw [updO_self]
      intro t ht
      obtain rfl : t = u.sc uSign f (u.dr + 1) := List.mem_singleton.1 ht
      exact ⟨g1, by omega, g3⟩
theorem fair_one {u : Us} (h : AllFair u) {f : Tm} (hf : f ∈ u.ns) {dr : Nat} {o : Ow} (hw : ∀ x, x ∈ o.r.rs ∨ x ∈ o.r.ws → Wn x) (hR : o.root = (u.of f).root) (hg : ∀ t ∈ o.sg, t ∈ (u.of f).sg ∨ (Sz 3 t ∧ t.length ≤ 50 ∧ t.headD 0 = 104)) : AllFair ⟨u.nm, u.sd, dr, u.ns, updO u.of f o⟩ := by
  obtain ⟨a, b, c, d⟩ := h.2 f hf
  refine fair_upd h (f := f) rfl (fun x hx => .inr hx) (fun x hx => updO_ne hx) fun _ => ⟨a, ?_, ?_, ?_⟩
  · show ∀ x, x ∈ (updO u.of f o f).r.rs ∨ x ∈ (updO u.of f o f).r.ws → Wn x
    rw [updO_self]; exact hw
  · show Sz 3 (updO u.of f o f).root ∧ (updO u.of f o f).root.length ≤ 40
    rw [updO_self, hR]; exact c
  · show ∀ t ∈ (updO u.of f o f).sg, Sz 3 t ∧ t.length ≤ 50 ∧ t.headD 0 = 104
    rw [updO_self]
    intro t ht
    rcases hg t ht with h2 | h2
    · exact d t h2
    · exact h2
theorem fair_grant {n : Nat} {u : Us} (h : AllFair u) (hn : Fine n u) (f : Tm) {x : Tm} (hx : Wn x) (b : Bool) : AllFair (grant u f x b).1 := by
  unfold grant
  by_cases h1 : u.live f = false
  · rw [if_pos h1]; exact h
  rw [if_neg h1]
  obtain ⟨hf, _⟩ := live_in (by simpa using h1)
  by_cases h2 : (gr (u.of f).r x b).2 ≠ 0
  · rw [if_pos h2]; exact h
  rw [if_neg h2]
  refine fair_one h hf (fun y hy => ?_) rfl fun t ht => .inl ht
  have hw := (h.2 f hf).wn
  rcases gr_cases (u.of f).r x b (hn.each f hf).1 hx.nm with ⟨e, _⟩ | ⟨e, _⟩ | ⟨_, _, e, _⟩
  · rw [e] at h2; exact absurd (by decide) h2
  · rw [e] at h2; exact absurd (by decide) h2
  · rcases e with ⟨_, e⟩ | ⟨_, e⟩
    · rw [e] at hy
      rcases hy with hy | hy
      · exact hw y (.inl hy)
      · rcases mem_ins.1 hy with rfl | hy
        · exact hx
        · exact hw y (.inr hy)
    · rw [e] at hy
      rcases hy with hy | hy
      · rcases mem_ins.1 hy with rfl | hy
        · exact hx
        · exact hw y (.inl hy)
      · exact hw y (.inr hy)
theorem fair_revoke {n : Nat} {u : Us} (h : AllFair u) (hn : Fine n u) (f : Tm) {x : Tm} (hx : Wn x) : AllFair (revoke u f x).1 := by
  unfold revoke
  by_cases h1 : u.live f = false
  · rw [if_pos h1]; exact h
  rw [if_neg h1]
  obtain ⟨hf, _⟩ := live_in (by simpa using h1)
  by_cases h2 : (rv (u.of f).r x).2 ≠ 0
  · rw [if_pos h2]; exact h
  rw [if_neg h2]
  have hw := (h.2 f hf).wn
  refine fair_one h hf (fun y hy => ?_) rfl fun t ht => ?_
  · rcases rv_cases (u.of f).r x (hn.each f hf).1 hx.nm with ⟨e, _⟩ | ⟨e, _⟩ | ⟨_, _, e, _⟩
    · rw [e] at h2; exact absurd (by decide) h2
    · rw [e] at h2; exact absurd (by decide) h2
    · rw [e] at hy
      rcases hy with hy | hy
      · exact hw y (.inl (mem_del.1 hy).1)
      · exact hw y (.inr (mem_del.1 hy).1)
  · rcases List.mem_append.1 ht with h3 | h3
    · exact .inl h3
    · obtain rfl := List.mem_singleton.1 h3
      obtain ⟨g1, g2, g3⟩ := sc_sm h.1 (use := uSign) (by decide) (h.2 f hf).fl u.dr
      exact .inr ⟨g1, by omega, g3⟩
theorem fair_remove {u : Us} (h : AllFair u) (f : Tm) : AllFair (remove u f).1 := by
  unfold remove
  by_cases h1 : u.live f = false
  · rw [if_pos h1]; exact h
  rw [if_neg h1]
  obtain ⟨hf, _⟩ := live_in (by simpa using h1)
  exact fair_one h hf (h.2 f hf).wn rfl fun t ht => .inl ht
theorem fair_do {n : Nat} {u : Us} (h : AllFair u) (hn : Fine n u) (z0 z1 z2 : Int) : AllFair (doU u z0 z1 z2).1 := by
  have hw : Wn (whoN (Rig.pk z2 8)).data.toList := ⟨_, Rig.pk_lt z2 (n := 8) (by decide), rfl⟩
  unfold doU
  split
  · exact fair_create h (by rw [← Lib.size_eq]; exact fileN_size z1)
  · split
    · exact fair_grant h hn _ hw _
    · split
      · exact fair_revoke h hn _ hw
      · exact fair_remove h _
def kOf (u : Us) (f : Tm) : Kt := ⟨u.sec, (u.of f).root, (u.of f).sg⟩
theorem sec_is {u : Us} (h : u.nm.length ≤ 5) : Sz 3 u.sec ∧ u.sec.length ≤ 40 := by
  have hp : ([117, 115, 101, 114] : Tm).length + u.nm.length ≤ 15 := by show 4 + u.nm.length ≤ 15; omega
  have hd : draw u.sd 0 < 18446744073709551616 := mix_lt _
  unfold Us.sec
  rw [secret_sm hp hd]
  exact ⟨(sech_sz hp hd).1, (sech_sz hp hd).2.1⟩
theorem kok {n : Nat} {u : Us} (h : AllFair u) (hn : Fine n u) {f : Tm} (hf : f ∈ u.ns) : KOk (kOf u f) (u.of f).r := by
  obtain ⟨a1, a2, a3, a4, a5, a6⟩ := hn.each f hf
  obtain ⟨b1, b2, b3, b4⟩ := h.2 f hf
  have hs := sec_is h.1
  have hl := h.1
  have he := a1.2.2.1
  exact ⟨a1, b2, by rw [a2]; omega, by rw [a3]; omega, ⟨hs.1, by show u.sec.length ≤ 50; omega⟩, b3, b4, by show (u.of f).sg.length = _; omega⟩
end Go.Proofs.YtbdealddjonobaaGreat.Usr

namespace Go.Proofs.YtbdealddjonobaaGreat.Usr
open Go Go.RowKit Wire Term Rig Draw Mta

set_option linter.unusedSimpArgs false
set_option maxHeartbeats 8000000 in
set_option maxRecDepth 1000000 in
theorem known14_any (w : World) : Calls Tryz.prog 30 #[] w fun e w' => Plst w.heap.size knownL e w' ∧ Below w.heap.size w w' := by
  obtain ⟨i0, hi0, hz0, hz1, hz2⟩ := info_parts known_info
  go_enter Tryz.func30, Tryz.ntmps30
  go_wp2_with fail
  go_loopw [1, 2] (fun v i wr => ∃ (k : Nat) (V : Value), k ≤ 8 ∧ i = .int .i64 (k : Int) ∧ V = v ∧ Hid (OwnsP 115 w ((List.range k).map kn) V wr)) (fun _ i _ => 8 - (intOf i).toNat)
  case atStart => exact ⟨0, _, Nat.zero_le _, rfl, rfl, zh (ownsP_nil _ w (Below.refl _ _))⟩
  case round =>
    obtain ⟨k, v, hk, rfl, rfl, HO⟩ := hrel
    obtain ⟨zs, hz, hown, hbel⟩ := HO.out
    have HOW := zh hown
    have HBL := zh hbel
    have HZ := zh hz
    have hzl : zs.length = k := by
      have := congrArg List.length hz
      rw [pl_len, List.length_map, List.length_range] at this
      exact this
    clear hown hbel hz
    by_cases hlt : k < 8
    · obtain ⟨U, hU⟩ : ∃ U, whoN k = U := ⟨_, rfl⟩
      have HW : Hid (∀ w, Calls Tryz.prog 40 #[.int .i64 (k : Int)] w fun e w' => e = .returned (.string U) ∧ Below w.heap.size w w') := fun w => by
        have h := who_any (k : Int) w ⟨by omega, by omega⟩
        rw [Rig.pk_small hlt, hU] at h
        exact h
      have hus := who_size k
      rw [hU] at hus
      have hul : U.data.toList.length ≤ 12 := by rw [← Lib.size_eq]; omega
      have HS := zh fun w => secretOf_any U w (by omega)
      have HP : Hid (∀ (T : ByteArray) (w : World), T.data.toList = secU U.data.toList → Calls Tryz.prog 51 #[.string T] w fun e w' => Sr (pubU U.data.toList, 0) e ∧ Below w.heap.size w w') := fun T w hT => by
        have h := ofPublic_any T w (by rw [Lib.size_eq, hT]; have := (secU_sz hul).2; omega)
        rw [hT, pubU_is hul] at h
        exact h
      have HKN : Hid (kn k = (U.data.toList, pubU U.data.toList)) := by show kn k = _; unfold kn; rw [hU]
      have hlt' : (k : Int) < 8 := by omega
      clear hU hus hul
      go_wp2_with fail
      with_reducible refine (HW.out _).mono ?_
      rintro e w1 ⟨rfl, hb1⟩
      have HB1 := zh (Bel.call HBL.out hb1)
      have HR1 := zh (own_below HOW.out hb1 zl)
      clear hb1
      dsimp only
      go_wp2_with fail
      with_reducible refine (HS.out _).mono ?_
      rintro e w2 ⟨⟨T0, hT0, rfl⟩, hb2⟩
      have HT0 := zh hT0
      have HB2 := zh (Bel.call HB1.out hb2)
      have HR2 := zh (own_below HR1.out hb2 zl)
      clear hb2 hT0
      dsimp only
      go_wp2_with fail
      with_reducible refine (HP.out T0 _ HT0.out).mono ?_
      rintro e w3 ⟨⟨T, hT, rfl⟩, hb3⟩
      try dsimp only at hT
      have HT := zh hT
      have HB3 := zh (Bel.call HB2.out hb3)
      have HR3 := zh (own_below HR2.out hb3 zl)
      clear hb3 hT
      dsimp only
      go_wp2_with fail
      with_reducible refine (HW.out _).mono ?_
      rintro e w4 ⟨rfl, hb4⟩
      have HB4 := zh (Bel.call HB3.out hb4)
      have HR4 := zh (own_below HR3.out hb4 zl)
      clear hb4
      dsimp only
      go_wp2_with (first
        | (at_builtin
           refine wpList_append_own _ rfl _ _ _ rfl w.heap.size 115 i0 _ 2 32 Tryz.underlying63 hi0 hz0 hz1 hz2 rfl (by decide) _ zs.length (pcs zs) rfl ?c1 _ 1 1 [.string U, .string T] rfl rfl ?c2 ?c3 ?c4 ?c5 ?c6 ?_
           case c1 => exact HR4.out.alloc _
           case c2 => exact lit_cells _ _ _
           case c3 => exact pcs_one [(U, T)]
           case c4 => simp only [maxLen]; omega
           case c5 => omega
           case c6 =>
             have h := HB4.out.size
             simp only [World.alloc, Array.size_push]
             omega
           intro v6 w6 hown hgrow _
           have HO6 := zh hown
           have HG6 := zh hgrow
           clear hown hgrow))
      go_roundw
      case rel =>
        refine ⟨k + 1, _, by omega, by go_num, rfl, zh ⟨zs ++ [(U, T)], ?_, by have := HO6.out; rw [pcs_app]; simpa [pcs] using this, ?_⟩⟩
        · rw [List.range_succ, List.map_append, List.map_cons, List.map_nil, ← HZ.out, HKN.out, ← HT.out]; simp [pl]
        · have h1 := HB4.out
          refine (h1.alloc h1.size (.cells #[.string U, .string T] 115)).grown HG6.out (by
            have := h1.size
            simp only [World.alloc, Array.size_push]
            omega) fun g hg => ?_
          exact (HOW.out.lt g hg).1
      case measure => simp [intOf]; omega
    · obtain rfl : k = 8 := by omega
      go_wp2
      go_ret
      exact ⟨ownsP_lst HO.out, HBL.out⟩
end Go.Proofs.YtbdealddjonobaaGreat.Usr

namespace Go.Proofs.YtbdealddjonobaaGreat.Usr
open Go Go.RowKit Wire Term Rig Draw Frm Mta Mga

set_option linter.unusedVariables false
def prsP (A : Option Addr) (ks : List (ByteArray × ByteArray)) : Part where
  P w := PReads w A ks
  S b := 0 < ks.length ∧ ∃ off, A = some ⟨b, off, none⟩
  M _ := False
  sub _ h := h.elim
  dep hs h hb := fun j hj => by
    obtain ⟨b, off, e, hlt, h1, h2⟩ := h j hj
    exact ⟨b, off, e, Nat.lt_of_lt_of_le hlt hs, (World.cell?_of_block (a := ⟨b, off + j * 2, none⟩) (hb b ⟨by omega, off, e⟩)).trans h1, (World.cell?_of_block (a := ⟨b, off + j * 2 + 1, none⟩) (hb b ⟨by omega, off, e⟩)).trans h2⟩
  old h b hb := by
    obtain ⟨h0, off, e⟩ := hb
    exact preads_lt h e h0
def MVs (o f : ByteArray) (ep : Int) (A : Option Addr) (n c : Nat) (B : Option Addr) (m d : Nat) (ver : Int) (V : Option Addr) (nv cv : Nat) (K : Option Addr) (nk ck : Nat) (sig : ByteArray) : List Value := [.string o, .string f, .int .i64 ep, .slice A n c, .slice B m d, .int .u64 ver, .slice V nv cv, .slice K nk ck, .string sig]
theorem isM_cells {ok : Nat → Prop} {w : World} {vs : List Value} {m : Mt} (h : IsM ok w (.agg vs.toArray) m) : ∃ o f A c B d V cv K ck sig, vs = MVs o f m.r.ep A m.r.rs.length c B m.r.ws.length d (m.ver : Int) V m.vf.length cv K m.bs.length ck sig ∧ o.data.toList = m.r.o ∧ f.data.toList = m.r.f := by
  obtain ⟨o, f, sig, A, c, rs, B, d, ws, V, cv, ys, K, ck, ks, h1, h2, _⟩ := h
  have p1 := congrArg (fun z : Mt => z.r.rs) h2
  have p2 := congrArg (fun z : Mt => z.r.ws) h2
  have p3 := congrArg Mt.vf h2
  have p4 := congrArg Mt.bs h2
  have p5 := congrArg (fun z : Mt => z.r.o) h2
  have p6 := congrArg (fun z : Mt => z.r.f) h2
  simp only at p1 p2 p3 p4 p5 p6
  have hv : vs = [.string o, .string f, .int .i64 m.r.ep, .slice A rs.length c, .slice B ws.length d, .int .u64 (m.ver : Int), .slice V ys.length cv, .slice K ks.length ck, .string sig] := List.toArray_inj (Value.agg.inj h1)
  exact ⟨o, f, A, c, B, d, V, cv, K, ck, sig, by rw [p1, p2, p3, p4, bl_len, bl_len, bl_len, pl_len]; exact hv, p5.symm, p6.symm⟩
def mtP (vs : List Value) (m : Mt) : Part where
  P w := IsM AnyB w (.agg vs.toArray) m
  S b := Bk vs b
  M _ := False
  sub _ h := h.elim
  dep hs h hb := by
    obtain ⟨o, f, sig, A, c, rs, B, d, ws, V, cv, ys, K, ck, ks, h1, h2, h3, h4, h5, h6, h7⟩ := h
    have hv : vs = [.string o, .string f, .int .i64 m.r.ep, .slice A rs.length c, .slice B ws.length d, .int .u64 (m.ver : Int), .slice V ys.length cv, .slice K ks.length ck, .string sig] := List.toArray_inj (Value.agg.inj h1)
    refine ⟨o, f, sig, A, c, rs, B, d, ws, V, cv, ys, K, ck, ks, h1, h2, (rowP A rs).dep hs h3 fun b h => ?_, (rowP B ws).dep hs h4 fun b h => ?_, (rowP V ys).dep hs h5 fun b h => ?_, (prsP K ks).dep hs h6 fun b h => ?_, h7⟩
    · obtain ⟨h0, off, rfl⟩ := h
      exact hb b ⟨off, rs.length, c, by rw [hv]; simp, h0⟩
    · obtain ⟨h0, off, rfl⟩ := h
      exact hb b ⟨off, ws.length, d, by rw [hv]; simp, h0⟩
    · obtain ⟨h0, off, rfl⟩ := h
      exact hb b ⟨off, ys.length, cv, by rw [hv]; simp, h0⟩
    · obtain ⟨h0, off, rfl⟩ := h
      exact hb b ⟨off, ks.length, ck, by rw [hv]; simp, h0⟩
  old h b hb := by
    obtain ⟨o, f, sig, A, c, rs, B, d, ws, V, cv, ys, K, ck, ks, h1, h2, h3, h4, h5, h6, h7⟩ := h
    have hv : vs = [.string o, .string f, .int .i64 m.r.ep, .slice A rs.length c, .slice B ws.length d, .int .u64 (m.ver : Int), .slice V ys.length cv, .slice K ks.length ck, .string sig] := List.toArray_inj (Value.agg.inj h1)
    subst hv
    obtain ⟨off, n, c2, hm, h0⟩ := hb
    simp only [List.mem_cons, reduceCtorEq, Value.slice.injEq, List.not_mem_nil, or_false, false_or] at hm
    rcases hm with ⟨e1, e2, _⟩ | ⟨e1, e2, _⟩ | ⟨e1, e2, _⟩ | ⟨e1, e2, _⟩
    · exact sreads_lt h3 e1.symm (by omega)
    · exact sreads_lt h4 e1.symm (by omega)
    · exact sreads_lt h5 e1.symm (by omega)
    · exact preads_lt h6 e1.symm (by omega)
theorem isM_bk {ok : Nat → Prop} {w : World} {vs : List Value} {m : Mt} (h : IsM ok w (.agg vs.toArray) m) : ∀ b, Bk vs b → ok b := fun b hb => by
  obtain ⟨o, f, sig, A, c, rs, B, d, ws, V, cv, ys, K, ck, ks, h1, h2, h3, h4, h5, h6, _, _, _, _, k1, k2, k3, k4⟩ := h
  have hv : vs = [.string o, .string f, .int .i64 m.r.ep, .slice A rs.length c, .slice B ws.length d, .int .u64 (m.ver : Int), .slice V ys.length cv, .slice K ks.length ck, .string sig] := List.toArray_inj (Value.agg.inj h1)
  subst hv
  obtain ⟨off, n, c2, hm, h0⟩ := hb
  simp only [List.mem_cons, reduceCtorEq, Value.slice.injEq, List.not_mem_nil, or_false, false_or] at hm
  rcases hm with ⟨e1, e2, _⟩ | ⟨e1, e2, _⟩ | ⟨e1, e2, _⟩ | ⟨e1, e2, _⟩
  · exact k1 b off e1.symm (by omega)
  · exact k2 b off e1.symm (by omega)
  · exact k3 b off e1.symm (by omega)
  · exact k4 b off e1.symm (by omega)
def says (u : Us) (f : Tm) (ks : List (Tm × Tm)) : Mt × Int := if (own u f).2 ≠ 0 then (mzero, (own u f).2) else build u.sec (own u f).1.r (own u f).1.ver (own u f).1.root (own u f).1.sg ks
def SayOK (D : UPred) : Prop := ∀ (n : Nat) (a : Addr) (S M : Nat → Prop) (u : Us) (F : ByteArray) (K : Option Addr) (ck : Nat) (ks : List (ByteArray × ByteArray)) (w : World), D w a S M u → Fine n u → n ≤ 200 → AllFair u → F.size ≤ 10000 →
  PReads w K ks → (ks.length ≤ ck ∧ (K = none → ck = 0)) → ks.length ≤ 40 → (∀ k ∈ ks, k.1.size ≤ 10000 ∧ k.2.size ≤ 10000) →
  Calls Tryz.prog 29 #[.pointer (some a), .string F, .slice K ks.length ck] w fun e w' => (∃ vs : List Value, IsM (Shy w S M) w' (.agg vs.toArray) (says u F.data.toList (pl ks)).1 ∧ e = .returned (.tuple #[.agg vs.toArray, .int .i64 (says u F.data.toList (pl ks)).2])) ∧ Below w.heap.size w w'
section
variable {D : UPred} {w0 w : World} {l : List Part} {a : Addr} {S M : Nat → Prop} {u : Us} {n : Nat}
theorem u_meta (k : UserOK D) (k2 : SayOK D) (i : Nat) (hi : l[i]? = some (usP k a S M u)) (h : Fm w0 w l) (f : Fine n u) (hn : n ≤ 200) (hf : AllFair u) (F : ByteArray) (hF : F.size ≤ 10000) {K : Option Addr} {ck : Nat} {ks : List (ByteArray × ByteArray)} (hK : PReads w K ks) (hKc : ks.length ≤ ck ∧ (K = none → ck = 0)) (hks : Fit (pl ks)) {x : Mt × Int} (hx : says u F.data.toList (pl ks) = x) :
    Calls Tryz.prog 29 #[.pointer (some a), .string F, .slice K ks.length ck] w fun e w' => ∃ vs, Fm w0 w' (mtP vs x.1 :: l) ∧ e = .returned (.tuple #[.agg vs.toArray, .int .i64 x.2]) := by
  subst hx
  obtain ⟨h40, hsz⟩ := fit_sizes hks
  exact (k2 n a S M u F K ck ks w (h.at i hi) f hn hf hF hK hKc h40 hsz).mono fun e w' t => by
    obtain ⟨⟨vs, h1, h2⟩, h3⟩ := t
    exact ⟨vs, h.told i hi h3 h1.any (fun b hb => hb) fun b hb => shut_fm (k := k) (isM_bk h1 b hb), h2⟩
end
theorem says_no {u : Us} {f : Tm} {ks : List (Tm × Tm)} (h : u.live f = false) : says u f ks = (mzero, 4) := by
  unfold says own
  rw [if_pos h]; rfl
theorem says_yes {u : Us} {f : Tm} {ks : List (Tm × Tm)} {n : Nat} (h : AllFair u) (hn : Fine n u) (hs : n ≤ 200) (hf : u.live f = true) (hk : ∀ s ∈ oth (u.of f).r, pub ks s = (pubU s, 0)) : says u f ks = (mG (kOf u f) (u.of f).r (u.of f).ver, 0) := by
  obtain ⟨h1, _⟩ := live_in hf
  have hv := (hn.each f h1).2.2.2
  have e : own u f = (u.of f, 0) := by unfold own; rw [if_neg (by rw [hf]; simp)]
  unfold says
  rw [e, if_neg (by simp)]
  exact build_g (kok h hn h1) (by show (u.of f).ver < _; omega) hk
end Go.Proofs.YtbdealddjonobaaGreat.Usr

