/-
  MPure. By an AI agent.
-/
import Derived.Test.YtlkgjceddbclpaaGreatEZ
import Derived.Test.YtlkgjceddbclpaaGreatEH1
import Derived.Test.YtlkgjceddbclpaaGreatET1
import Derived.Test.YtlkgjceddbclpaaGreatED1
namespace Go.Proofs.YtlkgjceddbclpaaGreat.Mta
open Wire Term Rig

def sort : List Tm → List Tm
  | [] => []
  | x :: l => ins x (sort l)
theorem mem_sort {x : Tm} : ∀ {l : List Tm}, x ∈ sort l ↔ x ∈ l
  | [] => Iff.rfl
  | y :: l => by
    show x ∈ ins y (sort l) ↔ _
    rw [mem_ins, mem_sort, List.mem_cons]
theorem sort_len : ∀ {l : List Tm}, (sort l).length = l.length
  | [] => rfl
  | y :: l => by
    show (ins y (sort l)).length = _
    rw [ins_len, sort_len, List.length_cons]
theorem lsd_sort {o : Tm} : ∀ {l : List Tm}, (∀ x ∈ l, nm x = true ∧ x ≠ o) → l.Nodup → Lsd o (sort l)
  | [], _, _ => lsd_nil o
  | y :: l, h, hn => by
    obtain ⟨h1, h2⟩ := List.nodup_cons.1 hn
    exact lsd_ins (h y (by simp)).1 (h y (by simp)).2 (lsd_sort (fun x hx => h x (by simp [hx])) h2) (fun hm => h1 (mem_sort.1 hm))
def oth (r : Rt) : List Tm := sort (r.rs ++ r.ws)
theorem lsd_nodup {o : Tm} {l : List Tm} (h : Lsd o l) : l.Nodup := h.2.imp fun {a b} hab e => by rw [e, lt_irrefl] at hab; cases hab
theorem oth_nodup {r : Rt} (h : RR r) : (r.rs ++ r.ws).Nodup := by
  obtain ⟨_, _, _, _, a5, a6, a7⟩ := h
  exact List.nodup_append.2 ⟨lsd_nodup a5, lsd_nodup a6, fun a ha b hb e => a7 a ha (by rw [e]; exact hb)⟩
theorem oth_names {r : Rt} (h : RR r) : ∀ x ∈ r.rs ++ r.ws, nm x = true ∧ x ≠ r.o := fun x hx => by
  obtain ⟨_, _, _, _, a5, a6, _⟩ := h
  rcases List.mem_append.1 hx with hx | hx
  · exact a5.1 x hx
  · exact a6.1 x hx
theorem lsd_oth {r : Rt} (h : RR r) : Lsd r.o (oth r) := lsd_sort (oth_names h) (oth_nodup h)
theorem mem_oth {r : Rt} {x : Tm} : x ∈ oth r ↔ x ∈ r.rs ∨ x ∈ r.ws := by unfold oth; rw [mem_sort, List.mem_append]
theorem oth_len (r : Rt) : (oth r).length = r.rs.length + r.ws.length := by unfold oth; rw [sort_len, List.length_append]
theorem oth_is {r : Rt} (h : RR r) {l : List Tm} (hl : l.Pairwise fun a b => lt a b = true) (hm : ∀ x, x ∈ l ↔ x ∈ r.rs ++ r.ws) : l = oth r :=
  lsd_eq (o := r.o) ⟨fun x hx => oth_names h x ((hm x).1 hx), hl⟩ (lsd_oth h) fun x => by rw [hm, mem_oth, List.mem_append]

structure Mt where
  r : Rt
  ver : Nat
  vf : List Tm
  bs : List (Tm × Tm)
  sig : Tm
def mzero : Mt := ⟨zero, 0, [], [], []⟩
def Kds (k : Nat) (l : List Tm) : Prop := ∀ t ∈ l, kind t = k
instance (k : Nat) (l : List Tm) : Decidable (Kds k l) := inferInstanceAs (Decidable (∀ t ∈ l, kind t = k))
def MR (m : Mt) : Prop := RR m.r ∧ (m.vf.length : Int) = m.r.ep + 1 ∧ kind m.sig = 103 ∧ Kds 117 m.vf ∧ m.bs.map (·.1) = oth m.r ∧ Kds 98 (m.bs.map (·.2))
instance (m : Mt) : Decidable (MR m) := inferInstanceAs (Decidable (_ ∧ _ ∧ _ ∧ _ ∧ _ ∧ _))
def bodyB (m : Mt) : Tm := putAll [rowR m.r, put m.ver, putAll m.vf, putAll (m.bs.map fun b => putAll [b.1, b.2])]
def pairs : List Tm → Option (List (Tm × Tm))
  | [] => some []
  | t :: l => if (all t 2 9000).2 = 0 ∧ (all t 2 9000).1.length = 2 then (pairs l).map fun q => ((all t 2 9000).1.getD 0 [], (all t 2 9000).1.getD 1 []) :: q else none
def blks (s : Tm) : Option (List (Tm × Tm)) := if (all s 5 9000).2 = 0 then pairs (all s 5 9000).1 else none
def metaOf (p : List Tm) (sig : Tm) (b : List (Tm × Tm)) : Mt := ⟨(takeR (p.getD 0 [])).1, (tk (p.getD 1 [])).1, (all (p.getD 2 []) 8 9000).1, b, sig⟩
def takeM (s : Tm) : Mt × Int :=
  if (all s 2 90000).2 ≠ 0 ∨ (all s 2 90000).1.length ≠ 2 then (mzero, 2)
  else if (all ((all s 2 90000).1.getD 0 []) 4 90000).2 ≠ 0 ∨ (all ((all s 2 90000).1.getD 0 []) 4 90000).1.length ≠ 4 then (mzero, 2)
  else
    match blks ((all ((all s 2 90000).1.getD 0 []) 4 90000).1.getD 3 []) with
    | none => (mzero, 2)
    | some b =>
      if (takeR ((all ((all s 2 90000).1.getD 0 []) 4 90000).1.getD 0 [])).2 ≠ 0 ∨ (tk ((all ((all s 2 90000).1.getD 0 []) 4 90000).1.getD 1 [])).2.2 ≠ 0 ∨ (tk ((all ((all s 2 90000).1.getD 0 []) 4 90000).1.getD 1 [])).2.1 ≠ [] ∨
        (all ((all ((all s 2 90000).1.getD 0 []) 4 90000).1.getD 2 []) 8 9000).2 ≠ 0 ∨ ¬ MR (metaOf (all ((all s 2 90000).1.getD 0 []) 4 90000).1 ((all s 2 90000).1.getD 1 []) b) then (mzero, 2)
      else (metaOf (all ((all s 2 90000).1.getD 0 []) 4 90000).1 ((all s 2 90000).1.getD 1 []) b, 0)
def checkM (m : Mt) (p o f : Tm) : Int :=
  if ¬ MR m ∨ kind p ≠ 117 then 1
  else if (ofText (bodyB m)).2 ≠ 0 ∨ verify p (ofText (bodyB m)).1 m.sig ≠ 0 then 7
  else if m.r.o ≠ o ∨ m.r.f ≠ f then 3 else 0
def told (secret b : Tm) : Tm × Tm × Int :=
  if (unbox secret b).2 ≠ 0 ∨ (unbox secret b).1.headD 0 ≠ 112 then ([], [], 7)
  else if ((parts (unbox secret b).1).1.getD 1 []).headD 0 = 116 then ((parts (unbox secret b).1).1.getD 0 [], [], 0)
  else ((parts (unbox secret b).1).1.getD 0 [], (parts (unbox secret b).1).1.getD 1 [], 0)
def openM (m : Mt) (u secret : Tm) : Tm × Tm × Int :=
  if ¬ MR m ∨ ¬ right secret = true then ([], [], 1)
  else match m.bs.find? (fun b => b.1 == u) with
    | none => ([], [], 6)
    | some b => told secret b.2
def pub (known : List (Tm × Tm)) (s : Tm) : Tm × Int := match known.find? (fun k => k.1 == s) with
  | none => ([], 4)
  | some k => if kind k.2 = 117 then (k.2, 0) else ([], 1)
def pubs (known : List (Tm × Tm)) : List Tm → List Tm × Int
  | [] => ([], 0)
  | s :: l => if (pub known s).2 ≠ 0 then ([], (pub known s).2) else if (pubs known l).2 ≠ 0 then ([], (pubs known l).2) else ((pub known s).1 :: (pubs known l).1, 0)
def vfs : List Tm → List Tm × Int
  | [] => ([], 0)
  | s :: l => if (one 117 s).2 ≠ 0 then ([], (one 117 s).2) else if (vfs l).2 ≠ 0 then ([], (vfs l).2) else ((one 117 s).1 :: (vfs l).1, 0)
def emptyT : Tm := [116, 0]
def blk (r : Rt) (s state signer p : Tm) : (Tm × Tm) × Int :=
  if (two 112 state (if s ∈ r.ws then signer else emptyT)).2 ≠ 0 then (([], []), (two 112 state (if s ∈ r.ws then signer else emptyT)).2)
  else ((s, (box p (two 112 state (if s ∈ r.ws then signer else emptyT)).1).1), (box p (two 112 state (if s ∈ r.ws then signer else emptyT)).1).2)
def blkAll (r : Rt) (state signer : Tm) : List Tm → List Tm → List (Tm × Tm) × Int
  | s :: l, p :: q => if (blk r s state signer p).2 ≠ 0 then ([], (blk r s state signer p).2) else if (blkAll r state signer l q).2 ≠ 0 then ([], (blkAll r state signer l q).2) else ((blk r s state signer p).1 :: (blkAll r state signer l q).1, 0)
  | _, _ => ([], 0)
def built (r : Rt) (ver : Nat) (v : List Tm) (b : List (Tm × Tm)) (secret : Tm) : Mt × Int :=
  if (ofText (bodyB ⟨r, ver, v, b, []⟩)).2 ≠ 0 then (mzero, (ofText (bodyB ⟨r, ver, v, b, []⟩)).2)
  else if (two 103 secret (ofText (bodyB ⟨r, ver, v, b, []⟩)).1).2 ≠ 0 then (mzero, (two 103 secret (ofText (bodyB ⟨r, ver, v, b, []⟩)).1).2)
  else (⟨r, ver, v, b, (two 103 secret (ofText (bodyB ⟨r, ver, v, b, []⟩)).1).1⟩, 0)
def build (secret : Tm) (r : Rt) (ver : Nat) (root : Tm) (sgs : List Tm) (known : List (Tm × Tm)) : Mt × Int :=
  if ¬ right secret = true ∨ ¬ right root = true ∨ ¬ RR r ∨ (sgs.length : Int) ≠ r.ep + 1 ∨ ¬ (∀ t ∈ sgs, right t = true) then (mzero, 1)
  else if (pubs known (oth r)).2 ≠ 0 then (mzero, (pubs known (oth r)).2)
  else if (vfs sgs).2 ≠ 0 then (mzero, (vfs sgs).2)
  else if (Reg.state root r.ep).2 ≠ 0 ∧ oth r ≠ [] then (mzero, (Reg.state root r.ep).2)
  else if (blkAll r (Reg.state root r.ep).1 (sgs.getD r.ep.toNat []) (oth r) (pubs known (oth r)).1).2 ≠ 0 then (mzero, (blkAll r (Reg.state root r.ep).1 (sgs.getD r.ep.toNat []) (oth r) (pubs known (oth r)).1).2)
  else built r ver (vfs sgs).1 (blkAll r (Reg.state root r.ep).1 (sgs.getD r.ep.toNat []) (oth r) (pubs known (oth r)).1).1 secret
end Go.Proofs.YtlkgjceddbclpaaGreat.Mta

