import Derived.Test.YtblojlaifnmimaaGreatDoorJ21
import Derived.Great.BuildSlice
import Derived.Test.YtblojlaifnmimaaGreatDoorRu
import Derived.Test.YtblojlaifnmimaaGreatDoorWb
namespace Go.Proofs.YtblojlaifnmimaaGreatDoor
open Go.RowKit
set_option linter.unusedVariables false

theorem fill_of {F : Nat → Option (Nat × Nat)} {Z : Array Value} {L L' : List (Nat × Value)} {C : Array Value} (h : Instr.fill F Z L = some C) (e : L' = L) : Instr.fill F Z L' = some C := e ▸ h
/-- A list of two plays, laid. -/
structure Bs2 (ie : TypeInfo) (z : Value) (U V : List Value) : Prop where
  i : Tryz.prog.info? 27 = some ie
  o : ie.zero = some z
  s : ¬ 2 * ie.size > 2 ^ 24
  p : ¬ 2 * ie.size = 0
  f : Instr.fill (fun i => some (i * ie.size, ie.size)) ((Array.range (2 * ie.size)).map (z.cells[· % z.cells.size]!)) [(0, .agg U.toArray), (1, .agg V.toArray)] = some (U ++ V).toArray
theorem und33 : Tryz.prog.underlying 33 = some (.slice 27) := by kernel_rfl
theorem Tryz.info27 : (Tryz.prog.info? 27).map (fun i => (i.zero, i.size, i.bytes)) = some (some (.agg plZ.toArray), 11, 104) := by kernel_rfl
theorem bs27 {c : List Int} (hc : c.length = 10) (a b : Option Addr) (n k m j : Nat) : ∃ ie z, Bs2 ie z (cI c ++ [.slice a n k]) (cI c ++ [.slice b m j]) := by
  obtain ⟨i1, hi1, hz0, hz1, hz2⟩ := info_parts Tryz.info27
  refine ⟨i1, _, hi1, hz0, by rw [hz1]; decide, by rw [hz1]; decide, ?_⟩
  rw [hz1]
  obtain ⟨b0, b1, b2, b3, b4, b5, b6, b7, b8, b9, rfl⟩ := ten hc
  kernel_rfl
theorem perm_reads {α : Type} (gc sc gb sb ga sa : α) (cs : List α) : (gc :: sc :: gb :: sb :: ga :: sa :: cs).Perm (sa :: sb :: gc :: sc :: gb :: ga :: cs) := (List.perm_middle (l₁ := [gc, sc, gb, sb, ga]) (a := sa) (l₂ := cs)).trans ((List.perm_middle (l₁ := [gc, sc, gb]) (a := sb) (l₂ := ga :: cs)).cons sa)
/-- What every parse tells. -/
theorem parse_all (l : List UInt8) : (parseW l).c.length = 10 ∧ (parseW l).ss.length ≤ 4000 ∧ ∀ s ∈ (parseW l).ss, spI s := by
  cases hp : parseW l with
  | bad n k => exact ⟨rfl, by simp [PA.ss], fun s hs => by cases hs⟩
  | ok c ss =>
    obtain ⟨_, h2, h3, h4⟩ := parse_good hp
    exact ⟨h2, by show ss.length ≤ _; omega, fun s hs => (h4 s hs).2⟩
set_option maxHeartbeats 6400000 in
set_option maxRecDepth 1000000 in
theorem reads_law {l : List UInt8} {w : World} (E : En w) (hl : l.length ≤ 140737488355328) :
    Calls Tryz.prog 3 #[.string ⟨l.toArray⟩] w fun e w' => e = .returned (.bool true) ∧ Below w.heap.size w w' := by
  obtain ⟨hc, hn, hI⟩ := parse_all l
  have J0 : Hid (Imp w [inC w]) := hid (fun W h => h)
  have SH := hid (shown_any (All.came w) (J0.out.en E))
  have P9 : Hid (∀ D W, Imp w D → All D W → Calls Tryz.prog 9 #[.string ⟨l.toArray⟩] W (PPost (parseW l) D)) := hid (fun D W hD A => Parse_any A (hD.en E) hl)
  have P10 : Hid (∀ D W, All D W → Calls Tryz.prog 10 #[.string ⟨l.toArray⟩] W (PPost (parseW l) D)) := hid (fun D W A => rParse_any A hl)
  unfold PPost at P9 P10
  generalize parseW l = p at *
  have FV : Hid (∀ v D, (∃ a k, v = .slice a p.ss.length k) → spC v p.ss ∈ D → PV (cI p.c ++ [v]) p.c p.ss D) := hid (fun v D h hm => by
    obtain ⟨a, k, e⟩ := h
    exact PV.mk' ⟨_, _, _, e⟩ hc (by omega) hI (fun W h => sps_mem h hm))
  have FM : Hid (∀ v D W, All (spC v p.ss :: D) W → ∃ a k, v = .slice a p.ss.length k) := hid (fun v D W h => owns_form (h.1.2.1 : W.ownsRow 0 43 10 v p.ss.length _))
  have BS : Hid (∀ u v, (∃ a k, u = .slice a p.ss.length k) → (∃ a k, v = .slice a p.ss.length k) → ∃ ie z, Bs2 ie z (cI p.c ++ [u]) (cI p.c ++ [v])) := hid (fun u v h h2 => by
    obtain ⟨a1, c1, rfl⟩ := h
    obtain ⟨a2, c2, rfl⟩ := h2
    exact bs27 hc _ _ _ _ _ _)
  have WI : Hid (∀ u v PB cs W, All (blkC PB (plP p.c u v) 27 :: spC u p.ss :: spC v p.ss :: cs) W → Calls Tryz.prog 12 #[.slice (some ⟨PB, 0, none⟩) 2 2] W fun e w' => e = .returned (.bool true) ∧ All cs w') := hid (fun u v PB cs W h => wipe_any h hc hn)
  have PLP : Hid (∀ u v, plP p.c u v = (cI p.c ++ [u]) ++ (cI p.c ++ [v])) := hid (fun u v => rfl)
  have SM := hid (same_pack (c := p.c) (ss := p.ss))
  have A0 := hid (All.came w)
  clear hc hn hI E hl
  generalize ByteArray.mk l.toArray = XL at *
  generalize ((p.at' : Nat) : Int) = AT at *
  generalize p.e = EE at *
  generalize p.c = c at *
  generalize p.ss = ss at *
  go_enter Tryz.func3, Tryz.ntmps3
  go_upto_region 2 with (go_at_call 8; refine SH.out.mono ?_; rintro e w1 ⟨rfl, A1⟩; have K1 := hid A1; clear A1)
  clear SH A0
  go_upto_region 3 with (first | (go_at_call 9; refine (P9.out [inC w] _ J0.out K1.out).mono ?_; rintro e w2 ⟨va, rfl, A2⟩; have f2 := hid (FM.out _ _ _ A2); have K2 := hid A2; clear A2; have q2 := FV.out va [spC va ss] f2.out (.head _); obtain ⟨Va, hVa⟩ : ∃ V, V = cI c ++ [va] := ⟨_, rfl⟩; rw [← hVa] at q2 ⊢; have Q2 := hid q2; have HVa := hid hVa; clear hVa q2) | (refine wpList_store_row rfl 27 _ _ rfl w2.heap.size Va.toArray rfl rfl 27 _ (play_new w2) Q2.out.i Q2.out.z Q2.out.o ?_; rw [World.setRow_alloc_new]))
  have L2 := hid (K2.out.addBlk Va 27)
  clear K2 K1
  generalize w2.heap.size = G1 at *
  generalize w2.alloc (.cells Va.toArray 27) = w3 at *
  have J2 : Hid (Imp w [blkC G1 Va 27, spC va ss, inC w]) := hid (fun W h => h.tail.tail)
  go_upto_region 4 with (first | (go_at_call 9; refine (P9.out [blkC G1 Va 27, spC va ss, inC w] _ J2.out L2.out).mono ?_; rintro e w4 ⟨vb, rfl, A3⟩; have f3 := hid (FM.out _ _ _ A3); have K3 := hid A3; clear A3; have q3 := FV.out vb [spC vb ss] f3.out (.head _); obtain ⟨Vb, hVb⟩ : ∃ V, V = cI c ++ [vb] := ⟨_, rfl⟩; rw [← hVb] at q3 ⊢; have Q3 := hid q3; have HVb := hid hVb; clear hVb q3) | (refine wpList_store_row rfl 27 _ _ rfl w4.heap.size Vb.toArray rfl rfl 27 _ (play_new w4) Q3.out.i Q3.out.z Q3.out.o ?_; rw [World.setRow_alloc_new]))
  have L3 := hid (K3.out.addBlk Vb 27)
  clear K3 L2
  generalize w4.heap.size = G2 at *
  generalize w4.alloc (.cells Vb.toArray 27) = w5 at *
  go_upto_region 5 with (first | (go_at_call 10; refine (P10.out [blkC G2 Vb 27, spC vb ss, blkC G1 Va 27, spC va ss, inC w] _ L3.out).mono ?_; rintro e w6 ⟨vc, rfl, A4⟩; have f4 := hid (FM.out _ _ _ A4); have K4 := hid A4; clear A4; have q4 := FV.out vc [spC vc ss] f4.out (.head _); obtain ⟨Vc, hVc⟩ : ∃ V, V = cI c ++ [vc] := ⟨_, rfl⟩; rw [← hVc] at q4 ⊢; have Q4 := hid q4; have HVc := hid hVc; clear hVc q4) | (refine wpList_store_row rfl 27 _ _ rfl w6.heap.size Vc.toArray rfl rfl 27 _ (play_new w6) Q4.out.i Q4.out.z Q4.out.o ?_; rw [World.setRow_alloc_new]))
  have L4 := hid (K4.out.addBlk Vc 27)
  clear K4 L3
  generalize w6.heap.size = G3 at *
  generalize w6.alloc (.cells Vc.toArray 27) = w7 at *
  have Pa : Hid (PV Va c ss [blkC G3 Vc 27, spC vc ss, blkC G2 Vb 27, spC vb ss, blkC G1 Va 27, spC va ss, inC w]) := hid (by rw [HVa.out]; exact FV.out va _ f2.out (by simp))
  have Pb : Hid (PV Vb c ss [blkC G3 Vc 27, spC vc ss, blkC G2 Vb 27, spC vb ss, blkC G1 Va 27, spC va ss, inC w]) := hid (by rw [HVb.out]; exact FV.out vb _ f3.out (by simp))
  have Pc : Hid (PV Vc c ss [blkC G3 Vc 27, spC vc ss, blkC G2 Vb 27, spC vb ss, blkC G1 Va 27, spC va ss, inC w]) := hid (by rw [HVc.out]; exact FV.out vc _ f4.out (by simp))
  clear Q2 Q3 Q4 J2 J0 P10
  have H1 := hid L4.out.tail.tail.tail.tail.1.2.1
  have H3 := hid L4.out.1.2.1
  go_upto_region 6 with (first | (refine wpList_load_row rfl 27 _ rfl G1 rfl 27 Va.toArray (0, 0) _ H1.out Tryz.underlying27 rfl Pa.out.i ?_) | (refine wpList_load_row rfl 27 _ rfl G3 rfl 27 Vc.toArray (0, 0) _ H3.out Tryz.underlying27 rfl Pc.out.i ?_) | (go_at_call 11; refine (SM.out _ _ _ _ Pa.out Pc.out L4.out).mono ?_; rintro e w8 ⟨rfl, A8⟩; have K8 := hid A8; clear A8))
  clear H1 H3 L4
  have H2 := hid K8.out.tail.tail.1.2.1
  have H3 := hid K8.out.1.2.1
  go_upto_region 7 with (first | (refine wpList_load_row rfl 27 _ rfl G2 rfl 27 Vb.toArray (0, 0) _ H2.out Tryz.underlying27 rfl Pb.out.i ?_) | (refine wpList_load_row rfl 27 _ rfl G3 rfl 27 Vc.toArray (0, 0) _ H3.out Tryz.underlying27 rfl Pc.out.i ?_) | (go_at_call 11; refine (SM.out _ _ _ _ Pb.out Pc.out K8.out).mono ?_; rintro e w9 ⟨rfl, A8⟩; have K9 := hid A8; clear A8))
  clear H2 H3 K8
  have H2 := hid K9.out.tail.tail.1.2.1
  have H1 := hid K9.out.tail.tail.tail.tail.1.2.1
  obtain ⟨ie, z, bs⟩ := BS.out va vb f2.out f3.out
  rw [← HVa.out, ← HVb.out] at bs
  have B2 := hid bs
  have KW : Hid (All (blkC w9.heap.size (plP c va vb) 27 :: spC va ss :: spC vb ss :: [blkC G3 Vc 27, spC vc ss, blkC G2 Vb 27, blkC G1 Va 27, inC w]) (w9.alloc (.cells (Va ++ Vb).toArray 27))) := hid (by
    have h := K9.out.addBlk (Va ++ Vb) 27
    rw [PLP.out, ← HVa.out, ← HVb.out]
    exact h.perm ((perm_reads _ _ _ _ _ _ _).cons _))
  clear bs BS K9
  go_upto_region 8 with (first | (refine wpList_load_row rfl 27 _ rfl G1 rfl 27 Va.toArray (0, 0) _ H1.out Tryz.underlying27 rfl Pa.out.i ?_) | (refine wpList_load_row rfl 27 _ rfl G2 rfl 27 Vb.toArray (0, 0) _ H2.out Tryz.underlying27 rfl Pb.out.i ?_) | (refine wpList_buildSlice rfl 33 27 2 _ rfl (Va ++ Vb).toArray ie z und33 B2.out.i B2.out.o B2.out.s B2.out.p (fill_of B2.out.f (by kernel_rfl)) ?_) | (go_at_call 12; refine (WI.out _ _ _ _ _ KW.out).mono ?_; rintro e w10 ⟨rfl, A10⟩; have K11 := hid A10; clear A10))
  clear KW H1 H2 WI B2 Pa Pb Pc
  have J5 : Hid (Imp w [blkC G3 Vc 27, spC vc ss, blkC G2 Vb 27, blkC G1 Va 27, inC w]) := hid (fun W h => h.tail.tail.tail.tail)
  go_upto_region 9 with (first | (go_at_call 9; refine (P9.out [blkC G3 Vc 27, spC vc ss, blkC G2 Vb 27, blkC G1 Va 27, inC w] _ J5.out K11.out).mono ?_; rintro e w11 ⟨vd, rfl, A6⟩; have f6 := hid (FM.out _ _ _ A6); have K6 := hid A6; clear A6; have q6 := FV.out vd [spC vd ss] f6.out (.head _); obtain ⟨Vd, hVd⟩ : ∃ V, V = cI c ++ [vd] := ⟨_, rfl⟩; rw [← hVd] at q6 ⊢; have Q6 := hid q6; have HVd := hid hVd; clear hVd q6) | (refine wpList_store_row rfl 27 _ _ rfl w11.heap.size Vd.toArray rfl rfl 27 _ (play_new w11) Q6.out.i Q6.out.z Q6.out.o ?_; rw [World.setRow_alloc_new]))
  have L6 := hid (K6.out.addBlk Vd 27)
  clear K6 K11
  generalize w11.heap.size = G4 at *
  generalize w11.alloc (.cells Vd.toArray 27) = w12 at *
  have Pd : Hid (PV Vd c ss [blkC G4 Vd 27, spC vd ss, blkC G3 Vc 27, spC vc ss, blkC G2 Vb 27, blkC G1 Va 27, inC w]) := hid (by rw [HVd.out]; exact FV.out vd _ f6.out (by simp))
  have Pe : Hid (PV Vc c ss [blkC G4 Vd 27, spC vd ss, blkC G3 Vc 27, spC vc ss, blkC G2 Vb 27, blkC G1 Va 27, inC w]) := hid (by rw [HVc.out]; exact FV.out vc _ f4.out (by simp))
  clear Q6 J5 P9
  have H1 := hid L6.out.1.2.1
  have H3 := hid L6.out.tail.tail.1.2.1
  go_wp2_with (first | (refine wpList_load_row rfl 27 _ rfl G4 rfl 27 Vd.toArray (0, 0) _ H1.out Tryz.underlying27 rfl Pd.out.i ?_) | (refine wpList_load_row rfl 27 _ rfl G3 rfl 27 Vc.toArray (0, 0) _ H3.out Tryz.underlying27 rfl Pe.out.i ?_) | (go_at_call 11; refine (SM.out _ _ _ _ Pd.out Pe.out L6.out).mono ?_; rintro e w13 ⟨rfl, A8⟩; have K13 := hid A8; clear A8))
  go_ret
  exact ⟨rfl, K13.out.into (by simp)⟩
end Go.Proofs.YtblojlaifnmimaaGreatDoor
