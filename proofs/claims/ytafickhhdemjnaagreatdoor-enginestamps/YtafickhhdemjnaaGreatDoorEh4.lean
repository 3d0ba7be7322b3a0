import Derived.Test.YtafickhhdemjnaaGreatDoorEh2
import Derived.Test.YtafickhhdemjnaaGreatDoorJ27
namespace Go.Proofs.YtafickhhdemjnaaGreatDoor
open Go.RowKit
set_option linter.unusedVariables false
set_option maxRecDepth 100000

def lastV (ps : List Pl) : List Value := ps.map fun p => .int .i64 p.n
theorem EM.store {X : Nat} {e : EM} {a : EX} {xs cs : List Comp} {B : Nat} {V : List Value} {t : TypeId} {w : World} (h : All (e.L X a (xs ++ (blkC B V t :: cs))) w) (j : Nat) (u : Value) : All (e.L X a (xs ++ (blkC B (V.set j u) t :: cs))) (w.setCell ⟨B, j, none⟩ u) := by
  rw [EM.L_app, ← List.append_assoc] at h ⊢
  exact ((h.perm List.perm_middle).setBlk j u).perm List.perm_middle.symm
/-- What a round leaves behind stands aside. -/
theorem EM.less {X : Nat} {e : EM} {a : EX} {xs cs : List Comp} {w : World} (h : All (e.L X a (xs ++ cs)) w) : All (e.L X a cs) w := by
  rw [EM.L_app] at h ⊢
  refine All.dropA xs (h.perm ?_)
  rw [← List.append_assoc, ← List.append_assoc]
  exact List.perm_append_comm.append_right _
theorem lastV_set (ps : List Pl) (i : Nat) (p : Pl) : lastV (ps.set i p) = (lastV ps).set i (.int .i64 p.n) := by simp [lastV]
theorem lastV_get {ps : List Pl} {i : Nat} {p : Pl} (h : ps[i]? = some p) : (lastV ps)[i]? = some (.int .i64 p.n) := by simp [lastV, h]
theorem Pl.isOn {p : Pl} (h : p.ok) (hn : 1 ≤ p.n) : p.on = true := by
  cases ho : p.on with
  | true => rfl
  | false => have := (Pl.off h ho).1; omega
theorem ApE.isBad {e : EM} {c q k : Int} {nm tx : ByteArray} {n m : Int} {e' : EM} {x y : Int} {items : List ByteArray} {fr : Bool} {er : Int} (h : ApE e c q k nm tx n m e' x y items fr er) (he : er ≠ 0) : e' = e ∧ x = 0 ∧ y = 0 ∧ items = [] ∧ fr = false := by
  cases h with
  | bad h => exact ⟨rfl, rfl, rfl, rfl, rfl⟩
  | fin h ho => exact ⟨rfl, rfl, rfl, rfl, rfl⟩
  | ok h ho hc hi hp hA => exact absurd rfl he
theorem ApE.isOk {e : EM} {c q k : Int} {nm tx : ByteArray} {n m : Int} {e' : EM} {x y : Int} {items : List ByteArray} {fr : Bool} {er : Int} (h : ApE e c q k nm tx n m e' x y items fr er) (he : er = 0) : e.op < 1099511627776 ∧ 1 ≤ q ∧ ∃ (i : Nat) (p : Pl) (T' : Sheets) (S' : St) (ps' : List Pl), c = (i : Int) ∧ i < 8 ∧ e.ps[i]? = some p ∧ e' = e.up T' S' ps' ∧ ApS e.op e.T e.S e.ps i p q k nm tx n m T' S' ps' x y items fr := by
  cases h with
  | bad h => exact absurd he (by decide)
  | fin h ho => exact absurd he (by decide)
  | ok h ho hc hi hp hA =>
    simp only [mayT, decide_eq_true_eq] at h
    exact ⟨ho, h.2.2.1, _, _, _, _, _, hc, hi, hp, rfl, hA⟩
theorem shw_in {P : Pool} {tp : List Nat} {tN : Nodes} {T : Sheets} {a : Nat} {v : Value} {ys : List Xs} {cs : List Comp} {w : World} (hB : Bk P 16 16 tp tN T) (hys : ys.map Xs.key = shs T a) (h : All cs w) (hr : rowC 78 3 v ys.length (flatX ys) ∈ cs) (hd : ∀ d ∈ ys.map datC, d ∈ cs) : ShW w v (shs T a) := by
  have h2 := shs_small hB a
  have hlen : ys.length ≤ 16 := by
    have := h2.1
    rw [← hys, List.length_map] at this
    exact this
  have := ShW.of_all h hr hd (by rw [hys]; exact h2.2) (by omega)
  rw [hys] at this
  exact this
theorem Txts.none0 (w : World) : Txts w (.slice none 0 0) [] := ⟨none, 0, rfl, by simp, Or.inl rfl⟩
/-- The sheets are told once more. -/
theorem again_any {N X : Nat} {e : EM} {a : EX} {v : Value} {ys : List Xs} {cs : List Comp} {w : World} (hE : e.Ok N a) (hys : ys.map Xs.key = shs e.T 0) (hr : rowC 78 3 v ys.length (flatX ys) ∈ cs) (hd : ∀ d ∈ ys.map datC, d ∈ cs) (A : All (e.L X a cs) w) :
    Calls Tryz.prog 29 #[.pointer (some ⟨X, 0, none⟩)] w fun r w2 => ∃ v2, r = .returned v2 ∧ Calls Tryz.prog 28 #[v, v2] w2 fun r w3 => r = .returned (.bool true) ∧ All (e.L X a cs) w3 := by
  refine (Sheets_any hE A).mono ?_
  rintro r w2 ⟨v2, ys2, rfl, hys2, A2⟩
  have hin : ∀ d ∈ cs, d ∈ (rowC 78 3 v2 ys2.length (flatX ys2) :: (ys2.map datC ++ e.L X a cs)) := fun d hd => by rw [EM.L_app]; simp [hd]
  refine ⟨v2, rfl, (sameSheets_true (shw_in hE.bt hys A2 (hin _ hr) (fun d h => hin _ (hd d h))) (shw_in hE.bt hys2 A2 List.mem_cons_self (fun d h => List.mem_cons_of_mem _ (List.mem_append_left _ h)))).mono ?_⟩
  rintro r w3 ⟨rfl, hb⟩
  exact ⟨rfl, All.dropA (rowC 78 3 v2 ys2.length (flatX ys2) :: ys2.map datC) (A2.later hb)⟩
set_option maxRecDepth 1000000 in
set_option maxHeartbeats 6400000 in
theorem once_law {W : World} {ev : Int} {v : Value} {l : List En} (hT : Tab W) (hv : EntsW W v l) (hlen : l.length * 72 ≤ 140737488351232) : Calls Tryz.prog 5 #[.int .i64 ev, v] W fun e w' => e = .returned (.bool true) ∧ Below W.heap.size W w' := by
  obtain ⟨lo, lc, rfl⟩ := hv.form
  have C8 := hid (shownE_any (List.mem_cons_self) hT (All.came W))
  have HT := hid hT
  have HV := hid hv
  have HL := hid hlen
  clear hT hv
  by_cases hev : 1 ≤ ev ∧ ev ≤ 64
  case neg =>
    go_enter Tryz.func5, Tryz.ntmps5
    have C20 : ∀ w : World, Calls Tryz.prog 20 #[.int .i64 ev] w fun e w' => e = .returned (.bool false) ∧ w' = w := fun w => by
      have := mayE_any (w := w) ev
      rw [show decide (1 ≤ ev ∧ ev ≤ 64) = false by simpa using hev] at this
      exact this
    go_wp2_with (first
      | (go_at_call 8; refine C8.out.mono ?_; rintro r w1 ⟨rfl, A1⟩; have K1 := hid A1; clear A1 C8)
      | (go_at_call 20; refine (C20 _).mono ?_; rintro r w2 ⟨rfl, h2⟩; subst w2))
    go_ret
    exact ⟨rfl, K1.out.into List.mem_cons_self⟩
  obtain ⟨e1, e2⟩ := hev
  obtain ⟨n, rfl⟩ : ∃ n : Nat, ev = (n : Int) := ⟨ev.toNat, by omega⟩
  go_enter Tryz.func5, Tryz.ntmps5
  have C20 : ∀ w : World, Calls Tryz.prog 20 #[.int .i64 (n : Int)] w fun e w' => e = .returned (.bool true) ∧ w' = w := fun w => by
    have := mayE_any (w := w) (n : Int)
    rw [show decide (1 ≤ (n : Int) ∧ (n : Int) ≤ 64) = true by simp; omega] at this
    exact this
  go_upto_region 8 with (first
    | (go_at_call 8; refine C8.out.mono ?_; rintro r w1 ⟨rfl, A1⟩; have C22 := hid (run_nil (ev := n) (by omega) (by omega) A1); clear A1 C8)
    | (go_at_call 20; refine (C20 _).mono ?_; rintro r w2 ⟨rfl, h2⟩; subst w2)
    | (go_at_call 22; refine C22.out.mono ?_; rintro r w3 ⟨X, a, rfl, hO, A3⟩; have K3 := hid A3; have HO := hid hO; clear A3 hO C22))
  have K4 : Hid (All ((EM.zero n).L X a (blkC w3.heap.size (lastV (EM.zero n).ps) 69 :: [inC W])) (w3.alloc (.cells #[Value.int .i64 0, Value.int .i64 0, Value.int .i64 0, Value.int .i64 0, Value.int .i64 0, Value.int .i64 0, Value.int .i64 0, Value.int .i64 0] 69))) := hid (EM.front (K3.out.addBlk (lastV (List.replicate 8 .zero)) 69))
  go_upto_region 9 with fail
  generalize w3.alloc (.cells #[Value.int .i64 0, Value.int .i64 0, Value.int .i64 0, Value.int .i64 0, Value.int .i64 0, Value.int .i64 0, Value.int .i64 0, Value.int .i64 0] 69) = w4 at *
  generalize w3.heap.size = Lb at *
  have ENT : Hid (∀ (cs : List Comp) (W' : World) (i : Nat) (x : En), All cs W' → inC W ∈ cs → l[i]? = some x → ∃ g o, lo = some ⟨g, o, none⟩ ∧
    W'.cell? ⟨g, o + i * 7, none⟩ = some (.int .i64 x.c) ∧ W'.cell? ⟨g, o + i * 7 + 1, none⟩ = some (.int .i64 x.q) ∧ W'.cell? ⟨g, o + i * 7 + 2, none⟩ = some (.int .i64 x.k) ∧ W'.cell? ⟨g, o + i * 7 + 3, none⟩ = some (.string x.nm) ∧ W'.cell? ⟨g, o + i * 7 + 4, none⟩ = some (.string x.tx) ∧ W'.cell? ⟨g, o + i * 7 + 5, none⟩ = some (.int .i64 x.n) ∧ W'.cell? ⟨g, o + i * 7 + 6, none⟩ = some (.int .i64 x.m)) := hid (fun cs W' i x h hm hx => HV.out.cells (h.into hm) hx)
  clear K3 HV C20
  have hl : l.length ≤ 1954687338211 := by have := HL.out; omega
  have H0 : Hid (∃ (e : EM) (a : EX), e.Ok 0 a ∧ All (e.L X a (blkC Lb (lastV e.ps) 69 :: [inC W])) w4) := hid ⟨_, _, HO.out, K4.out⟩
  clear K4 HO
  go_wp2
  go_loopw [7] (fun iv wr => ∃ (i : Nat), i ≤ l.length ∧ iv = .int .i64 (i : Int) ∧ Hid (∃ (e : EM) (a : EX), e.Ok i a ∧ All (e.L X a (blkC Lb (lastV e.ps) 69 :: [inC W])) wr)) (fun iv _ => l.length - (intOf iv).toNat)
  case atStart => exact ⟨0, by omega, rfl, H0⟩
  case round =>
    obtain ⟨i, hi, rfl, hI⟩ := hrel
    obtain ⟨e, a, hO, hA⟩ := hI.out
    have HO := hid hO
    have HA := hid hA
    clear hI hO hA H0
    by_cases hlt : i < l.length
    case neg =>
      go_wp2
      go_ret
      exact ⟨rfl, (EM.tl HA.out).into (List.mem_cons_of_mem _ List.mem_cons_self)⟩
    have XI : Hid (l[i]? = some l[i]) := hid (List.getElem?_eq_getElem hlt)
    generalize l[i] = x at XI
    have k0 : (0 : Int) ≤ (i : Int) := by omega
    have k1 : (i : Int) < (l.length : Int) := by omega
    have C29 := hid (Sheets_any HO.out HA.out)
    go_upto_region 13 with (go_at_call 29; refine C29.out.mono ?_; rintro r w5 ⟨v, ys, rfl, hys, A5⟩; have K5 := hid (EM.fronts (xs := rowC 78 3 v ys.length (flatX ys) :: ys.map datC) A5); have HY := hid hys; clear A5 hys C29)
    have xo : w5.cell? ⟨X, 0, none⟩ = some (.int .i64 (e.op : Int)) := cell_in (o := 0) K5.out EM.box rfl
    obtain ⟨g, o, rfl, p0, p1, p2, p3, p4, p5, p6⟩ := ENT.out _ w5 i x K5.out (by simp [EM.L]) XI.out
    have C26 : Hid (Calls Tryz.prog 26 #[.pointer (some ⟨X, 0, none⟩), .agg #[.int .i64 x.c, .int .i64 x.q, .int .i64 x.k, .string x.nm, .string x.tx, .int .i64 x.n, .int .i64 x.m]] w5 fun r w' => ∃ e' a' xx y items fr er so sc, r = .returned (.tuple #[resV xx y (.slice so (List.length items) sc), .bool fr, .int .i64 er]) ∧ ApE e x.c x.q x.k x.nm x.tx x.n x.m e' xx y items fr er ∧ e'.Ok (i + 1) a' ∧ All (ownC 9 (.slice so items.length sc) (txtV items) :: e'.L X a' ((rowC 78 3 v ys.length (flatX ys) :: ys.map datC) ++ (blkC Lb (lastV e.ps) 69 :: [inC W]))) w') := hid (Apply_any (w0 := W) (by simp) HT.out HO.out (by omega) K5.out)
    go_upto_region 15 with (first
      | (go_at_call 14; refine (Op_any xo).mono ?_; rintro r w6 ⟨rfl, h6⟩; subst w6)
      | (go_at_call 26; refine C26.out.mono ?_; rintro r w6 ⟨e', a', xx, y, items, fr, er, so, sc, rfl, hAp, hO', A6⟩; have K6 := hid ((EM.front A6).addBlk [.int .i64 xx, .int .i64 y, .slice so items.length sc] 56); have HO' := hid hO'; have AP := hid hAp; clear A6 hO' hAp C26))
    have K7 := hid (EM.front K6.out)
    generalize w6.alloc (.cells #[.int .i64 xx, .int .i64 y, .slice so items.length sc] 56) = w7 at *
    generalize w6.heap.size = R at *
    have xo' : w7.cell? ⟨X, 0, none⟩ = some (.int .i64 (e'.op : Int)) := cell_in (o := 0) K7.out EM.box rfl
    have RC : Hid (∀ (W' : World) (cs' : List Comp), All cs' W' → blkC R [.int .i64 xx, .int .i64 y, .slice so items.length sc] 56 ∈ cs' → W'.cell? ⟨R, 0, none⟩ = some (.int .i64 xx) ∧ W'.cell? ⟨R, 1, none⟩ = some (.int .i64 y) ∧ W'.cell? ⟨R, 2, none⟩ = some (.slice so items.length sc)) := hid (fun W' cs' h hm => ⟨cell_in h hm rfl, cell_in h hm rfl, cell_in h hm rfl⟩)
    have RT : Hid (∀ (W' : World) (cs' : List Comp), All cs' W' → ownC 9 (.slice so items.length sc) (txtV items) ∈ cs' → Txts W' (.slice so items.length sc) items) := hid (fun W' cs' h hm => txts_mem h hm)
    go_upto_region 16 with (go_at_call 14; refine (Op_any xo').mono ?_; rintro r w8 ⟨rfl, h8⟩; subst w8)
    clear p0 p1 p2 p3 p4 p5 p6 xo xo' K5 K6 k1 k0
    by_cases her : er = 0
    case neg =>
      have d1 : (er != 0) = true := by simpa using her
      obtain ⟨rfl, rfl, rfl, rfl, rfl⟩ := AP.out.isBad her
      have DI : ∀ d ∈ ys.map datC, d ∈ (blkC R [.int .i64 0, .int .i64 0, .slice so ([] : List ByteArray).length sc] 56 :: ownC 9 (.slice so ([] : List ByteArray).length sc) (txtV []) :: ((rowC 78 3 v ys.length (flatX ys) :: ys.map datC) ++ (blkC Lb (lastV e'.ps) 69 :: [inC W]))) := fun d hd => List.mem_cons_of_mem _ (List.mem_cons_of_mem _ (List.mem_append_left _ (List.mem_cons_of_mem _ hd)))
      have C29 := hid (again_any (v := v) HO'.out HY.out (by simp) DI K7.out)
      have d2 : ((e'.op : Int) != (e'.op : Int)) = false := by simp
      go_wp2_with (first
        | (go_at_call 29; refine C29.out.mono ?_; rintro r w8 ⟨v2, rfl, h28⟩; have C28 := hid h28; clear h28 C29)
        | (go_at_call 28; refine C28.out.mono ?_; rintro r w9 ⟨rfl, A9⟩; have K9 := hid A9; obtain ⟨q0, q1, q2⟩ := RC.out _ _ K9.out (by simp [EM.L]); have C30 := hid (sameResult_true 0 0 (RT.out _ _ K9.out (by simp [EM.L])) (Txts.none0 w9) (by simp)); clear A9 C28)
        | (go_at_call 30; refine C30.out.mono ?_; rintro r w10 ⟨rfl, h10⟩; have K10 := hid (All.later K9.out h10); clear h10 C30))
      go_roundw
      case rel => exact ⟨i + 1, by omega, by go_num, hid ⟨e', a', HO'.out, by
        have := K10.out
        exact EM.less (xs := blkC R _ 56 :: ownC 9 _ _ :: (rowC 78 3 v ys.length (flatX ys) :: ys.map datC)) this⟩⟩
      case measure => simp [intOf]; omega
    subst her
    obtain ⟨ho, hq, i0, p, T', S', ps', hc, hi0, hp, he', hA⟩ := AP.out.isOk rfl
    have hpo := HO.out.pok p (List.mem_of_getElem? hp)
    have hfr : fr = decide (x.q > p.n) := by
      cases hA with
      | same h => symm; simp; omega
      | old h => symm; simp; omega
      | new h s' hD => symm; simp; omega
    have hop : (e'.op : Int) = (e.op : Int) + 1 := by
      rw [he']
      show ((e.op + 1 : Nat) : Int) = _
      omega
    have HAS := hid hA
    have HE := hid he'
    have HP := hid hp
    have HPO := hid hpo
    clear hA he' hpo hp
    have hw1 : IntKind.i64.wrap ((e.op : Int) + 1) = (e.op : Int) + 1 := by simp [IntKind.wrap, IntKind.bits, IntKind.signed]; omega
    have d2 : ((e'.op : Int) != (e.op : Int) + 1) = false := by simp [hop]
    have d3 : decide ((i0 : Int) < 0) = false := by simp
    have d4 : decide ((i0 : Int) ≥ 8) = false := by simp; omega
    have d5 : decide (8 ≤ (i0 : Int)) = false := by simp; omega
    have d6 : (fr != decide (x.q > p.n)) = false := by rw [hfr]; simp
    have d7 : (fr != decide (p.n < x.q)) = false := d6
    obtain ⟨g', o', eg, p0, p1, _⟩ := ENT.out _ w7 i x K7.out (by simp [EM.L]) XI.out
    injection eg with eg
    injection eg with eg1 eg2
    subst eg1 eg2
    rw [hc] at p0
    have l0 : w7.cell? ⟨Lb, i0, none⟩ = some (.int .i64 p.n) := cell_in (P := Lb) (t := 69) (C := lastV e.ps) K7.out (by simp [EM.L]) (lastV_get HP.out)
    have k0 : (0 : Int) ≤ (i : Int) := by omega
    have k1 : (i : Int) < (l.length : Int) := by omega
    have k2 : (0 : Int) ≤ (i0 : Int) := by omega
    have k3 : (i0 : Int) < 8 := by omega
    go_upto_region 20 with fail
    go_region
    have K8 := hid (All.drew K7.out)
    generalize w7.drew = w8 at *
    have HOP := hid hop
    clear p0 p1 l0 hop hfr d6 d7 d2 d3 d4 d5 hw1
    have hps : e'.ps = ps' := by rw [HE.out]; rfl
    cases HAS.out with
    | new hn s' hD =>
      rename_i j
      have hp' : e'.ps[i0]? = some ⟨true, x.q, ((e.op + 1 : Nat) : Int), xx, y, s', items⟩ := by
        rw [hps, List.getElem?_set_self]
        exact (List.getElem?_eq_some_iff.1 HP.out).1
      obtain ⟨z, hz⟩ : ∃ z : Int, Hid (z = ((e.op + 1 : Nat) : Int)) := ⟨_, hid rfl⟩
      rw [← hz.out] at hp'
      have C25 : Hid (Calls Tryz.prog 25 #[.pointer (some ⟨X, 0, none⟩), .int .i64 (i0 : Int)] w8 fun r w' => ∃ ao c', r = .returned (.tuple #[rowV x.q z xx y (.slice ao items.length c'), .bool true]) ∧ All (ownC 9 (.slice ao items.length c') (cellsT items) :: e'.L X a' (blkC R [.int .i64 xx, .int .i64 y, .slice so items.length sc] 56 :: ownC 9 (.slice so items.length sc) (txtV items) :: ((rowC 78 3 v ys.length (flatX ys) :: ys.map datC) ++ (blkC Lb (lastV e.ps) 69 :: [inC W])))) w') := hid (LastE_any HO'.out hp' hi0 K8.out)
      go_upto_region 23 with (go_at_call 25; refine C25.out.mono ?_; rintro r w9 ⟨ao, c', rfl, A9⟩; have K9 := hid ((EM.front A9).addBlk [.int .i64 x.q, .int .i64 z, .int .i64 xx, .int .i64 y, .slice ao items.length c'] 60); clear A9 C25)
      have K10 := hid (EM.front K9.out)
      generalize w9.alloc (.cells #[.int .i64 x.q, .int .i64 z, .int .i64 xx, .int .i64 y, .slice ao items.length c'] 60) = w10 at *
      generalize w9.heap.size = Q at *
      obtain ⟨g', o', eg, p0, p1, _⟩ := ENT.out _ w10 i x K10.out (by simp [EM.L]) XI.out
      injection eg with eg
      injection eg with eg1 eg2
      subst eg1 eg2
      rw [hc] at p0
      have l0 : w10.cell? ⟨Lb, i0, none⟩ = some (.int .i64 p.n) := cell_in (P := Lb) (t := 69) (C := lastV e.ps) K10.out (by simp [EM.L]) (lastV_get HP.out)
      have l1 : w10.frozen? ⟨Lb, i0, none⟩ = false := free_in (P := Lb) (t := 69) (C := lastV e.ps) K10.out (by simp [EM.L]) i0
      go_upto_region 25 with fail
      have K12 : Hid (All (e'.L X a' ((blkC Q [.int .i64 x.q, .int .i64 z, .int .i64 xx, .int .i64 y, .slice ao items.length c'] 60 :: ownC 9 (.slice ao items.length c') (cellsT items) :: blkC R [.int .i64 xx, .int .i64 y, .slice so items.length sc] 56 :: ownC 9 (.slice so items.length sc) (txtV items) :: (rowC 78 3 v ys.length (flatX ys) :: ys.map datC)) ++ (blkC Lb (lastV e'.ps) 69 :: [inC W]))) (w10.setCell ⟨Lb, i0, none⟩ (.int .i64 x.q))) := hid (by
        have := EM.store (xs := blkC Q [.int .i64 x.q, .int .i64 z, .int .i64 xx, .int .i64 y, .slice ao items.length c'] 60 :: ownC 9 (.slice ao items.length c') (cellsT items) :: blkC R [.int .i64 xx, .int .i64 y, .slice so items.length sc] 56 :: ownC 9 (.slice so items.length sc) (txtV items) :: (rowC 78 3 v ys.length (flatX ys) :: ys.map datC)) K10.out i0 (.int .i64 x.q)
        rw [hps, lastV_set]
        exact this)
      generalize w10.setCell ⟨Lb, i0, none⟩ (.int .i64 x.q) = w11 at *
      have hlen8 : items.length ≤ 8 := (may_parts (Pl.onM (HO'.out.pok _ (List.mem_of_getElem? hp')).1 rfl)).2.2.2.2.2.2.2.2.2.1
      have FS : Hid (∀ W', All (e'.L X a' ((blkC Q [.int .i64 x.q, .int .i64 z, .int .i64 xx, .int .i64 y, .slice ao items.length c'] 60 :: ownC 9 (.slice ao items.length c') (cellsT items) :: blkC R [.int .i64 xx, .int .i64 y, .slice so items.length sc] 56 :: ownC 9 (.slice so items.length sc) (txtV items) :: (rowC 78 3 v ys.length (flatX ys) :: ys.map datC)) ++ (blkC Lb (lastV e'.ps) 69 :: [inC W]))) W' → W'.cell? ⟨Q, 0, none⟩ = some (.int .i64 x.q) ∧ W'.cell? ⟨Q, 1, none⟩ = some (.int .i64 z) ∧ W'.cell? ⟨Q, 2, none⟩ = some (.int .i64 xx) ∧ W'.cell? ⟨Q, 3, none⟩ = some (.int .i64 y) ∧ W'.cell? ⟨Q, 4, none⟩ = some (.slice ao items.length c') ∧ W'.cell? ⟨R, 0, none⟩ = some (.int .i64 xx) ∧ W'.cell? ⟨R, 1, none⟩ = some (.int .i64 y) ∧ W'.cell? ⟨R, 2, none⟩ = some (.slice so items.length sc) ∧ W'.cell? ⟨g, o + i * 7 + 1, none⟩ = some (.int .i64 x.q)) := hid (fun W' h => by
        obtain ⟨g', o', eg, _, h1, _⟩ := ENT.out _ W' i x h (by simp [EM.L]) XI.out
        injection eg with eg
        injection eg with eg1 eg2
        subst eg1 eg2
        have hQ : blkC Q [.int .i64 x.q, .int .i64 z, .int .i64 xx, .int .i64 y, .slice ao items.length c'] 60 ∈ (e'.L X a' ((blkC Q [.int .i64 x.q, .int .i64 z, .int .i64 xx, .int .i64 y, .slice ao items.length c'] 60 :: ownC 9 (.slice ao items.length c') (cellsT items) :: blkC R [.int .i64 xx, .int .i64 y, .slice so items.length sc] 56 :: ownC 9 (.slice so items.length sc) (txtV items) :: (rowC 78 3 v ys.length (flatX ys) :: ys.map datC)) ++ (blkC Lb (lastV e'.ps) 69 :: [inC W]))) := by simp [EM.L]
        have hR : blkC R [.int .i64 xx, .int .i64 y, .slice so items.length sc] 56 ∈ (e'.L X a' ((blkC Q [.int .i64 x.q, .int .i64 z, .int .i64 xx, .int .i64 y, .slice ao items.length c'] 60 :: ownC 9 (.slice ao items.length c') (cellsT items) :: blkC R [.int .i64 xx, .int .i64 y, .slice so items.length sc] 56 :: ownC 9 (.slice so items.length sc) (txtV items) :: (rowC 78 3 v ys.length (flatX ys) :: ys.map datC)) ++ (blkC Lb (lastV e'.ps) 69 :: [inC W]))) := by simp [EM.L]
        exact ⟨cell_in h hQ rfl, cell_in h hQ rfl, cell_in h hQ rfl, cell_in h hQ rfl, cell_in h hQ rfl, cell_in h hR rfl, cell_in h hR rfl, cell_in h hR rfl, h1⟩)
      have C30 : Hid (Calls Tryz.prog 30 #[resV xx y (.slice ao items.length c'), resV xx y (.slice so items.length sc)] w11.drew fun r w' => r = .returned (.bool true) ∧ Hid (All (e'.L X a' ((blkC Q [.int .i64 x.q, .int .i64 z, .int .i64 xx, .int .i64 y, .slice ao items.length c'] 60 :: ownC 9 (.slice ao items.length c') (cellsT items) :: blkC R [.int .i64 xx, .int .i64 y, .slice so items.length sc] 56 :: ownC 9 (.slice so items.length sc) (txtV items) :: (rowC 78 3 v ys.length (flatX ys) :: ys.map datC)) ++ (blkC Lb (lastV e'.ps) 69 :: [inC W]))) w') ∧ Hid (w'.cell? ⟨Q, 0, none⟩ = some (.int .i64 x.q) ∧ w'.cell? ⟨Q, 1, none⟩ = some (.int .i64 z) ∧ w'.cell? ⟨Q, 2, none⟩ = some (.int .i64 xx) ∧ w'.cell? ⟨Q, 3, none⟩ = some (.int .i64 y) ∧ w'.cell? ⟨Q, 4, none⟩ = some (.slice ao items.length c') ∧ w'.cell? ⟨R, 0, none⟩ = some (.int .i64 xx) ∧ w'.cell? ⟨R, 1, none⟩ = some (.int .i64 y) ∧ w'.cell? ⟨R, 2, none⟩ = some (.slice so items.length sc) ∧ w'.cell? ⟨g, o + i * 7 + 1, none⟩ = some (.int .i64 x.q))) := hid (by
        have h := All.drew K12.out
        refine (sameResult_true xx y (txts_mem (l := items) h (by simp [EM.L])) (txts_mem (l := items) h (by simp [EM.L, cellsT])) (by omega)).mono ?_
        rintro r w' ⟨rfl, hb⟩
        have h2 := h.later hb
        exact ⟨rfl, hid h2, hid (FS.out _ h2)⟩)
      have q0 := hid (FS.out _ K12.out)
      have d1 : (x.q != x.q) = false := by simp
      have d2 : (z != (e'.op : Int)) = false := by
        have h1 := HOP.out
        have h2 := hz.out
        simp only [bne_eq_false_iff_eq]
        omega
      clear p0 p1 l0 l1 FS K9 K10 K8
      go_region_held3 (fun W' => W'.cell? ⟨Q, 0, none⟩ = some (.int .i64 x.q) ∧ W'.cell? ⟨Q, 1, none⟩ = some (.int .i64 z) ∧ W'.cell? ⟨Q, 2, none⟩ = some (.int .i64 xx) ∧ W'.cell? ⟨Q, 3, none⟩ = some (.int .i64 y) ∧ W'.cell? ⟨Q, 4, none⟩ = some (.slice ao items.length c') ∧ W'.cell? ⟨R, 0, none⟩ = some (.int .i64 xx) ∧ W'.cell? ⟨R, 1, none⟩ = some (.int .i64 y) ∧ W'.cell? ⟨R, 2, none⟩ = some (.slice so items.length sc) ∧ W'.cell? ⟨g, o + i * 7 + 1, none⟩ = some (.int .i64 x.q)) (first | exact q0.out | exact q1.out)
        (first
          | (go_at_call 30; refine C30.out.mono ?_; rintro r w12 ⟨rfl, K13, q1⟩))
      go_wp2
      go_roundw
      case rel => exact ⟨i + 1, by omega, by go_num, hid ⟨e', a', HO'.out, EM.less (xs := blkC Q [.int .i64 x.q, .int .i64 z, .int .i64 xx, .int .i64 y, .slice ao items.length c'] 60 :: ownC 9 (.slice ao items.length c') (cellsT items) :: blkC R [.int .i64 xx, .int .i64 y, .slice so items.length sc] 56 :: ownC 9 (.slice so items.length sc) (txtV items) :: (rowC 78 3 v ys.length (flatX ys) :: ys.map datC)) K13.out⟩⟩
      case measure => simp [intOf]; omega
    | same h =>
      have hon : p.on = true := Pl.isOn HPO.out.1 (by omega)
      have hlen8 : p.l.length ≤ 8 := (may_parts (Pl.onM HPO.out.1 hon)).2.2.2.2.2.2.2.2.2.1
      have hp' : e'.ps[i0]? = some p := by rw [hps]; exact HP.out
      have C25 : Hid (Calls Tryz.prog 25 #[.pointer (some ⟨X, 0, none⟩), .int .i64 (i0 : Int)] w8 fun r w' => ∃ ao c', r = .returned (.tuple #[rowV p.n p.a p.c p.k (.slice ao p.l.length c'), .bool true]) ∧ All (ownC 9 (.slice ao p.l.length c') (cellsT p.l) :: e'.L X a' (blkC R [.int .i64 p.c, .int .i64 p.k, .slice so p.l.length sc] 56 :: ownC 9 (.slice so p.l.length sc) (txtV p.l) :: ((rowC 78 3 v ys.length (flatX ys) :: ys.map datC) ++ (blkC Lb (lastV e'.ps) 69 :: [inC W])))) w') := hid (by
        have h := K8.out
        rw [← hps] at h
        refine (LastE_any HO'.out hp' hi0 h).mono ?_
        rintro r w' ⟨ao, c', rfl, h2⟩
        rw [hon]
        exact ⟨ao, c', rfl, h2⟩)
      have HON := hid hon
      have HH := hid h
      clear hon h hps hp'
      go_upto_region 23 with (go_at_call 25; refine C25.out.mono ?_; rintro r w9 ⟨ao, c', rfl, A9⟩; have K9 := hid ((EM.front A9).addBlk [.int .i64 p.n, .int .i64 p.a, .int .i64 p.c, .int .i64 p.k, .slice ao p.l.length c'] 60); clear A9 C25)
      have K10 := hid (EM.front K9.out)
      generalize w9.alloc (.cells #[.int .i64 p.n, .int .i64 p.a, .int .i64 p.c, .int .i64 p.k, .slice ao p.l.length c'] 60) = w10 at *
      generalize w9.heap.size = Q at *
      have K10' : Hid (All (e'.L X a' ((blkC Q [.int .i64 p.n, .int .i64 p.a, .int .i64 p.c, .int .i64 p.k, .slice ao p.l.length c'] 60 :: ownC 9 (.slice ao p.l.length c') (cellsT p.l) :: blkC R [.int .i64 p.c, .int .i64 p.k, .slice so p.l.length sc] 56 :: ownC 9 (.slice so p.l.length sc) (txtV p.l) :: (rowC 78 3 v ys.length (flatX ys) :: ys.map datC)) ++ (blkC Lb (lastV e'.ps) 69 :: [inC W]))) w10) := hid K10.out
      have DI : ∀ d ∈ ys.map datC, d ∈ (blkC Q [.int .i64 p.n, .int .i64 p.a, .int .i64 p.c, .int .i64 p.k, .slice ao p.l.length c'] 60 :: ownC 9 (.slice ao p.l.length c') (cellsT p.l) :: blkC R [.int .i64 p.c, .int .i64 p.k, .slice so p.l.length sc] 56 :: ownC 9 (.slice so p.l.length sc) (txtV p.l) :: (rowC 78 3 v ys.length (flatX ys) :: ys.map datC)) ++ (blkC Lb (lastV e'.ps) 69 :: [inC W]) := fun d hd => List.mem_append_left _ (List.mem_cons_of_mem _ (List.mem_cons_of_mem _ (List.mem_cons_of_mem _ (List.mem_cons_of_mem _ (List.mem_cons_of_mem _ hd)))))
      have C29 := hid (again_any (v := v) (ys := ys) HO'.out (by rw [HY.out, HE.out]; rfl) (by simp) DI K10'.out)
      clear K9 K10 DI
      go_upto_region 29 with (first
        | (go_at_call 29; refine C29.out.mono ?_; rintro r w11 ⟨v2, rfl, h28⟩; have C28 := hid h28; clear h28 C29)
        | (go_at_call 28; refine C28.out.mono ?_; rintro r w12 ⟨rfl, A12⟩; have K12 := hid A12; clear A12 C28))
      have FS : Hid (∀ W', All (e'.L X a' ((blkC Q [.int .i64 p.n, .int .i64 p.a, .int .i64 p.c, .int .i64 p.k, .slice ao p.l.length c'] 60 :: ownC 9 (.slice ao p.l.length c') (cellsT p.l) :: blkC R [.int .i64 p.c, .int .i64 p.k, .slice so p.l.length sc] 56 :: ownC 9 (.slice so p.l.length sc) (txtV p.l) :: (rowC 78 3 v ys.length (flatX ys) :: ys.map datC)) ++ (blkC Lb (lastV e'.ps) 69 :: [inC W]))) W' → W'.cell? ⟨Q, 0, none⟩ = some (.int .i64 p.n) ∧ W'.cell? ⟨Q, 1, none⟩ = some (.int .i64 p.a) ∧ W'.cell? ⟨Q, 2, none⟩ = some (.int .i64 p.c) ∧ W'.cell? ⟨Q, 3, none⟩ = some (.int .i64 p.k) ∧ W'.cell? ⟨Q, 4, none⟩ = some (.slice ao p.l.length c') ∧ W'.cell? ⟨R, 0, none⟩ = some (.int .i64 p.c) ∧ W'.cell? ⟨R, 1, none⟩ = some (.int .i64 p.k) ∧ W'.cell? ⟨R, 2, none⟩ = some (.slice so p.l.length sc) ∧ W'.cell? ⟨g, o + i * 7 + 1, none⟩ = some (.int .i64 x.q)) := hid (fun W' h => by
        obtain ⟨g', o', eg, _, h1, _⟩ := ENT.out _ W' i x h (by simp [EM.L]) XI.out
        injection eg with eg
        injection eg with eg1 eg2
        subst eg1 eg2
        have hQ : blkC Q [.int .i64 p.n, .int .i64 p.a, .int .i64 p.c, .int .i64 p.k, .slice ao p.l.length c'] 60 ∈ (e'.L X a' ((blkC Q [.int .i64 p.n, .int .i64 p.a, .int .i64 p.c, .int .i64 p.k, .slice ao p.l.length c'] 60 :: ownC 9 (.slice ao p.l.length c') (cellsT p.l) :: blkC R [.int .i64 p.c, .int .i64 p.k, .slice so p.l.length sc] 56 :: ownC 9 (.slice so p.l.length sc) (txtV p.l) :: (rowC 78 3 v ys.length (flatX ys) :: ys.map datC)) ++ (blkC Lb (lastV e'.ps) 69 :: [inC W]))) := by simp [EM.L]
        have hR : blkC R [.int .i64 p.c, .int .i64 p.k, .slice so p.l.length sc] 56 ∈ (e'.L X a' ((blkC Q [.int .i64 p.n, .int .i64 p.a, .int .i64 p.c, .int .i64 p.k, .slice ao p.l.length c'] 60 :: ownC 9 (.slice ao p.l.length c') (cellsT p.l) :: blkC R [.int .i64 p.c, .int .i64 p.k, .slice so p.l.length sc] 56 :: ownC 9 (.slice so p.l.length sc) (txtV p.l) :: (rowC 78 3 v ys.length (flatX ys) :: ys.map datC)) ++ (blkC Lb (lastV e'.ps) 69 :: [inC W]))) := by simp [EM.L]
        exact ⟨cell_in h hQ rfl, cell_in h hQ rfl, cell_in h hQ rfl, cell_in h hQ rfl, cell_in h hQ rfl, cell_in h hR rfl, cell_in h hR rfl, cell_in h hR rfl, h1⟩)
      have C30 : Hid (Calls Tryz.prog 30 #[resV p.c p.k (.slice so p.l.length sc), resV p.c p.k (.slice ao p.l.length c')] w12.drew fun r w' => r = .returned (.bool true) ∧ Hid (All (e'.L X a' ((blkC Q [.int .i64 p.n, .int .i64 p.a, .int .i64 p.c, .int .i64 p.k, .slice ao p.l.length c'] 60 :: ownC 9 (.slice ao p.l.length c') (cellsT p.l) :: blkC R [.int .i64 p.c, .int .i64 p.k, .slice so p.l.length sc] 56 :: ownC 9 (.slice so p.l.length sc) (txtV p.l) :: (rowC 78 3 v ys.length (flatX ys) :: ys.map datC)) ++ (blkC Lb (lastV e'.ps) 69 :: [inC W]))) w') ∧ Hid (w'.cell? ⟨Q, 0, none⟩ = some (.int .i64 p.n) ∧ w'.cell? ⟨Q, 1, none⟩ = some (.int .i64 p.a) ∧ w'.cell? ⟨Q, 2, none⟩ = some (.int .i64 p.c) ∧ w'.cell? ⟨Q, 3, none⟩ = some (.int .i64 p.k) ∧ w'.cell? ⟨Q, 4, none⟩ = some (.slice ao p.l.length c') ∧ w'.cell? ⟨R, 0, none⟩ = some (.int .i64 p.c) ∧ w'.cell? ⟨R, 1, none⟩ = some (.int .i64 p.k) ∧ w'.cell? ⟨R, 2, none⟩ = some (.slice so p.l.length sc) ∧ w'.cell? ⟨g, o + i * 7 + 1, none⟩ = some (.int .i64 x.q))) := hid (by
        have h := All.drew K12.out
        refine (sameResult_true p.c p.k (txts_mem (l := p.l) h (by simp [EM.L, cellsT])) (txts_mem (l := p.l) h (by simp [EM.L])) (by omega)).mono ?_
        rintro r w' ⟨rfl, hb⟩
        have h2 := h.later hb
        exact ⟨rfl, hid h2, hid (FS.out _ h2)⟩)
      have q0 := hid (FS.out _ K12.out)
      have hh := HH.out
      have d1 : (p.n == x.q) = true := by simpa using hh
      have d2 : (p.n != x.q) = false := by simpa using hh
      clear hh FS
      refine wp_region_held_drew (S := (fun W' => W'.cell? ⟨Q, 0, none⟩ = some (.int .i64 p.n) ∧ W'.cell? ⟨Q, 1, none⟩ = some (.int .i64 p.a) ∧ W'.cell? ⟨Q, 2, none⟩ = some (.int .i64 p.c) ∧ W'.cell? ⟨Q, 3, none⟩ = some (.int .i64 p.k) ∧ W'.cell? ⟨Q, 4, none⟩ = some (.slice ao p.l.length c') ∧ W'.cell? ⟨R, 0, none⟩ = some (.int .i64 p.c) ∧ W'.cell? ⟨R, 1, none⟩ = some (.int .i64 p.k) ∧ W'.cell? ⟨R, 2, none⟩ = some (.slice so p.l.length sc) ∧ W'.cell? ⟨g, o + i * 7 + 1, none⟩ = some (.int .i64 x.q))) (by kernel_rfl) (by exact q0.out) (fun hHeld => ?_)
      refine wpAnyH_take (i := 0) (oi := { dst := Option.some 148, op := Go.Op.fieldAddr 60 (Go.Operand.tmp 15) 0, type := 0, pos := "law.go:259", after := #[], guard := Option.none }) (v := ?_) rfl (by kernel_rfl) (by kernel_rfl) (by kernel_rfl) (fun _ _ _ h => h) (Or.inl ⟨by rfl, ?_⟩) hHeld ?_
      rotate_left
      · intro W hSw
        (try dsimp only at hSw)
        go_simp
        (try with_reducible rfl)
      (try simp only [Act.put, List.setIfInBounds_toArray, List.set_cons_zero, List.set_cons_succ])
      refine wpAnyH_take (i := 1) (oi := { dst := Option.some 149, op := Go.Op.load 3 (Go.Operand.tmp 148), type := 3, pos := "law.go:259", after := #[{ on := 0, ground := Go.Ground.data }], guard := Option.none }) (v := ?_) rfl (by kernel_rfl) (by kernel_rfl) (by kernel_rfl) (fun _ _ _ h => h) (Or.inl ⟨by rfl, ?_⟩) hHeld ?_
      rotate_left
      · intro W hSw
        (try dsimp only at hSw)
        go_simp
        (try with_reducible rfl)
      (try simp only [Act.put, List.setIfInBounds_toArray, List.set_cons_zero, List.set_cons_succ])
      refine wpAnyH_take (i := 2) (oi := { dst := Option.some 150, op := Go.Op.move (Go.Operand.tmp 1), type := 47, pos := "law.go:259", after := #[], guard := Option.none }) (v := ?_) rfl (by kernel_rfl) (by kernel_rfl) (by kernel_rfl) (fun _ _ _ h => h) (Or.inl ⟨by rfl, ?_⟩) hHeld ?_
      rotate_left
      · intro W hSw
        (try dsimp only at hSw)
        go_simp
        (try with_reducible rfl)
      (try simp only [Act.put, List.setIfInBounds_toArray, List.set_cons_zero, List.set_cons_succ])
      refine wpAnyH_take (i := 3) (oi := { dst := Option.some 151, op := Go.Op.move (Go.Operand.tmp 7), type := 3, pos := "law.go:259", after := #[], guard := Option.none }) (v := ?_) rfl (by kernel_rfl) (by kernel_rfl) (by kernel_rfl) (fun _ _ _ h => h) (Or.inl ⟨by rfl, ?_⟩) hHeld ?_
      rotate_left
      · intro W hSw
        (try dsimp only at hSw)
        go_simp
        (try with_reducible rfl)
      (try simp only [Act.put, List.setIfInBounds_toArray, List.set_cons_zero, List.set_cons_succ])
      refine wpAnyH_take (i := 4) (oi := { dst := Option.some 152, op := Go.Op.indexAddr 47 (Go.Operand.tmp 150) (Go.Operand.tmp 151), type := 0, pos := "law.go:259", after := #[{ on := 2, ground := Go.Ground.data }, { on := 3, ground := Go.Ground.data }], guard := Option.none }) (v := ?_) rfl (by kernel_rfl) (by kernel_rfl) (by kernel_rfl) (fun _ _ _ h => h) (Or.inl ⟨by rfl, ?_⟩) hHeld ?_
      rotate_left
      · intro W hSw
        (try dsimp only at hSw)
        go_simp
        (try with_reducible rfl)
      (try simp only [Act.put, List.setIfInBounds_toArray, List.set_cons_zero, List.set_cons_succ])
      refine wpAnyH_take (i := 5) (oi := { dst := Option.some 153, op := Go.Op.fieldAddr 36 (Go.Operand.tmp 152) 1, type := 0, pos := "law.go:259", after := #[{ on := 4, ground := Go.Ground.data }], guard := Option.none }) (v := ?_) rfl (by kernel_rfl) (by kernel_rfl) (by kernel_rfl) (fun _ _ _ h => h) (Or.inl ⟨by rfl, ?_⟩) hHeld ?_
      rotate_left
      · intro W hSw
        (try dsimp only at hSw)
        go_simp
        (try with_reducible rfl)
      (try simp only [Act.put, List.setIfInBounds_toArray, List.set_cons_zero, List.set_cons_succ])
      refine wpAnyH_take (i := 6) (oi := { dst := Option.some 154, op := Go.Op.load 3 (Go.Operand.tmp 153), type := 3, pos := "law.go:259", after := #[{ on := 5, ground := Go.Ground.data }], guard := Option.none }) (v := ?_) rfl (by kernel_rfl) (by kernel_rfl) (by kernel_rfl) (fun _ _ _ h => h) (Or.inl ⟨by rfl, ?_⟩) hHeld ?_
      rotate_left
      · intro W hSw
        (try dsimp only at hSw)
        go_simp
        (try with_reducible rfl)
      (try simp only [Act.put, List.setIfInBounds_toArray, List.set_cons_zero, List.set_cons_succ])
      refine wpAnyH_take (i := 7) (oi := { dst := Option.some 155, op := Go.Op.binOp Go.BinOp.eql 3 (Go.Operand.tmp 149) (Go.Operand.tmp 154) 3, type := 4, pos := "law.go:259", after := #[{ on := 1, ground := Go.Ground.data }, { on := 6, ground := Go.Ground.data }], guard := Option.none }) (v := ?_) rfl (by kernel_rfl) (by kernel_rfl) (by kernel_rfl) (fun _ _ _ h => h) (Or.inl ⟨by rfl, ?_⟩) hHeld ?_
      rotate_left
      · intro W hSw
        (try dsimp only at hSw)
        go_simp
        (try with_reducible rfl)
      (try simp only [Act.put, List.setIfInBounds_toArray, List.set_cons_zero, List.set_cons_succ])
      refine wpAnyH_take (i := 8) (oi := { dst := Option.some 156, op := Go.Op.move (Go.Operand.tmp 155), type := 4, pos := "law.go:259", after := #[{ on := 7, ground := Go.Ground.data }], guard := Option.none }) (v := ?_) rfl (by kernel_rfl) (by kernel_rfl) (by kernel_rfl) (fun _ _ _ h => h) (Or.inl ⟨by rfl, ?_⟩) hHeld ?_
      rotate_left
      · intro W hSw
        (try dsimp only at hSw)
        go_simp
        (try with_reducible rfl)
      (try simp only [Act.put, List.setIfInBounds_toArray, List.set_cons_zero, List.set_cons_succ])
      refine wpAnyH_take (i := 9) (oi := { dst := Option.some 157, op := Go.Op.load 56 (Go.Operand.tmp 10), type := 56, pos := "law.go:259", after := #[{ on := 8, ground := Go.Ground.guard }], guard := Option.some (8, Bool.true) }) (v := ?_) rfl (by kernel_rfl) (by kernel_rfl) (by kernel_rfl) (fun _ _ _ h => h) (Or.inl ⟨by rfl, ?_⟩) hHeld ?_
      rotate_left
      · intro W hSw
        (try dsimp only at hSw)
        go_simp
        (try with_reducible rfl)
      (try simp only [Act.put, List.setIfInBounds_toArray, List.set_cons_zero, List.set_cons_succ])
      refine wpAnyH_take (i := 10) (oi := { dst := Option.some 158, op := Go.Op.fieldAddr 60 (Go.Operand.tmp 15) 2, type := 0, pos := "law.go:259", after := #[{ on := 8, ground := Go.Ground.guard }], guard := Option.some (8, Bool.true) }) (v := ?_) rfl (by kernel_rfl) (by kernel_rfl) (by kernel_rfl) (fun _ _ _ h => h) (Or.inl ⟨by rfl, ?_⟩) hHeld ?_
      rotate_left
      · intro W hSw
        (try dsimp only at hSw)
        go_simp
        (try with_reducible rfl)
      (try simp only [Act.put, List.setIfInBounds_toArray, List.set_cons_zero, List.set_cons_succ])
      refine wpAnyH_take (i := 11) (oi := { dst := Option.some 159, op := Go.Op.load 56 (Go.Operand.tmp 158), type := 56, pos := "law.go:259", after := #[{ on := 10, ground := Go.Ground.data }, { on := 8, ground := Go.Ground.guard }], guard := Option.some (8, Bool.true) }) (v := ?_) rfl (by kernel_rfl) (by kernel_rfl) (by kernel_rfl) (fun _ _ _ h => h) (Or.inl ⟨by rfl, ?_⟩) hHeld ?_
      rotate_left
      · intro W hSw
        (try dsimp only at hSw)
        go_simp
        (try with_reducible rfl)
      (try simp only [Act.put, List.setIfInBounds_toArray, List.set_cons_zero, List.set_cons_succ])
      refine wpAnyH_ready (rs := [12]) (by kernel_rfl) (by simp) ?_
      refine AllReadyH.cons (o := { dst := Option.some 160, op := Go.Op.call { callee := Go.Callee.value (Go.Operand.func 30), args := #[Go.Operand.tmp 157, Go.Operand.tmp 159], argTypes := #[56, 56] }, type := 4, pos := "law.go:259", after := #[{ on := 9, ground := Go.Ground.data }, { on := 11, ground := Go.Ground.data }, { on := 8, ground := Go.Ground.chain }, { on := 8, ground := Go.Ground.guard }], guard := Option.some (8, Bool.true) }) rfl (fun K hK => ?_) AllReadyH.nil
      go_simp
      go_at_call 30
      refine C30.out.mono ?_
      rintro r w13 ⟨rfl, K13, q1⟩
      refine hK.out _ _ q1.out (fun hHeld => ?_)
      clear hK K
      (try simp only [Act.put, List.setIfInBounds_toArray, List.set_cons_zero, List.set_cons_succ])
      refine wpAnyH_take (i := 13) (oi := { dst := Option.some 161, op := Go.Op.unOp Go.UnOp.not 4 (Go.Operand.tmp 160), type := 4, pos := "law.go:259", after := #[{ on := 12, ground := Go.Ground.data }, { on := 8, ground := Go.Ground.guard }], guard := Option.some (8, Bool.true) }) (v := ?_) rfl (by kernel_rfl) (by kernel_rfl) (by kernel_rfl) (fun _ _ _ h => h) (Or.inl ⟨by rfl, ?_⟩) hHeld ?_
      rotate_left
      · intro W hSw
        (try dsimp only at hSw)
        go_simp
        (try with_reducible rfl)
      (try simp only [Act.put, List.setIfInBounds_toArray, List.set_cons_zero, List.set_cons_succ])
      refine wpAnyH_take (i := 14) (oi := { dst := Option.some 162, op := Go.Op.pick (Go.Operand.tmp 156) (Go.Operand.tmp 161) (Go.Operand.const (Go.Value.bool Bool.false)), type := 4, pos := "law.go:259", after := #[{ on := 8, ground := Go.Ground.data }, { on := 13, ground := Go.Ground.data }], guard := Option.none }) (v := ?_) rfl (by kernel_rfl) (by kernel_rfl) (by kernel_rfl) (fun _ _ _ h => h) (Or.inl ⟨by rfl, ?_⟩) hHeld ?_
      rotate_left
      · intro W hSw
        (try dsimp only at hSw)
        go_simp
        (try with_reducible rfl)
      (try simp only [Act.put, List.setIfInBounds_toArray, List.set_cons_zero, List.set_cons_succ])
      refine wpAnyH_take (i := 15) (oi := { dst := Option.some 163, op := Go.Op.move (Go.Operand.tmp 162), type := 4, pos := "law.go:259", after := #[{ on := 14, ground := Go.Ground.data }, { on := 12, ground := Go.Ground.chain }], guard := Option.none }) (v := ?_) rfl (by kernel_rfl) (by kernel_rfl) (by kernel_rfl) (fun _ _ _ h => h) (Or.inl ⟨by rfl, ?_⟩) hHeld ?_
      rotate_left
      · intro W hSw
        (try dsimp only at hSw)
        go_simp
        (try with_reducible rfl)
      (try simp only [Act.put, List.setIfInBounds_toArray, List.set_cons_zero, List.set_cons_succ])
      refine wpAnyH_take (i := 16) (oi := { dst := Option.some 164, op := Go.Op.fieldAddr 60 (Go.Operand.tmp 15) 0, type := 0, pos := "law.go:259", after := #[{ on := 15, ground := Go.Ground.guard }], guard := Option.some (15, Bool.false) }) (v := ?_) rfl (by kernel_rfl) (by kernel_rfl) (by kernel_rfl) (fun _ _ _ h => h) (Or.inl ⟨by rfl, ?_⟩) hHeld ?_
      rotate_left
      · intro W hSw
        (try dsimp only at hSw)
        go_simp
        (try with_reducible rfl)
      (try simp only [Act.put, List.setIfInBounds_toArray, List.set_cons_zero, List.set_cons_succ])
      refine wpAnyH_take (i := 17) (oi := { dst := Option.some 165, op := Go.Op.load 3 (Go.Operand.tmp 164), type := 3, pos := "law.go:259", after := #[{ on := 16, ground := Go.Ground.data }, { on := 15, ground := Go.Ground.guard }], guard := Option.some (15, Bool.false) }) (v := ?_) rfl (by kernel_rfl) (by kernel_rfl) (by kernel_rfl) (fun _ _ _ h => h) (Or.inl ⟨by rfl, ?_⟩) hHeld ?_
      rotate_left
      · intro W hSw
        (try dsimp only at hSw)
        go_simp
        (try with_reducible rfl)
      (try simp only [Act.put, List.setIfInBounds_toArray, List.set_cons_zero, List.set_cons_succ])
      refine wpAnyH_take (i := 18) (oi := { dst := Option.some 166, op := Go.Op.move (Go.Operand.tmp 1), type := 47, pos := "law.go:259", after := #[{ on := 15, ground := Go.Ground.guard }], guard := Option.some (15, Bool.false) }) (v := ?_) rfl (by kernel_rfl) (by kernel_rfl) (by kernel_rfl) (fun _ _ _ h => h) (Or.inl ⟨by rfl, ?_⟩) hHeld ?_
      rotate_left
      · intro W hSw
        (try dsimp only at hSw)
        go_simp
        (try with_reducible rfl)
      (try simp only [Act.put, List.setIfInBounds_toArray, List.set_cons_zero, List.set_cons_succ])
      refine wpAnyH_take (i := 19) (oi := { dst := Option.some 167, op := Go.Op.move (Go.Operand.tmp 7), type := 3, pos := "law.go:259", after := #[{ on := 15, ground := Go.Ground.guard }], guard := Option.some (15, Bool.false) }) (v := ?_) rfl (by kernel_rfl) (by kernel_rfl) (by kernel_rfl) (fun _ _ _ h => h) (Or.inl ⟨by rfl, ?_⟩) hHeld ?_
      rotate_left
      · intro W hSw
        (try dsimp only at hSw)
        go_simp
        (try with_reducible rfl)
      (try simp only [Act.put, List.setIfInBounds_toArray, List.set_cons_zero, List.set_cons_succ])
      refine wpAnyH_take (i := 20) (oi := { dst := Option.some 168, op := Go.Op.indexAddr 47 (Go.Operand.tmp 166) (Go.Operand.tmp 167), type := 0, pos := "law.go:259", after := #[{ on := 18, ground := Go.Ground.data }, { on := 19, ground := Go.Ground.data }, { on := 15, ground := Go.Ground.guard }], guard := Option.some (15, Bool.false) }) (v := ?_) rfl (by kernel_rfl) (by kernel_rfl) (by kernel_rfl) (fun _ _ _ h => h) (Or.inl ⟨by rfl, ?_⟩) hHeld ?_
      rotate_left
      · intro W hSw
        (try dsimp only at hSw)
        go_simp
        (try with_reducible rfl)
      (try simp only [Act.put, List.setIfInBounds_toArray, List.set_cons_zero, List.set_cons_succ])
      refine wpAnyH_take (i := 21) (oi := { dst := Option.some 169, op := Go.Op.fieldAddr 36 (Go.Operand.tmp 168) 1, type := 0, pos := "law.go:259", after := #[{ on := 20, ground := Go.Ground.data }, { on := 15, ground := Go.Ground.guard }], guard := Option.some (15, Bool.false) }) (v := ?_) rfl (by kernel_rfl) (by kernel_rfl) (by kernel_rfl) (fun _ _ _ h => h) (Or.inl ⟨by rfl, ?_⟩) hHeld ?_
      rotate_left
      · intro W hSw
        (try dsimp only at hSw)
        go_simp
        (try with_reducible rfl)
      (try simp only [Act.put, List.setIfInBounds_toArray, List.set_cons_zero, List.set_cons_succ])
      refine wpAnyH_take (i := 22) (oi := { dst := Option.some 170, op := Go.Op.load 3 (Go.Operand.tmp 169), type := 3, pos := "law.go:259", after := #[{ on := 21, ground := Go.Ground.data }, { on := 15, ground := Go.Ground.guard }], guard := Option.some (15, Bool.false) }) (v := ?_) rfl (by kernel_rfl) (by kernel_rfl) (by kernel_rfl) (fun _ _ _ h => h) (Or.inl ⟨by rfl, ?_⟩) hHeld ?_
      rotate_left
      · intro W hSw
        (try dsimp only at hSw)
        go_simp
        (try with_reducible rfl)
      (try simp only [Act.put, List.setIfInBounds_toArray, List.set_cons_zero, List.set_cons_succ])
      refine wpAnyH_take (i := 23) (oi := { dst := Option.some 171, op := Go.Op.binOp Go.BinOp.neq 3 (Go.Operand.tmp 165) (Go.Operand.tmp 170) 3, type := 4, pos := "law.go:259", after := #[{ on := 17, ground := Go.Ground.data }, { on := 22, ground := Go.Ground.data }, { on := 15, ground := Go.Ground.guard }], guard := Option.some (15, Bool.false) }) (v := ?_) rfl (by kernel_rfl) (by kernel_rfl) (by kernel_rfl) (fun _ _ _ h => h) (Or.inl ⟨by rfl, ?_⟩) hHeld ?_
      rotate_left
      · intro W hSw
        (try dsimp only at hSw)
        go_simp
        (try with_reducible rfl)
      (try simp only [Act.put, List.setIfInBounds_toArray, List.set_cons_zero, List.set_cons_succ])
      refine wpAnyH_take (i := 24) (oi := { dst := Option.some 172, op := Go.Op.move (Go.Operand.tmp 171), type := 4, pos := "law.go:259", after := #[{ on := 23, ground := Go.Ground.data }, { on := 15, ground := Go.Ground.chain }, { on := 15, ground := Go.Ground.guard }], guard := Option.some (15, Bool.false) }) (v := ?_) rfl (by kernel_rfl) (by kernel_rfl) (by kernel_rfl) (fun _ _ _ h => h) (Or.inl ⟨by rfl, ?_⟩) hHeld ?_
      rotate_left
      · intro W hSw
        (try dsimp only at hSw)
        go_simp
        (try with_reducible rfl)
      (try simp only [Act.put, List.setIfInBounds_toArray, List.set_cons_zero, List.set_cons_succ])
      refine wpAnyH_take (i := 25) (oi := { dst := Option.some 173, op := Go.Op.load 56 (Go.Operand.tmp 10), type := 56, pos := "law.go:259", after := #[{ on := 24, ground := Go.Ground.guard }], guard := Option.some (24, Bool.true) }) (v := undef) rfl (by kernel_rfl) (by kernel_rfl) (by kernel_rfl) (fun _ _ _ h => h) (Or.inr ⟨by rfl, rfl⟩) hHeld ?_
      (try simp only [Act.put, List.setIfInBounds_toArray, List.set_cons_zero, List.set_cons_succ])
      refine wpAnyH_take (i := 26) (oi := { dst := Option.some 174, op := Go.Op.build 56 #[], type := 56, pos := "law.go:259", after := #[{ on := 24, ground := Go.Ground.guard }], guard := Option.some (24, Bool.true) }) (v := undef) rfl (by kernel_rfl) (by kernel_rfl) (by kernel_rfl) (fun _ _ _ h => h) (Or.inr ⟨by rfl, rfl⟩) hHeld ?_
      (try simp only [Act.put, List.setIfInBounds_toArray, List.set_cons_zero, List.set_cons_succ])
      refine wpAnyH_take (i := 27) (oi := { dst := Option.some 175, op := Go.Op.call { callee := Go.Callee.value (Go.Operand.func 30), args := #[Go.Operand.tmp 173, Go.Operand.tmp 174], argTypes := #[56, 56] }, type := 4, pos := "law.go:259", after := #[{ on := 25, ground := Go.Ground.data }, { on := 26, ground := Go.Ground.data }, { on := 24, ground := Go.Ground.chain }, { on := 24, ground := Go.Ground.guard }], guard := Option.some (24, Bool.true) }) (v := undef) rfl (by kernel_rfl) (by kernel_rfl) (by kernel_rfl) (fun _ _ _ h => h) (Or.inr ⟨by rfl, rfl⟩) hHeld ?_
      (try simp only [Act.put, List.setIfInBounds_toArray, List.set_cons_zero, List.set_cons_succ])
      refine wpAnyH_take (i := 28) (oi := { dst := Option.some 176, op := Go.Op.unOp Go.UnOp.not 4 (Go.Operand.tmp 175), type := 4, pos := "law.go:259", after := #[{ on := 27, ground := Go.Ground.data }, { on := 24, ground := Go.Ground.guard }], guard := Option.some (24, Bool.true) }) (v := undef) rfl (by kernel_rfl) (by kernel_rfl) (by kernel_rfl) (fun _ _ _ h => h) (Or.inr ⟨by rfl, rfl⟩) hHeld ?_
      (try simp only [Act.put, List.setIfInBounds_toArray, List.set_cons_zero, List.set_cons_succ])
      refine wpAnyH_take (i := 29) (oi := { dst := Option.some 177, op := Go.Op.pick (Go.Operand.tmp 172) (Go.Operand.tmp 176) (Go.Operand.const (Go.Value.bool Bool.false)), type := 4, pos := "law.go:259", after := #[{ on := 24, ground := Go.Ground.data }, { on := 28, ground := Go.Ground.data }, { on := 15, ground := Go.Ground.guard }], guard := Option.some (15, Bool.false) }) (v := ?_) rfl (by kernel_rfl) (by kernel_rfl) (by kernel_rfl) (fun _ _ _ h => h) (Or.inl ⟨by rfl, ?_⟩) hHeld ?_
      rotate_left
      · intro W hSw
        (try dsimp only at hSw)
        go_simp
        (try with_reducible rfl)
      (try simp only [Act.put, List.setIfInBounds_toArray, List.set_cons_zero, List.set_cons_succ])
      refine wpAnyH_take (i := 30) (oi := { dst := Option.some 178, op := Go.Op.pick (Go.Operand.tmp 163) (Go.Operand.const (Go.Value.bool Bool.true)) (Go.Operand.tmp 177), type := 4, pos := "law.go:259", after := #[{ on := 15, ground := Go.Ground.data }, { on := 29, ground := Go.Ground.data }], guard := Option.none }) (v := ?_) rfl (by kernel_rfl) (by kernel_rfl) (by kernel_rfl) (fun _ _ _ h => h) (Or.inl ⟨by rfl, ?_⟩) hHeld ?_
      rotate_left
      · intro W hSw
        (try dsimp only at hSw)
        go_simp
        (try with_reducible rfl)
      (try simp only [Act.put, List.setIfInBounds_toArray, List.set_cons_zero, List.set_cons_succ])
      refine wpAnyH_done (by kernel_rfl) ?_ _
      go_wp2
      go_roundw
      case rel => exact ⟨i + 1, by omega, by go_num, hid ⟨e', a', HO'.out, EM.less (xs := (blkC Q [.int .i64 p.n, .int .i64 p.a, .int .i64 p.c, .int .i64 p.k, .slice ao p.l.length c'] 60 :: ownC 9 (.slice ao p.l.length c') (cellsT p.l) :: blkC R [.int .i64 p.c, .int .i64 p.k, .slice so p.l.length sc] 56 :: ownC 9 (.slice so p.l.length sc) (txtV p.l) :: (rowC 78 3 v ys.length (flatX ys) :: ys.map datC))) K13.out⟩⟩
      case measure => simp [intOf]; omega
    | old h =>
      have hon : p.on = true := Pl.isOn HPO.out.1 (by omega)
      have hlen8 : p.l.length ≤ 8 := (may_parts (Pl.onM HPO.out.1 hon)).2.2.2.2.2.2.2.2.2.1
      have hp' : e'.ps[i0]? = some p := by rw [hps]; exact HP.out
      have C25 : Hid (Calls Tryz.prog 25 #[.pointer (some ⟨X, 0, none⟩), .int .i64 (i0 : Int)] w8 fun r w' => ∃ ao c', r = .returned (.tuple #[rowV p.n p.a p.c p.k (.slice ao p.l.length c'), .bool true]) ∧ All (ownC 9 (.slice ao p.l.length c') (cellsT p.l) :: e'.L X a' (blkC R [.int .i64 0, .int .i64 0, .slice so ([] : List ByteArray).length sc] 56 :: ownC 9 (.slice so ([] : List ByteArray).length sc) (txtV ([] : List ByteArray)) :: ((rowC 78 3 v ys.length (flatX ys) :: ys.map datC) ++ (blkC Lb (lastV e'.ps) 69 :: [inC W])))) w') := hid (by
        have h := K8.out
        rw [← hps] at h
        refine (LastE_any HO'.out hp' hi0 h).mono ?_
        rintro r w' ⟨ao, c', rfl, h2⟩
        rw [hon]
        exact ⟨ao, c', rfl, h2⟩)
      have HON := hid hon
      have HH := hid h
      clear hon h hps hp'
      go_upto_region 23 with (go_at_call 25; refine C25.out.mono ?_; rintro r w9 ⟨ao, c', rfl, A9⟩; have K9 := hid ((EM.front A9).addBlk [.int .i64 p.n, .int .i64 p.a, .int .i64 p.c, .int .i64 p.k, .slice ao p.l.length c'] 60); clear A9 C25)
      have K10 := hid (EM.front K9.out)
      generalize w9.alloc (.cells #[.int .i64 p.n, .int .i64 p.a, .int .i64 p.c, .int .i64 p.k, .slice ao p.l.length c'] 60) = w10 at *
      generalize w9.heap.size = Q at *
      have K10' : Hid (All (e'.L X a' ((blkC Q [.int .i64 p.n, .int .i64 p.a, .int .i64 p.c, .int .i64 p.k, .slice ao p.l.length c'] 60 :: ownC 9 (.slice ao p.l.length c') (cellsT p.l) :: blkC R [.int .i64 0, .int .i64 0, .slice so ([] : List ByteArray).length sc] 56 :: ownC 9 (.slice so ([] : List ByteArray).length sc) (txtV ([] : List ByteArray)) :: (rowC 78 3 v ys.length (flatX ys) :: ys.map datC)) ++ (blkC Lb (lastV e'.ps) 69 :: [inC W]))) w10) := hid K10.out
      have DI : ∀ d ∈ ys.map datC, d ∈ (blkC Q [.int .i64 p.n, .int .i64 p.a, .int .i64 p.c, .int .i64 p.k, .slice ao p.l.length c'] 60 :: ownC 9 (.slice ao p.l.length c') (cellsT p.l) :: blkC R [.int .i64 0, .int .i64 0, .slice so ([] : List ByteArray).length sc] 56 :: ownC 9 (.slice so ([] : List ByteArray).length sc) (txtV ([] : List ByteArray)) :: (rowC 78 3 v ys.length (flatX ys) :: ys.map datC)) ++ (blkC Lb (lastV e'.ps) 69 :: [inC W]) := fun d hd => List.mem_append_left _ (List.mem_cons_of_mem _ (List.mem_cons_of_mem _ (List.mem_cons_of_mem _ (List.mem_cons_of_mem _ (List.mem_cons_of_mem _ hd)))))
      have C29 := hid (again_any (v := v) (ys := ys) HO'.out (by rw [HY.out, HE.out]; rfl) (by simp) DI K10'.out)
      clear K9 K10 DI
      go_upto_region 29 with (first
        | (go_at_call 29; refine C29.out.mono ?_; rintro r w11 ⟨v2, rfl, h28⟩; have C28 := hid h28; clear h28 C29)
        | (go_at_call 28; refine C28.out.mono ?_; rintro r w12 ⟨rfl, A12⟩; have K12 := hid A12; clear A12 C28))
      have FS : Hid (∀ W', All (e'.L X a' ((blkC Q [.int .i64 p.n, .int .i64 p.a, .int .i64 p.c, .int .i64 p.k, .slice ao p.l.length c'] 60 :: ownC 9 (.slice ao p.l.length c') (cellsT p.l) :: blkC R [.int .i64 0, .int .i64 0, .slice so ([] : List ByteArray).length sc] 56 :: ownC 9 (.slice so ([] : List ByteArray).length sc) (txtV ([] : List ByteArray)) :: (rowC 78 3 v ys.length (flatX ys) :: ys.map datC)) ++ (blkC Lb (lastV e'.ps) 69 :: [inC W]))) W' → W'.cell? ⟨Q, 0, none⟩ = some (.int .i64 p.n) ∧ W'.cell? ⟨Q, 1, none⟩ = some (.int .i64 p.a) ∧ W'.cell? ⟨Q, 2, none⟩ = some (.int .i64 p.c) ∧ W'.cell? ⟨Q, 3, none⟩ = some (.int .i64 p.k) ∧ W'.cell? ⟨Q, 4, none⟩ = some (.slice ao p.l.length c') ∧ W'.cell? ⟨R, 0, none⟩ = some (.int .i64 0) ∧ W'.cell? ⟨R, 1, none⟩ = some (.int .i64 0) ∧ W'.cell? ⟨R, 2, none⟩ = some (.slice so ([] : List ByteArray).length sc) ∧ W'.cell? ⟨g, o + i * 7 + 1, none⟩ = some (.int .i64 x.q)) := hid (fun W' h => by
        obtain ⟨g', o', eg, _, h1, _⟩ := ENT.out _ W' i x h (by simp [EM.L]) XI.out
        injection eg with eg
        injection eg with eg1 eg2
        subst eg1 eg2
        have hQ : blkC Q [.int .i64 p.n, .int .i64 p.a, .int .i64 p.c, .int .i64 p.k, .slice ao p.l.length c'] 60 ∈ (e'.L X a' ((blkC Q [.int .i64 p.n, .int .i64 p.a, .int .i64 p.c, .int .i64 p.k, .slice ao p.l.length c'] 60 :: ownC 9 (.slice ao p.l.length c') (cellsT p.l) :: blkC R [.int .i64 0, .int .i64 0, .slice so ([] : List ByteArray).length sc] 56 :: ownC 9 (.slice so ([] : List ByteArray).length sc) (txtV ([] : List ByteArray)) :: (rowC 78 3 v ys.length (flatX ys) :: ys.map datC)) ++ (blkC Lb (lastV e'.ps) 69 :: [inC W]))) := by simp [EM.L]
        have hR : blkC R [.int .i64 0, .int .i64 0, .slice so ([] : List ByteArray).length sc] 56 ∈ (e'.L X a' ((blkC Q [.int .i64 p.n, .int .i64 p.a, .int .i64 p.c, .int .i64 p.k, .slice ao p.l.length c'] 60 :: ownC 9 (.slice ao p.l.length c') (cellsT p.l) :: blkC R [.int .i64 0, .int .i64 0, .slice so ([] : List ByteArray).length sc] 56 :: ownC 9 (.slice so ([] : List ByteArray).length sc) (txtV ([] : List ByteArray)) :: (rowC 78 3 v ys.length (flatX ys) :: ys.map datC)) ++ (blkC Lb (lastV e'.ps) 69 :: [inC W]))) := by simp [EM.L]
        exact ⟨cell_in h hQ rfl, cell_in h hQ rfl, cell_in h hQ rfl, cell_in h hQ rfl, cell_in h hQ rfl, cell_in h hR rfl, cell_in h hR rfl, cell_in h hR rfl, h1⟩)
      have C30 : Hid (Calls Tryz.prog 30 #[resV 0 0 (.slice so ([] : List ByteArray).length sc), resV 0 0 (.slice none 0 0)] w12.drew fun r w' => r = .returned (.bool true) ∧ Hid (All (e'.L X a' ((blkC Q [.int .i64 p.n, .int .i64 p.a, .int .i64 p.c, .int .i64 p.k, .slice ao p.l.length c'] 60 :: ownC 9 (.slice ao p.l.length c') (cellsT p.l) :: blkC R [.int .i64 0, .int .i64 0, .slice so ([] : List ByteArray).length sc] 56 :: ownC 9 (.slice so ([] : List ByteArray).length sc) (txtV ([] : List ByteArray)) :: (rowC 78 3 v ys.length (flatX ys) :: ys.map datC)) ++ (blkC Lb (lastV e'.ps) 69 :: [inC W]))) w') ∧ Hid (w'.cell? ⟨Q, 0, none⟩ = some (.int .i64 p.n) ∧ w'.cell? ⟨Q, 1, none⟩ = some (.int .i64 p.a) ∧ w'.cell? ⟨Q, 2, none⟩ = some (.int .i64 p.c) ∧ w'.cell? ⟨Q, 3, none⟩ = some (.int .i64 p.k) ∧ w'.cell? ⟨Q, 4, none⟩ = some (.slice ao p.l.length c') ∧ w'.cell? ⟨R, 0, none⟩ = some (.int .i64 0) ∧ w'.cell? ⟨R, 1, none⟩ = some (.int .i64 0) ∧ w'.cell? ⟨R, 2, none⟩ = some (.slice so ([] : List ByteArray).length sc) ∧ w'.cell? ⟨g, o + i * 7 + 1, none⟩ = some (.int .i64 x.q))) := hid (by
        have h := All.drew K12.out
        refine (sameResult_true 0 0 (txts_mem (l := []) h (by simp [EM.L, cellsT])) (Txts.none0 _) (by simp)).mono ?_
        rintro r w' ⟨rfl, hb⟩
        have h2 := h.later hb
        exact ⟨rfl, hid h2, hid (FS.out _ h2)⟩)
      have q0 := hid (FS.out _ K12.out)
      have hh := HH.out
      have d1 : (p.n == x.q) = false := by simp; omega
      have d2 : (p.n != x.q) = true := by simp; omega
      clear hh FS
      refine wp_region_held_drew (S := (fun W' => W'.cell? ⟨Q, 0, none⟩ = some (.int .i64 p.n) ∧ W'.cell? ⟨Q, 1, none⟩ = some (.int .i64 p.a) ∧ W'.cell? ⟨Q, 2, none⟩ = some (.int .i64 p.c) ∧ W'.cell? ⟨Q, 3, none⟩ = some (.int .i64 p.k) ∧ W'.cell? ⟨Q, 4, none⟩ = some (.slice ao p.l.length c') ∧ W'.cell? ⟨R, 0, none⟩ = some (.int .i64 0) ∧ W'.cell? ⟨R, 1, none⟩ = some (.int .i64 0) ∧ W'.cell? ⟨R, 2, none⟩ = some (.slice so ([] : List ByteArray).length sc) ∧ W'.cell? ⟨g, o + i * 7 + 1, none⟩ = some (.int .i64 x.q))) (by kernel_rfl) (by exact q0.out) (fun hHeld => ?_)
      refine wpAnyH_take (i := 0) (oi := { dst := Option.some 148, op := Go.Op.fieldAddr 60 (Go.Operand.tmp 15) 0, type := 0, pos := "law.go:259", after := #[], guard := Option.none }) (v := ?_) rfl (by kernel_rfl) (by kernel_rfl) (by kernel_rfl) (fun _ _ _ h => h) (Or.inl ⟨by rfl, ?_⟩) hHeld ?_
      rotate_left
      · intro W hSw
        (try dsimp only at hSw)
        go_simp
        (try with_reducible rfl)
      (try simp only [Act.put, List.setIfInBounds_toArray, List.set_cons_zero, List.set_cons_succ])
      refine wpAnyH_take (i := 1) (oi := { dst := Option.some 149, op := Go.Op.load 3 (Go.Operand.tmp 148), type := 3, pos := "law.go:259", after := #[{ on := 0, ground := Go.Ground.data }], guard := Option.none }) (v := ?_) rfl (by kernel_rfl) (by kernel_rfl) (by kernel_rfl) (fun _ _ _ h => h) (Or.inl ⟨by rfl, ?_⟩) hHeld ?_
      rotate_left
      · intro W hSw
        (try dsimp only at hSw)
        go_simp
        (try with_reducible rfl)
      (try simp only [Act.put, List.setIfInBounds_toArray, List.set_cons_zero, List.set_cons_succ])
      refine wpAnyH_take (i := 2) (oi := { dst := Option.some 150, op := Go.Op.move (Go.Operand.tmp 1), type := 47, pos := "law.go:259", after := #[], guard := Option.none }) (v := ?_) rfl (by kernel_rfl) (by kernel_rfl) (by kernel_rfl) (fun _ _ _ h => h) (Or.inl ⟨by rfl, ?_⟩) hHeld ?_
      rotate_left
      · intro W hSw
        (try dsimp only at hSw)
        go_simp
        (try with_reducible rfl)
      (try simp only [Act.put, List.setIfInBounds_toArray, List.set_cons_zero, List.set_cons_succ])
      refine wpAnyH_take (i := 3) (oi := { dst := Option.some 151, op := Go.Op.move (Go.Operand.tmp 7), type := 3, pos := "law.go:259", after := #[], guard := Option.none }) (v := ?_) rfl (by kernel_rfl) (by kernel_rfl) (by kernel_rfl) (fun _ _ _ h => h) (Or.inl ⟨by rfl, ?_⟩) hHeld ?_
      rotate_left
      · intro W hSw
        (try dsimp only at hSw)
        go_simp
        (try with_reducible rfl)
      (try simp only [Act.put, List.setIfInBounds_toArray, List.set_cons_zero, List.set_cons_succ])
      refine wpAnyH_take (i := 4) (oi := { dst := Option.some 152, op := Go.Op.indexAddr 47 (Go.Operand.tmp 150) (Go.Operand.tmp 151), type := 0, pos := "law.go:259", after := #[{ on := 2, ground := Go.Ground.data }, { on := 3, ground := Go.Ground.data }], guard := Option.none }) (v := ?_) rfl (by kernel_rfl) (by kernel_rfl) (by kernel_rfl) (fun _ _ _ h => h) (Or.inl ⟨by rfl, ?_⟩) hHeld ?_
      rotate_left
      · intro W hSw
        (try dsimp only at hSw)
        go_simp
        (try with_reducible rfl)
      (try simp only [Act.put, List.setIfInBounds_toArray, List.set_cons_zero, List.set_cons_succ])
      refine wpAnyH_take (i := 5) (oi := { dst := Option.some 153, op := Go.Op.fieldAddr 36 (Go.Operand.tmp 152) 1, type := 0, pos := "law.go:259", after := #[{ on := 4, ground := Go.Ground.data }], guard := Option.none }) (v := ?_) rfl (by kernel_rfl) (by kernel_rfl) (by kernel_rfl) (fun _ _ _ h => h) (Or.inl ⟨by rfl, ?_⟩) hHeld ?_
      rotate_left
      · intro W hSw
        (try dsimp only at hSw)
        go_simp
        (try with_reducible rfl)
      (try simp only [Act.put, List.setIfInBounds_toArray, List.set_cons_zero, List.set_cons_succ])
      refine wpAnyH_take (i := 6) (oi := { dst := Option.some 154, op := Go.Op.load 3 (Go.Operand.tmp 153), type := 3, pos := "law.go:259", after := #[{ on := 5, ground := Go.Ground.data }], guard := Option.none }) (v := ?_) rfl (by kernel_rfl) (by kernel_rfl) (by kernel_rfl) (fun _ _ _ h => h) (Or.inl ⟨by rfl, ?_⟩) hHeld ?_
      rotate_left
      · intro W hSw
        (try dsimp only at hSw)
        go_simp
        (try with_reducible rfl)
      (try simp only [Act.put, List.setIfInBounds_toArray, List.set_cons_zero, List.set_cons_succ])
      refine wpAnyH_take (i := 7) (oi := { dst := Option.some 155, op := Go.Op.binOp Go.BinOp.eql 3 (Go.Operand.tmp 149) (Go.Operand.tmp 154) 3, type := 4, pos := "law.go:259", after := #[{ on := 1, ground := Go.Ground.data }, { on := 6, ground := Go.Ground.data }], guard := Option.none }) (v := ?_) rfl (by kernel_rfl) (by kernel_rfl) (by kernel_rfl) (fun _ _ _ h => h) (Or.inl ⟨by rfl, ?_⟩) hHeld ?_
      rotate_left
      · intro W hSw
        (try dsimp only at hSw)
        go_simp
        (try with_reducible rfl)
      (try simp only [Act.put, List.setIfInBounds_toArray, List.set_cons_zero, List.set_cons_succ])
      refine wpAnyH_take (i := 8) (oi := { dst := Option.some 156, op := Go.Op.move (Go.Operand.tmp 155), type := 4, pos := "law.go:259", after := #[{ on := 7, ground := Go.Ground.data }], guard := Option.none }) (v := ?_) rfl (by kernel_rfl) (by kernel_rfl) (by kernel_rfl) (fun _ _ _ h => h) (Or.inl ⟨by rfl, ?_⟩) hHeld ?_
      rotate_left
      · intro W hSw
        (try dsimp only at hSw)
        go_simp
        (try with_reducible rfl)
      (try simp only [Act.put, List.setIfInBounds_toArray, List.set_cons_zero, List.set_cons_succ])
      refine wpAnyH_take (i := 9) (oi := { dst := Option.some 157, op := Go.Op.load 56 (Go.Operand.tmp 10), type := 56, pos := "law.go:259", after := #[{ on := 8, ground := Go.Ground.guard }], guard := Option.some (8, Bool.true) }) (v := undef) rfl (by kernel_rfl) (by kernel_rfl) (by kernel_rfl) (fun _ _ _ h => h) (Or.inr ⟨by rfl, rfl⟩) hHeld ?_
      (try simp only [Act.put, List.setIfInBounds_toArray, List.set_cons_zero, List.set_cons_succ])
      refine wpAnyH_take (i := 10) (oi := { dst := Option.some 158, op := Go.Op.fieldAddr 60 (Go.Operand.tmp 15) 2, type := 0, pos := "law.go:259", after := #[{ on := 8, ground := Go.Ground.guard }], guard := Option.some (8, Bool.true) }) (v := undef) rfl (by kernel_rfl) (by kernel_rfl) (by kernel_rfl) (fun _ _ _ h => h) (Or.inr ⟨by rfl, rfl⟩) hHeld ?_
      (try simp only [Act.put, List.setIfInBounds_toArray, List.set_cons_zero, List.set_cons_succ])
      refine wpAnyH_take (i := 11) (oi := { dst := Option.some 159, op := Go.Op.load 56 (Go.Operand.tmp 158), type := 56, pos := "law.go:259", after := #[{ on := 10, ground := Go.Ground.data }, { on := 8, ground := Go.Ground.guard }], guard := Option.some (8, Bool.true) }) (v := undef) rfl (by kernel_rfl) (by kernel_rfl) (by kernel_rfl) (fun _ _ _ h => h) (Or.inr ⟨by rfl, rfl⟩) hHeld ?_
      (try simp only [Act.put, List.setIfInBounds_toArray, List.set_cons_zero, List.set_cons_succ])
      refine wpAnyH_take (i := 12) (oi := { dst := Option.some 160, op := Go.Op.call { callee := Go.Callee.value (Go.Operand.func 30), args := #[Go.Operand.tmp 157, Go.Operand.tmp 159], argTypes := #[56, 56] }, type := 4, pos := "law.go:259", after := #[{ on := 9, ground := Go.Ground.data }, { on := 11, ground := Go.Ground.data }, { on := 8, ground := Go.Ground.chain }, { on := 8, ground := Go.Ground.guard }], guard := Option.some (8, Bool.true) }) (v := undef) rfl (by kernel_rfl) (by kernel_rfl) (by kernel_rfl) (fun _ _ _ h => h) (Or.inr ⟨by rfl, rfl⟩) hHeld ?_
      (try simp only [Act.put, List.setIfInBounds_toArray, List.set_cons_zero, List.set_cons_succ])
      refine wpAnyH_take (i := 13) (oi := { dst := Option.some 161, op := Go.Op.unOp Go.UnOp.not 4 (Go.Operand.tmp 160), type := 4, pos := "law.go:259", after := #[{ on := 12, ground := Go.Ground.data }, { on := 8, ground := Go.Ground.guard }], guard := Option.some (8, Bool.true) }) (v := undef) rfl (by kernel_rfl) (by kernel_rfl) (by kernel_rfl) (fun _ _ _ h => h) (Or.inr ⟨by rfl, rfl⟩) hHeld ?_
      (try simp only [Act.put, List.setIfInBounds_toArray, List.set_cons_zero, List.set_cons_succ])
      refine wpAnyH_take (i := 14) (oi := { dst := Option.some 162, op := Go.Op.pick (Go.Operand.tmp 156) (Go.Operand.tmp 161) (Go.Operand.const (Go.Value.bool Bool.false)), type := 4, pos := "law.go:259", after := #[{ on := 8, ground := Go.Ground.data }, { on := 13, ground := Go.Ground.data }], guard := Option.none }) (v := ?_) rfl (by kernel_rfl) (by kernel_rfl) (by kernel_rfl) (fun _ _ _ h => h) (Or.inl ⟨by rfl, ?_⟩) hHeld ?_
      rotate_left
      · intro W hSw
        (try dsimp only at hSw)
        go_simp
        (try with_reducible rfl)
      (try simp only [Act.put, List.setIfInBounds_toArray, List.set_cons_zero, List.set_cons_succ])
      refine wpAnyH_take (i := 15) (oi := { dst := Option.some 163, op := Go.Op.move (Go.Operand.tmp 162), type := 4, pos := "law.go:259", after := #[{ on := 14, ground := Go.Ground.data }, { on := 12, ground := Go.Ground.chain }], guard := Option.none }) (v := ?_) rfl (by kernel_rfl) (by kernel_rfl) (by kernel_rfl) (fun _ _ _ h => h) (Or.inl ⟨by rfl, ?_⟩) hHeld ?_
      rotate_left
      · intro W hSw
        (try dsimp only at hSw)
        go_simp
        (try with_reducible rfl)
      (try simp only [Act.put, List.setIfInBounds_toArray, List.set_cons_zero, List.set_cons_succ])
      refine wpAnyH_take (i := 16) (oi := { dst := Option.some 164, op := Go.Op.fieldAddr 60 (Go.Operand.tmp 15) 0, type := 0, pos := "law.go:259", after := #[{ on := 15, ground := Go.Ground.guard }], guard := Option.some (15, Bool.false) }) (v := ?_) rfl (by kernel_rfl) (by kernel_rfl) (by kernel_rfl) (fun _ _ _ h => h) (Or.inl ⟨by rfl, ?_⟩) hHeld ?_
      rotate_left
      · intro W hSw
        (try dsimp only at hSw)
        go_simp
        (try with_reducible rfl)
      (try simp only [Act.put, List.setIfInBounds_toArray, List.set_cons_zero, List.set_cons_succ])
      refine wpAnyH_take (i := 17) (oi := { dst := Option.some 165, op := Go.Op.load 3 (Go.Operand.tmp 164), type := 3, pos := "law.go:259", after := #[{ on := 16, ground := Go.Ground.data }, { on := 15, ground := Go.Ground.guard }], guard := Option.some (15, Bool.false) }) (v := ?_) rfl (by kernel_rfl) (by kernel_rfl) (by kernel_rfl) (fun _ _ _ h => h) (Or.inl ⟨by rfl, ?_⟩) hHeld ?_
      rotate_left
      · intro W hSw
        (try dsimp only at hSw)
        go_simp
        (try with_reducible rfl)
      (try simp only [Act.put, List.setIfInBounds_toArray, List.set_cons_zero, List.set_cons_succ])
      refine wpAnyH_take (i := 18) (oi := { dst := Option.some 166, op := Go.Op.move (Go.Operand.tmp 1), type := 47, pos := "law.go:259", after := #[{ on := 15, ground := Go.Ground.guard }], guard := Option.some (15, Bool.false) }) (v := ?_) rfl (by kernel_rfl) (by kernel_rfl) (by kernel_rfl) (fun _ _ _ h => h) (Or.inl ⟨by rfl, ?_⟩) hHeld ?_
      rotate_left
      · intro W hSw
        (try dsimp only at hSw)
        go_simp
        (try with_reducible rfl)
      (try simp only [Act.put, List.setIfInBounds_toArray, List.set_cons_zero, List.set_cons_succ])
      refine wpAnyH_take (i := 19) (oi := { dst := Option.some 167, op := Go.Op.move (Go.Operand.tmp 7), type := 3, pos := "law.go:259", after := #[{ on := 15, ground := Go.Ground.guard }], guard := Option.some (15, Bool.false) }) (v := ?_) rfl (by kernel_rfl) (by kernel_rfl) (by kernel_rfl) (fun _ _ _ h => h) (Or.inl ⟨by rfl, ?_⟩) hHeld ?_
      rotate_left
      · intro W hSw
        (try dsimp only at hSw)
        go_simp
        (try with_reducible rfl)
      (try simp only [Act.put, List.setIfInBounds_toArray, List.set_cons_zero, List.set_cons_succ])
      refine wpAnyH_take (i := 20) (oi := { dst := Option.some 168, op := Go.Op.indexAddr 47 (Go.Operand.tmp 166) (Go.Operand.tmp 167), type := 0, pos := "law.go:259", after := #[{ on := 18, ground := Go.Ground.data }, { on := 19, ground := Go.Ground.data }, { on := 15, ground := Go.Ground.guard }], guard := Option.some (15, Bool.false) }) (v := ?_) rfl (by kernel_rfl) (by kernel_rfl) (by kernel_rfl) (fun _ _ _ h => h) (Or.inl ⟨by rfl, ?_⟩) hHeld ?_
      rotate_left
      · intro W hSw
        (try dsimp only at hSw)
        go_simp
        (try with_reducible rfl)
      (try simp only [Act.put, List.setIfInBounds_toArray, List.set_cons_zero, List.set_cons_succ])
      refine wpAnyH_take (i := 21) (oi := { dst := Option.some 169, op := Go.Op.fieldAddr 36 (Go.Operand.tmp 168) 1, type := 0, pos := "law.go:259", after := #[{ on := 20, ground := Go.Ground.data }, { on := 15, ground := Go.Ground.guard }], guard := Option.some (15, Bool.false) }) (v := ?_) rfl (by kernel_rfl) (by kernel_rfl) (by kernel_rfl) (fun _ _ _ h => h) (Or.inl ⟨by rfl, ?_⟩) hHeld ?_
      rotate_left
      · intro W hSw
        (try dsimp only at hSw)
        go_simp
        (try with_reducible rfl)
      (try simp only [Act.put, List.setIfInBounds_toArray, List.set_cons_zero, List.set_cons_succ])
      refine wpAnyH_take (i := 22) (oi := { dst := Option.some 170, op := Go.Op.load 3 (Go.Operand.tmp 169), type := 3, pos := "law.go:259", after := #[{ on := 21, ground := Go.Ground.data }, { on := 15, ground := Go.Ground.guard }], guard := Option.some (15, Bool.false) }) (v := ?_) rfl (by kernel_rfl) (by kernel_rfl) (by kernel_rfl) (fun _ _ _ h => h) (Or.inl ⟨by rfl, ?_⟩) hHeld ?_
      rotate_left
      · intro W hSw
        (try dsimp only at hSw)
        go_simp
        (try with_reducible rfl)
      (try simp only [Act.put, List.setIfInBounds_toArray, List.set_cons_zero, List.set_cons_succ])
      refine wpAnyH_take (i := 23) (oi := { dst := Option.some 171, op := Go.Op.binOp Go.BinOp.neq 3 (Go.Operand.tmp 165) (Go.Operand.tmp 170) 3, type := 4, pos := "law.go:259", after := #[{ on := 17, ground := Go.Ground.data }, { on := 22, ground := Go.Ground.data }, { on := 15, ground := Go.Ground.guard }], guard := Option.some (15, Bool.false) }) (v := ?_) rfl (by kernel_rfl) (by kernel_rfl) (by kernel_rfl) (fun _ _ _ h => h) (Or.inl ⟨by rfl, ?_⟩) hHeld ?_
      rotate_left
      · intro W hSw
        (try dsimp only at hSw)
        go_simp
        (try with_reducible rfl)
      (try simp only [Act.put, List.setIfInBounds_toArray, List.set_cons_zero, List.set_cons_succ])
      refine wpAnyH_take (i := 24) (oi := { dst := Option.some 172, op := Go.Op.move (Go.Operand.tmp 171), type := 4, pos := "law.go:259", after := #[{ on := 23, ground := Go.Ground.data }, { on := 15, ground := Go.Ground.chain }, { on := 15, ground := Go.Ground.guard }], guard := Option.some (15, Bool.false) }) (v := ?_) rfl (by kernel_rfl) (by kernel_rfl) (by kernel_rfl) (fun _ _ _ h => h) (Or.inl ⟨by rfl, ?_⟩) hHeld ?_
      rotate_left
      · intro W hSw
        (try dsimp only at hSw)
        go_simp
        (try with_reducible rfl)
      (try simp only [Act.put, List.setIfInBounds_toArray, List.set_cons_zero, List.set_cons_succ])
      refine wpAnyH_take (i := 25) (oi := { dst := Option.some 173, op := Go.Op.load 56 (Go.Operand.tmp 10), type := 56, pos := "law.go:259", after := #[{ on := 24, ground := Go.Ground.guard }], guard := Option.some (24, Bool.true) }) (v := ?_) rfl (by kernel_rfl) (by kernel_rfl) (by kernel_rfl) (fun _ _ _ h => h) (Or.inl ⟨by rfl, ?_⟩) hHeld ?_
      rotate_left
      · intro W hSw
        (try dsimp only at hSw)
        go_simp
        (try with_reducible rfl)
      (try simp only [Act.put, List.setIfInBounds_toArray, List.set_cons_zero, List.set_cons_succ])
      refine wpAnyH_take (i := 26) (oi := { dst := Option.some 174, op := Go.Op.build 56 #[], type := 56, pos := "law.go:259", after := #[{ on := 24, ground := Go.Ground.guard }], guard := Option.some (24, Bool.true) }) (v := ?_) rfl (by kernel_rfl) (by kernel_rfl) (by kernel_rfl) (fun _ _ _ h => h) (Or.inl ⟨by rfl, ?_⟩) hHeld ?_
      rotate_left
      · intro W hSw
        (try dsimp only at hSw)
        go_simp
        (try with_reducible rfl)
      (try simp only [Act.put, List.setIfInBounds_toArray, List.set_cons_zero, List.set_cons_succ])
      refine wpAnyH_ready (rs := [27]) (by kernel_rfl) (by simp) ?_
      refine AllReadyH.cons (o := { dst := Option.some 175, op := Go.Op.call { callee := Go.Callee.value (Go.Operand.func 30), args := #[Go.Operand.tmp 173, Go.Operand.tmp 174], argTypes := #[56, 56] }, type := 4, pos := "law.go:259", after := #[{ on := 25, ground := Go.Ground.data }, { on := 26, ground := Go.Ground.data }, { on := 24, ground := Go.Ground.chain }, { on := 24, ground := Go.Ground.guard }], guard := Option.some (24, Bool.true) }) rfl (fun K hK => ?_) AllReadyH.nil
      go_simp
      go_at_call 30
      refine C30.out.mono ?_
      rintro r w13 ⟨rfl, K13, q1⟩
      refine hK.out _ _ q1.out (fun hHeld => ?_)
      clear hK K
      (try simp only [Act.put, List.setIfInBounds_toArray, List.set_cons_zero, List.set_cons_succ])
      refine wpAnyH_take (i := 28) (oi := { dst := Option.some 176, op := Go.Op.unOp Go.UnOp.not 4 (Go.Operand.tmp 175), type := 4, pos := "law.go:259", after := #[{ on := 27, ground := Go.Ground.data }, { on := 24, ground := Go.Ground.guard }], guard := Option.some (24, Bool.true) }) (v := ?_) rfl (by kernel_rfl) (by kernel_rfl) (by kernel_rfl) (fun _ _ _ h => h) (Or.inl ⟨by rfl, ?_⟩) hHeld ?_
      rotate_left
      · intro W hSw
        (try dsimp only at hSw)
        go_simp
        (try with_reducible rfl)
      (try simp only [Act.put, List.setIfInBounds_toArray, List.set_cons_zero, List.set_cons_succ])
      refine wpAnyH_take (i := 29) (oi := { dst := Option.some 177, op := Go.Op.pick (Go.Operand.tmp 172) (Go.Operand.tmp 176) (Go.Operand.const (Go.Value.bool Bool.false)), type := 4, pos := "law.go:259", after := #[{ on := 24, ground := Go.Ground.data }, { on := 28, ground := Go.Ground.data }, { on := 15, ground := Go.Ground.guard }], guard := Option.some (15, Bool.false) }) (v := ?_) rfl (by kernel_rfl) (by kernel_rfl) (by kernel_rfl) (fun _ _ _ h => h) (Or.inl ⟨by rfl, ?_⟩) hHeld ?_
      rotate_left
      · intro W hSw
        (try dsimp only at hSw)
        go_simp
        (try with_reducible rfl)
      (try simp only [Act.put, List.setIfInBounds_toArray, List.set_cons_zero, List.set_cons_succ])
      refine wpAnyH_take (i := 30) (oi := { dst := Option.some 178, op := Go.Op.pick (Go.Operand.tmp 163) (Go.Operand.const (Go.Value.bool Bool.true)) (Go.Operand.tmp 177), type := 4, pos := "law.go:259", after := #[{ on := 15, ground := Go.Ground.data }, { on := 29, ground := Go.Ground.data }], guard := Option.none }) (v := ?_) rfl (by kernel_rfl) (by kernel_rfl) (by kernel_rfl) (fun _ _ _ h => h) (Or.inl ⟨by rfl, ?_⟩) hHeld ?_
      rotate_left
      · intro W hSw
        (try dsimp only at hSw)
        go_simp
        (try with_reducible rfl)
      (try simp only [Act.put, List.setIfInBounds_toArray, List.set_cons_zero, List.set_cons_succ])
      refine wpAnyH_done (by kernel_rfl) ?_ _
      go_wp2
      go_roundw
      case rel => exact ⟨i + 1, by omega, by go_num, hid ⟨e', a', HO'.out, EM.less (xs := (blkC Q [.int .i64 p.n, .int .i64 p.a, .int .i64 p.c, .int .i64 p.k, .slice ao p.l.length c'] 60 :: ownC 9 (.slice ao p.l.length c') (cellsT p.l) :: blkC R [.int .i64 0, .int .i64 0, .slice so ([] : List ByteArray).length sc] 56 :: ownC 9 (.slice so ([] : List ByteArray).length sc) (txtV ([] : List ByteArray)) :: (rowC 78 3 v ys.length (flatX ys) :: ys.map datC))) K13.out⟩⟩
      case measure => simp [intOf]; omega
end Go.Proofs.YtafickhhdemjnaaGreatDoor
