import Derived.Test.YtafickhhdemjnaaGreatDoorJ26
import Derived.Test.YtafickhhdemjnaaGreatDoorJ8
import Derived.Test.YtafickhhdemjnaaGreatDoorJ23
import Derived.Deep.RegionHeld3
namespace Go.Proofs.YtafickhhdemjnaaGreatDoor
open Go.RowKit
set_option linter.unusedVariables false
set_option maxRecDepth 100000

/-- A list of sheets that is read. -/
def ShW (w : World) (v : Value) (ks : List (Nat × Nat × List UInt8)) : Prop := ∃ ao c, v = .slice ao ks.length c ∧ ks.length ≤ 1000 ∧ ∀ (i : Nat) (k : Nat × Nat × List UInt8), ks[i]? = some k → k.2.2.length ≤ 2304 ∧ ∃ g o s, ao = some ⟨g, o, none⟩ ∧ g < w.heap.size ∧ w.cell? ⟨g, o + i * 3, none⟩ = some (.int .i64 (k.1 : Int)) ∧ w.cell? ⟨g, o + i * 3 + 1, none⟩ = some (.int .i64 (k.2.1 : Int)) ∧ w.cell? ⟨g, o + i * 3 + 2, none⟩ = some s ∧ Reads w s k.2.2
theorem ShW.later {w w' : World} {v : Value} {ks : List (Nat × Nat × List UInt8)} (h : ShW w v ks) (hb : Below w.heap.size w w') : ShW w' v ks := by
  obtain ⟨ao, c, h1, h2, h3⟩ := h
  refine ⟨ao, c, h1, h2, fun i k hk => ?_⟩
  obtain ⟨hl, g, o, s, e, hg, c0, c1, c2, hr⟩ := h3 i k hk
  exact ⟨hl, g, o, s, e, Nat.lt_of_lt_of_le hg hb.size, cell_under hb hg c0, cell_under hb hg c1, cell_under hb hg c2, hr.below hb⟩
theorem ShW.of_all {w : World} {v : Value} {ys : List Xs} {cs : List Comp} (h : All cs w) (hr : rowC 78 3 v ys.length (flatX ys) ∈ cs) (hd : ∀ d ∈ ys.map datC, d ∈ cs) (hl : ∀ k ∈ ys.map Xs.key, k.2.2.length ≤ 2304) (hn : ys.length ≤ 1000) : ShW w v (ys.map Xs.key) := by
  have ho : w.ownsRow 0 78 3 v ys.length (flatX ys) := (h.mem hr).2.1
  obtain ⟨ao, c, rfl⟩ := owns_form ho
  refine ⟨ao, c, by rw [List.length_map], by rw [List.length_map]; exact hn, fun i k hk => ?_⟩
  rw [List.getElem?_map, Option.map_eq_some_iff] at hk
  obtain ⟨y, hy, rfl⟩ := hk
  have hm := List.mem_of_getElem? hy
  refine ⟨hl _ (List.mem_map_of_mem hm), ?_⟩
  have hy1 : w.ownsRow 0 5 1 y.v y.bs.length (cellsB y.bs) := (h.mem (hd _ (List.mem_map_of_mem hm))).2.1
  obtain ⟨g, e, hg, c0, c1, c2⟩ := row_at ho hy
  exact ⟨g, 0, y.v, e, hg, by simpa [Xs.key] using c0, by simpa [Xs.key] using c1, by simpa [Xs.v] using c2, Reads.of_owns hy1⟩
set_option maxHeartbeats 3200000 in
set_option maxRecDepth 1000000 in
/-- Sheets that are alike. -/
theorem sameSheets_true {w : World} {s t : Value} {ks : List (Nat × Nat × List UInt8)} (hs : ShW w s ks) (ht : ShW w t ks) : Calls Tryz.prog 28 #[s, t] w fun e w' => e = .returned (.bool true) ∧ Below w.heap.size w w' := by
  obtain ⟨ao, c, rfl, hlen, hs⟩ := hs
  obtain ⟨ao', c', rfl, _, ht⟩ := ht
  have HS := hid hs
  have HT := hid ht
  clear hs ht
  go_enter Tryz.func28, Tryz.ntmps28
  go_wp2
  go_loopw [5] (fun iv wr => ∃ (k : Nat), k ≤ ks.length ∧ iv = .int .i64 (k : Int) ∧ Below w.heap.size w wr) (fun iv _ => ks.length - (intOf iv).toNat)
  case atStart => exact ⟨0, by omega, rfl, Below.refl _ _⟩
  case round =>
    obtain ⟨k, hk, rfl, hb⟩ := hrel
    by_cases hlt : k < ks.length
    · obtain ⟨hl, g, o, s, rfl, hg, c0, c1, c2, r0⟩ := HS.out k _ (List.getElem?_eq_getElem hlt)
      obtain ⟨_, g', o', t, rfl, hg', e0, e1, e2, r1⟩ := HT.out k _ (List.getElem?_eq_getElem hlt)
      generalize ks[k] = y at *
      have c0 := cell_under hb hg c0
      have c1 := cell_under hb hg c1
      have c2 := cell_under hb hg c2
      have e0 := cell_under hb hg' e0
      have e1 := cell_under hb hg' e1
      have e2 := cell_under hb hg' e2
      have r0 := hid (r0.below hb)
      have r1 := hid (r1.below hb)
      have nb1 : ((y.1 : Int) != (y.1 : Int)) = false := by simp
      have nb2 : ((y.2.1 : Int) != (y.2.1 : Int)) = false := by simp
      have HB := hid hb
      have k0 : (0 : Int) ≤ (k : Int) := by omega
      have k1 : (k : Int) < (ks.length : Int) := by omega
      have C32 := hid (same_true (w := wr.drew) (s := s) (t := t) (l := y.2.2) (r0.out.below ⟨rfl, rfl, rfl, Nat.le_refl _, fun _ _ => rfl⟩) (r1.out.below ⟨rfl, rfl, rfl, Nat.le_refl _, fun _ _ => rfl⟩) (by omega))
      go_wp2
      have q0 : Hid (wr.cell? ⟨g, o + k * 3, none⟩ = some (.int .i64 (y.1 : Int)) ∧ wr.cell? ⟨g, o + k * 3 + 1, none⟩ = some (.int .i64 (y.2.1 : Int)) ∧ wr.cell? ⟨g, o + k * 3 + 2, none⟩ = some s ∧ wr.cell? ⟨g', o' + k * 3, none⟩ = some (.int .i64 (y.1 : Int)) ∧ wr.cell? ⟨g', o' + k * 3 + 1, none⟩ = some (.int .i64 (y.2.1 : Int)) ∧ wr.cell? ⟨g', o' + k * 3 + 2, none⟩ = some t) := hid ⟨c0, c1, c2, e0, e1, e2⟩
      have QS : Hid (∀ W, Below wr.heap.size wr W → W.cell? ⟨g, o + k * 3, none⟩ = some (.int .i64 (y.1 : Int)) ∧ W.cell? ⟨g, o + k * 3 + 1, none⟩ = some (.int .i64 (y.2.1 : Int)) ∧ W.cell? ⟨g, o + k * 3 + 2, none⟩ = some s ∧ W.cell? ⟨g', o' + k * 3, none⟩ = some (.int .i64 (y.1 : Int)) ∧ W.cell? ⟨g', o' + k * 3 + 1, none⟩ = some (.int .i64 (y.2.1 : Int)) ∧ W.cell? ⟨g', o' + k * 3 + 2, none⟩ = some t) := hid (fun W h => by
        have hg1 : g < wr.heap.size := Nat.lt_of_lt_of_le hg hb.size
        have hg1' : g' < wr.heap.size := Nat.lt_of_lt_of_le hg' hb.size
        exact ⟨cell_under h hg1 c0, cell_under h hg1 c1, cell_under h hg1 c2, cell_under h hg1' e0, cell_under h hg1' e1, cell_under h hg1' e2⟩)
      clear c0 c1 c2 e0 e1 e2 r0 r1 hb hg hg'
      have T1 := fun w2 (B2 : Below wr.drew.heap.size wr.drew w2) => hid (b2 (bd wr) B2)
      have T2 := fun w2 (B2 : Below wr.drew.heap.size wr.drew w2) => hid (b2 HB.out (T1 w2 B2).out)
      have T3 := fun w2 (B2 : Below wr.drew.heap.size wr.drew w2) => hid (QS.out _ (T1 w2 B2).out)
      have C32' : Hid (Calls Tryz.prog 32 #[s, t] wr.drew fun e w' => e = .returned (.bool true) ∧ Hid (Below w.heap.size w w') ∧ Hid (w'.cell? ⟨g, o + k * 3, none⟩ = some (.int .i64 (y.1 : Int)) ∧ w'.cell? ⟨g, o + k * 3 + 1, none⟩ = some (.int .i64 (y.2.1 : Int)) ∧ w'.cell? ⟨g, o + k * 3 + 2, none⟩ = some s ∧ w'.cell? ⟨g', o' + k * 3, none⟩ = some (.int .i64 (y.1 : Int)) ∧ w'.cell? ⟨g', o' + k * 3 + 1, none⟩ = some (.int .i64 (y.2.1 : Int)) ∧ w'.cell? ⟨g', o' + k * 3 + 2, none⟩ = some t)) := hid (C32.out.mono (by rintro e w2 ⟨rfl, B2⟩; exact ⟨rfl, T2 w2 B2, T3 w2 B2⟩))
      clear T1 T2 T3 C32 QS
      go_region_held3 (fun W => W.cell? ⟨g, o + k * 3, none⟩ = some (.int .i64 (y.1 : Int)) ∧ W.cell? ⟨g, o + k * 3 + 1, none⟩ = some (.int .i64 (y.2.1 : Int)) ∧ W.cell? ⟨g, o + k * 3 + 2, none⟩ = some s ∧ W.cell? ⟨g', o' + k * 3, none⟩ = some (.int .i64 (y.1 : Int)) ∧ W.cell? ⟨g', o' + k * 3 + 1, none⟩ = some (.int .i64 (y.2.1 : Int)) ∧ W.cell? ⟨g', o' + k * 3 + 2, none⟩ = some t) (first | exact q0.out | exact q1.out)
        (first
          | (go_at_call 32; refine C32'.out.mono ?_; rintro e w2 ⟨rfl, HB2, q1⟩))
      go_wp2
      go_roundw
      case rel => exact ⟨k + 1, by omega, by go_num, HB2.out⟩
      case measure => simp [intOf]; omega
    · go_wp2
      go_ret
      exact ⟨rfl, hb⟩
end Go.Proofs.YtafickhhdemjnaaGreatDoor

namespace Go.Proofs.YtafickhhdemjnaaGreatDoor
open Go.RowKit
set_option linter.unusedVariables false
set_option maxRecDepth 100000

theorem EM.L_app (X : Nat) (e : EM) (a : EX) (cs : List Comp) : e.L X a cs = e.L X a [] ++ cs := by simp [EM.L]
theorem EM.front {X : Nat} {e : EM} {a : EX} {x : Comp} {cs : List Comp} {w : World} (h : All (x :: e.L X a cs) w) : All (e.L X a (x :: cs)) w := by
  rw [EM.L_app] at h ⊢
  exact h.perm List.perm_middle.symm
theorem EM.fronts {X : Nat} {e : EM} {a : EX} {xs cs : List Comp} {w : World} (h : All (xs ++ e.L X a cs) w) : All (e.L X a (xs ++ cs)) w := by
  rw [EM.L_app] at h ⊢
  refine h.perm ?_
  rw [← List.append_assoc, ← List.append_assoc]
  exact List.perm_append_comm.append_right _
theorem All.dropA : ∀ (a : List Comp) {b : List Comp} {w : World}, All (a ++ b) w → All b w
  | [], _, _, h => h
  | _ :: a, _, _, h => All.dropA a h.2.2
theorem EM.tl {X : Nat} {e : EM} {a : EX} {cs : List Comp} {w : World} (h : All (e.L X a cs) w) : All cs w := by
  rw [EM.L_app] at h
  exact All.dropA _ h
theorem EM.box {X : Nat} {e : EM} {a : EX} {cs : List Comp} : blkC X (engV e.op a.g a.Sh a.Rl e.kop a.kg e.ev) 92 ∈ e.L X a cs := by simp [EM.L]
/-- What the sheets of a book that lies here are like. -/
theorem shs_small {P : Pool} {tp : List Nat} {tN : Nodes} {T : Sheets} (hB : Bk P 16 16 tp tN T) (a : Nat) : (shs T a).length ≤ 16 ∧ ∀ k ∈ shs T a, k.2.2.length ≤ 2304 := by
  refine ⟨Nat.le_trans (List.length_filterMap_le _ _) (by simp), fun k hk => ?_⟩
  obtain ⟨i, _, h⟩ := List.mem_filterMap.1 hk
  split at h
  · obtain rfl := Option.some.inj h
    exact (hB.cap i).2
  · cases h
set_option maxRecDepth 1000000 in
set_option maxHeartbeats 1600000 in
/-- An engine that has applied nothing. -/
theorem run_nil {ev : Nat} {cs : List Comp} {w : World} (h1 : 1 ≤ ev) (h2 : ev ≤ 64) (A : All cs w) : Calls Tryz.prog 22 #[.int .i64 (ev : Int), .slice none 0 0] w fun r w' => ∃ X a, r = .returned (.pointer (some ⟨X, 0, none⟩)) ∧ (EM.zero ev).Ok 0 a ∧ All ((EM.zero ev).L X a cs) w' := by
  have C21 := hid (NewE_any h1 h2 A)
  clear A
  go_enter Tryz.func22, Tryz.ntmps22
  go_wp2_with (go_at_call 21; refine C21.out.mono ?_; rintro r w2 ⟨X, a, rfl, hO, A2⟩; have K2 := hid A2; have HO := hid hO; clear A2 hO)
  go_loopw [7] (fun iv wr => iv = .int .i64 0 ∧ wr = w2) (fun iv _ => 0)
  case atStart => exact ⟨rfl, rfl⟩
  case round =>
    obtain ⟨rfl, rfl⟩ := hrel
    go_wp2
    go_ret
    exact ⟨X, a, rfl, HO.out, K2.out⟩
def nmQ : ByteArray := ⟨#[113]⟩
def nmE : ByteArray := ⟨#[]⟩
theorem find_q : findN (stV S0) nmQ = -1 := by kernel_rfl
theorem find_em : findN (stV S0) ⟨#[]⟩ = 0 := by kernel_rfl
/-- The first example's state. -/
theorem first_ex {e' : EM} {x y : Int} {items : List ByteArray} {fr : Bool} {er : Int} (h : ApE (EM.zero 2) 0 1 1 nmQ nmE 0 0 e' x y items fr er) : er = 0 ∧ fr = true ∧ x = 0 ∧ e'.op = 1 ∧ e'.kop = 0 ∧ shs e'.T 0 = [(0, 1, [1, 113, 0, 0, 0]), (8, 1, [1, 1, 0, 0, 0])] := by
  cases h with
  | bad h => exact absurd h (by decide)
  | fin h ho => exact absurd ho (by decide)
  | ok h ho hc hi hp hA =>
    rename_i i p T' S' ps'
    have hi0 : i = 0 := by omega
    subst hi0
    have hp : p = .zero := by
      have := hp
      simp [EM.zero] at this
      exact this.symm
    subst hp
    cases hA with
    | same h => exact absurd h (by decide)
    | old h => exact absurd h (by decide)
    | new h s' hD =>
      cases hD with
      | none k hk h => omega
      | there h => exact absurd find_q h
      | full h hf =>
        have hf : findN (stV S0) ⟨#[]⟩ = -1 := hf
        rw [find_em] at hf
        omega
      | make f b h hf hs =>
        have hf0 : f = 0 := by
          have := find_em
          have h2 : findN (stV S0) ⟨#[]⟩ = (f : Int) := hf
          omega
        subst hf0
        refine ⟨rfl, rfl, rfl, rfl, rfl, ?_⟩
        kernel_rfl
theorem reads_five (w : World) (a b c d e : UInt8) : Reads (w.alloc (.cells #[.int .u8 (a.toNat : Int), .int .u8 (b.toNat : Int), .int .u8 (c.toNat : Int), .int .u8 (d.toNat : Int), .int .u8 (e.toNat : Int)] 5)) (.slice (some ⟨w.heap.size, 0, none⟩) 5 5) [a, b, c, d, e] := by
  refine ⟨_, 5, rfl, by simp, Or.inr ⟨_, 0, rfl, by simp, fun j u hu => ?_⟩⟩
  match j, hu with
  | 0, h => simp [cellsB] at h; subst h; simp
  | 1, h => simp [cellsB] at h; subst h; simp
  | 2, h => simp [cellsB] at h; subst h; simp
  | 3, h => simp [cellsB] at h; subst h; simp
  | 4, h => simp [cellsB] at h; subst h; simp
set_option maxRecDepth 1000000 in
set_option maxHeartbeats 3200000 in
/-- The document's first examples. -/
theorem shownE_any {cs : List Comp} {w0 w : World} (hin : inC w0 ∈ cs) (hT0 : Tab w0) (A : All cs w) : Calls Tryz.prog 8 #[] w fun r w' => r = .returned (.bool true) ∧ All cs w' := by
  have C21 := hid (NewE_any (ev := 2) (by omega) (by omega) A)
  have HI := hid hin
  have HT := hid hT0
  clear A hin hT0
  go_enter Tryz.func8, Tryz.ntmps8
  go_upto_region 4 with (go_at_call 21; refine C21.out.mono ?_; rintro r w2 ⟨X, a, rfl, hO, A2⟩; have C26 := hid (Apply_any (c := 0) (q := 1) (k := 1) (nm := nmQ) (tx := nmE) (n := 0) (m := 0) HI.out HT.out hO (by omega) A2); clear A2 hO)
  go_upto_region 5 with (go_at_call 26; refine C26.out.mono ?_; rintro r w3 ⟨e', a', x, y, items, fr, er, so, sc, rfl, hAp, hO', A3⟩; obtain ⟨rfl, rfl, rfl, ho, hk, hs⟩ := first_ex hAp; have K3 := hid A3; have HO := hid hO'; have E0 := hid ho; have E1 := hid hk; have E2 := hid hs; clear A3 hO' hAp ho hk hs)
  have K4 := hid ((EM.front K3.out).addBlk [.int .i64 0, .int .i64 y, .slice so items.length sc] 56)
  have r0 : (w3.alloc (.cells #[.int .i64 0, .int .i64 y, .slice so items.length sc] 56)).cell? ⟨w3.heap.size, 0, none⟩ = some (.int .i64 0) := cell_in K4.out List.mem_cons_self rfl
  have C29 := hid (Sheets_any HO.out (EM.front K4.out))
  generalize w3.alloc (.cells #[.int .i64 0, .int .i64 y, .slice so items.length sc] 56) = w4 at *
  clear K3 C26 C21
  go_upto_region 8 with (go_at_call 29; refine C29.out.mono ?_; rintro r w5 ⟨v, ys, rfl, hys, A5⟩; have K5 := hid A5; have HY := hid hys; clear A5 hys)
  have SW : Hid (ShW w5 v [(0, 1, [1, 113, 0, 0, 0]), (8, 1, [1, 1, 0, 0, 0])]) := hid (by
    have hk := HY.out
    rw [E2.out] at hk
    have h2 := shs_small HO.out.bt 0
    rw [E2.out] at h2
    have hlen : ys.length = 2 := by
      have := congrArg List.length hk
      simpa using this
    have := ShW.of_all K5.out List.mem_cons_self (fun d hd => List.mem_cons_of_mem _ (List.mem_append_left _ hd)) (by rw [hk]; exact h2.2) (by omega)
    rw [hk] at this
    exact this)
  have KX := hid (EM.fronts (xs := rowC 78 3 v ys.length (flatX ys) :: ys.map datC) K5.out)
  have xo : w5.cell? ⟨X, 0, none⟩ = some (.int .i64 1) := by
    have := cell_in (o := 0) KX.out EM.box rfl
    rw [E0.out] at this
    exact this
  have xb : w5.cell? ⟨X, 4, none⟩ = some (.int .i64 0) := by
    have := cell_in (o := 4) KX.out EM.box rfl
    rw [E1.out] at this
    exact this
  obtain ⟨ao, c, rfl, _, hc⟩ := SW.out
  obtain ⟨_, g, o, s0, rfl, hg, c00, c01, c02, c0r⟩ := hc 0 _ rfl
  obtain ⟨_, g2, o2, s1, e2, hg2, c10, c11, c12, c1r⟩ := hc 1 _ rfl
  injection e2 with e2
  injection e2 with eg eo
  subst eg eo
  simp only [Nat.zero_mul, Nat.one_mul, Nat.add_zero, List.length_cons, List.length_nil, Nat.zero_add, Nat.reduceAdd] at c00 c01 c02 c10 c11 c12 ⊢
  have HG := hid hg
  have B1 := hid (reads_five w5 1 113 0 0 0)
  have C32 := hid (same_true (w := w5.alloc (.cells #[.int .u8 1, .int .u8 113, .int .u8 0, .int .u8 0, .int .u8 0] 5)) (l := [1, 113, 0, 0, 0]) (c0r.below (ba _ _)) B1.out (by simp))
  have CB := hid (fun W (hb : Below w5.heap.size w5 W) => same_true (w := W.alloc (.cells #[.int .u8 1, .int .u8 1, .int .u8 0, .int .u8 0, .int .u8 0] 5)) (l := [1, 1, 0, 0, 0]) (c1r.below (b2 hb (ba _ _))) (reads_five W 1 1 0 0 0) (by simp))
  have CU := hid (fun W (hb : Below w5.heap.size w5 W) => (⟨cell_under hb hg c10, cell_under hb hg c12⟩ : W.cell? ⟨g, o + 3, none⟩ = some (.int .i64 8) ∧ W.cell? ⟨g, o + 3 + 2, none⟩ = some s1))
  clear c0r c1r c10 c11 c12 hg hg2
  go_wp2_with (first
    | (go_at_call 14; refine (Op_any xo).mono ?_; rintro r w6 ⟨rfl, h6⟩; subst w6)
    | (go_at_call 16; refine (Base_any xb).mono ?_; rintro r w6 ⟨rfl, h6⟩; subst w6)
    | (go_at_call 32; refine C32.out.mono ?_; rintro r w6 ⟨rfl, h6⟩; have HB6 := hid (b2 (ba w5 _) h6); clear h6 C32; obtain ⟨c10, c12⟩ := CU.out _ HB6.out; have C33 := hid (CB.out _ HB6.out); clear CU CB)
    | (go_at_call 32; refine C33.out.mono ?_; rintro r w7 ⟨rfl, h7⟩; have HB7 := hid (b2 HB6.out (b2 (ba _ _) h7))))
  go_ret
  exact ⟨rfl, (All.dropA _ (EM.tl (All.later KX.out HB7.out))).tail.tail⟩
end Go.Proofs.YtafickhhdemjnaaGreatDoor
