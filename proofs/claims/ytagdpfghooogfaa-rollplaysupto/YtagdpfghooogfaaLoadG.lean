import Derived.Test.YtagdpfghooogfaaJ9
import Derived.Lib.SlBytesConst
namespace Go.Proofs.Ytagdpfghooogfaa
open Go.RowKit
set_option linter.unusedVariables false

abbrev nilS : Value := .slice none 0 0
/-- A list that is lent: its slice, its block with two bytes behind it. -/
def ent (h : Nat) (l : List UInt8) : Value := .slice (some ⟨h, 0, none⟩) l.length (l.length + 2)
def cpC (h : Nat) (l : List UInt8) : Comp := blkC h (cellsB l ++ [.int .u8 0, .int .u8 0]) 5
def ents (hs : List Nat) (ls : List (List UInt8)) : List Value := List.zipWith ent hs ls
def cps (hs : List Nat) (ls : List (List UInt8)) : List Comp := List.zipWith cpC hs ls

theorem zip_snoc {β : Type} (f : Nat → List UInt8 → β) (hs : List Nat) (ls : List (List UInt8)) (h : Nat) (hl : hs.length < ls.length) : List.zipWith f (hs ++ [h]) ls = List.zipWith f hs ls ++ [f h ls[hs.length]] := by
  induction hs generalizing ls with
  | nil =>
    cases ls with
    | nil => simp at hl
    | cons l ls => simp
  | cons g hs ih =>
    cases ls with
    | nil => simp at hl
    | cons l ls =>
      have := ih ls (by simpa using hl)
      simp [this]
theorem zip_len {β : Type} (f : Nat → List UInt8 → β) (hs : List Nat) (ls : List (List UInt8)) (hl : hs.length ≤ ls.length) : (List.zipWith f hs ls).length = hs.length := by simp; omega

/-- The word behind the lists. -/
def bhC (b : Nat) : Comp := ⟨fun w => w.heap[b]? = some (.cells #[.int .u8 98, .int .u8 101, .int .u8 104, .int .u8 105, .int .u8 110, .int .u8 100] 5 (6, 7)), [b]⟩
theorem bhC_good (b : Nat) : (bhC b).Good := fun w w' h _ hb => (hb b (by simp [bhC])).trans h

theorem rep_set {n i : Nat} (vs : List Value) (hv : vs.length = i) (hi : i < n) (u : Value) : (vs ++ List.replicate (n + 1 - i) nilS).set i u = vs ++ [u] ++ List.replicate (n + 1 - (i + 1)) nilS := by
  have e : n + 1 - i = (n + 1 - (i + 1)) + 1 := by omega
  rw [e, List.replicate_succ, List.set_append_right _ _ (by omega), hv, Nat.sub_self, List.set_cons_zero]
  simp
theorem set_last (vs : List Value) (u v : Value) (r : List Value) : (vs ++ [u] ++ r).set vs.length v = vs ++ [v] ++ r := by
  rw [List.append_assoc, List.set_append_right _ _ (Nat.le_refl _), Nat.sub_self]
  simp

theorem upto_ok {ls : List (List UInt8)} {ps : List Pl} (h8 : ls.length = 8) (h : Upto ls 8 ps) : OkP ps := by
  refine ⟨h.1, fun p hp => ?_⟩
  obtain ⟨i, hi, rfl⟩ := List.getElem_of_mem hp
  have hil : i < ls.length := by rw [h8, ← h.1]; exact hi
  rcases (h.2 i _ (List.getElem?_eq_getElem hi)).2 (by rw [← h.1]; exact hi) _ (List.getElem?_eq_getElem hil) with ⟨_, e⟩ | ⟨_, h1, h2, h3, h4, h5, h6, h7⟩
  · exact .inl (by rw [e]; exact ⟨rfl, rfl, rfl, rfl, rfl, rfl⟩)
  · refine .inr ⟨h2, ?_⟩
    rw [h3, h4, h5, h6, h7]
    simp only [rowOk, Bool.and_eq_true] at h1
    exact h1.2

theorem twin_of {ls : List (List UInt8)} {ps qs : List Pl} (hp : Upto ls 8 ps) (hq : Upto ls 8 qs) (h8 : ls.length = 8) : Twin ps qs := by
  refine ⟨upto_ok h8 hp, upto_ok h8 hq, fun c => ?_⟩
  unfold atP
  split
  · have hl : c.toNat < ls.length := by omega
    have h1 : c.toNat < ps.length := by rw [hp.1]; omega
    have h2 : c.toNat < qs.length := by rw [hq.1]; omega
    have e1 : ps.getD c.toNat .zero = ps[c.toNat] := by simp [List.getD, h1]
    have e2 : qs.getD c.toNat .zero = qs[c.toNat] := by simp [List.getD, h2]
    rw [e1, e2]
    have a1 := (hp.2 _ _ (List.getElem?_eq_getElem h1)).2 (by omega) _ (List.getElem?_eq_getElem hl)
    have a2 := (hq.2 _ _ (List.getElem?_eq_getElem h2)).2 (by omega) _ (List.getElem?_eq_getElem hl)
    rcases a1 with ⟨z1, z2⟩ | ⟨z1, _, z3, z4, z5, z6, z7, z8⟩
    · rcases a2 with ⟨_, y2⟩ | ⟨y1, _⟩
      · rw [z2, y2]; exact ⟨rfl, rfl, rfl, rfl, rfl, rfl⟩
      · exact absurd z1 y1
    · rcases a2 with ⟨y1, _⟩ | ⟨_, _, y3, y4, y5, y6, y7, y8⟩
      · exact absurd y1 z1
      · rw [z3, z4, z5, z6, z7, z8, y3, y4, y5, y6, y7, y8]; exact ⟨rfl, rfl, rfl, rfl, rfl, rfl⟩
  · exact ⟨rfl, rfl, rfl, rfl, rfl, rfl⟩

set_option maxHeartbeats 6400000 in
set_option maxRecDepth 1000000 in
theorem load20_any {s : Value} {ls : List (List UInt8)} {cs : List Comp} {w : World} (hA : All cs w) (hT : ∀ w', All cs w' → ListsW w' s ls) (hlen : ls.length ≤ 1048576) (hlens : ∀ l ∈ ls, l.length ≤ 1048576) :
    Calls Try.prog 20 #[s] w fun e w' => (e = .returned (.tuple #[.pointer none, .pointer none, .bool true]) ∧ All cs w') ∨
      (∃ g h ps qs, e = .returned (.tuple #[.pointer (some ⟨g, 0, none⟩), .pointer (some ⟨h, 0, none⟩), .bool true]) ∧ Hid (Twin ps qs ∧ All (rollL g ps ++ (xrollL h qs ++ cs)) w')) := by
  obtain ⟨ao, cp, rfl⟩ := (hT w hA).form
  have HT := hid hT
  have HL := hid hlens
  obtain ⟨n, hn⟩ : ∃ n, Hid (n = ls.length) := ⟨_, hid rfl⟩
  have hn20 : n ≤ 1048576 := by rw [hn.out]; exact hlen
  rw [← hn.out]
  rw [← hn.out] at HT
  have mk : ∀ W : World, (Instr.makeSlice 32 (.int .i64 ((n : Int) + 1)) (.int .i64 ((n : Int) + 1))).run Try.prog W = .ok (.slice (some ⟨W.heap.size, 0, none⟩) (n + 1) (n + 1)) (W.alloc (.cells (List.replicate (n + 1) nilS).toArray 40)) := fun W => make_slices (n + 1) (by omega)
  have wn : IntKind.i64.wrap ((n : Int) + 1) = (n : Int) + 1 := by rw [IntKind.wrap_i64]; omega
  have A0 := hid (hA.addBlk (List.replicate (n + 1) nilS) 40)
  clear hA hT hlen hlens
  go_enter Try.func20, Try.ntmps20
  go_wp2_with fail
  clear mk
  generalize hG : w.heap.size = G at A0 ⊢
  have HG := hid hG
  clear hG
  rw [show w.alloc (.cells (List.replicate (n + 1) nilS).toArray 40) = w.alloc (.cells (Array.replicate (n + 1) nilS) 40) by simp] at A0
  generalize hw1 : w.alloc (.cells (Array.replicate (n + 1) nilS) 40) = w1 at A0 ⊢
  clear hw1
  go_loopw [6] (fun iv wr => Box (∃ (i : Nat) (hs : List Nat), iv = .int .i64 (i : Int) ∧ i ≤ n ∧ Hid (hs.length = i ∧ All (blkC G (ents hs ls ++ List.replicate (n + 1 - i) nilS) 40 :: (cps hs ls ++ cs)) wr))) (fun iv _ => n - (intOf iv).toNat)
  case atStart => exact ⟨⟨0, [], rfl, Nat.zero_le _, hid ⟨rfl, by simpa [ents, cps] using A0.out⟩⟩⟩
  case round =>
    obtain ⟨i, hs, rfl, hi, HI⟩ := hrel.out
    clear hrel A0
    by_cases hlt : i < n
    case neg =>
      have el : decide ((i : Int) < (n : Int)) = false := by simp; omega
      obtain rfl : i = n := by omega
      have hel : (ents hs ls).length = i := by unfold ents; rw [zip_len _ _ _ (by rw [HI.out.1, hn.out]; exact Nat.le_refl _)]; exact HI.out.1
      have HS := hid HI.out.1
      have A1 : Hid (All (blkC G (ents hs ls ++ [nilS]) 40 :: (cps hs ls ++ cs)) wr) := hid (by
        have := HI.out.2
        rw [show i + 1 - i = 1 by omega] at this
        exact this)
      have eG : wr.heap[G]? = some (.cells (ents hs ls ++ [nilS]).toArray 40 (0, 0)) := A1.out.1.2.1
      have hGl : G < wr.heap.size := (Array.getElem?_eq_some_iff.1 eG).1
      have cG : wr.cell? ⟨G, i, none⟩ = some nilS := by
        rw [cell_at eG]
        refine (List.getElem?_toArray ..).trans ?_
        rw [List.getElem?_append_right (by omega), hel, Nat.sub_self]
        rfl
      have fG : wr.frozen? ⟨G, i, none⟩ = false := free_at eG i
      have hin : (i : Int) < (i : Int) + 1 := by omega
      obtain ⟨BH, hBH⟩ : ∃ BH, Hid (BH = wr.heap.size) := ⟨_, hid rfl⟩
      clear HI eG
      have cv : (convert 40 40 (.slice (some ⟨wr.heap.size, 0, none⟩) 6 6)).run Try.prog (wr.alloc (.cells #[.int .u8 98, .int .u8 101, .int .u8 104, .int .u8 105, .int .u8 110, .int .u8 100] 5)) = .ok (.slice (some ⟨wr.heap.size, 0, none⟩) 6 6) (wr.alloc (.cells #[.int .u8 98, .int .u8 101, .int .u8 104, .int .u8 105, .int .u8 110, .int .u8 100] 5 (6, 7))) := Lib.run_convert_bytes_const (P := Try.prog) wr 40 5 #[.int .u8 98, .int .u8 101, .int .u8 104, .int .u8 105, .int .u8 110, .int .u8 100] 6 6 Try.underlying40 Try.underlying5
      have A2 : Hid (All (blkC G (ents hs ls ++ [.slice (some ⟨wr.heap.size, 0, none⟩) 6 6]) 40 :: bhC wr.heap.size :: (cps hs ls ++ cs)) ((wr.setCell ⟨G, i, none⟩ (.slice (some ⟨wr.heap.size, 0, none⟩) 6 6)).alloc (.cells #[.int .u8 98, .int .u8 101, .int .u8 104, .int .u8 105, .int .u8 110, .int .u8 100] 5 (6, 7)))) := hid (by
        have h0 := A1.out.add (c := bhC wr.heap.size) (Fr.below (ba wr (.cells #[.int .u8 98, .int .u8 101, .int .u8 104, .int .u8 105, .int .u8 110, .int .u8 100] 5 (6, 7)))) (bhC_good _) (heap_alloc_new wr _) (fun k hk => by
          have : k = wr.heap.size := by simpa [bhC] using hk
          subst this
          exact ⟨Nat.le_refl _, by simp⟩)
        have h1 := h0.swap.setBlk i (.slice (some ⟨wr.heap.size, 0, none⟩) 6 6)
        have h2 := set_last (ents hs ls) nilS (.slice (some ⟨wr.heap.size, 0, none⟩) 6 6) []
        rw [hel] at h2
        simp only [List.append_nil] at h2
        rw [h2, World.setCell_alloc_past _ _ _ _ hGl] at h1
        exact h1)
      go_upto_region 9 with fail
      generalize hw2 : (wr.setCell ⟨G, i, none⟩ (.slice (some ⟨wr.heap.size, 0, none⟩) 6 6)).alloc (.cells #[.int .u8 98, .int .u8 101, .int .u8 104, .int .u8 105, .int .u8 110, .int .u8 100] 5 (6, 7)) = w2 at A2 ⊢
      rw [← hBH.out] at A2 ⊢
      clear hw2 cG fG A1 cv
      obtain ⟨BHS, hBHS⟩ : ∃ v : Value, Hid (v = .slice (some ⟨BH, 0, none⟩) 6 6) := ⟨_, hid rfl⟩
      rw [← hBHS.out] at A2
      have cut32 : ∀ W : World, (Instr.slice 32 (.slice (some ⟨G, 0, none⟩) (i + 1) (i + 1)) none (some (.int .i64 (i : Int))) none).run Try.prog W = .ok (.slice (some ⟨G, 0, none⟩) i (i + 1)) W := fun W => by
        rw [run_slice_h W 32 (some ⟨G, 0, none⟩) (i + 1) (i + 1) (by kernel_rfl) .i64 (i : Int) (by omega) (by omega)]
        have hs : (sizeOf (Try.prog.elem 32)).run Try.prog W = .ok 1 W := by kernel_rfl
        rw [hs]
        simp [sliced, Result.andThen, Addr.add_lit]
      have LST : Hid (∀ W, All (blkC G (ents hs ls ++ [BHS]) 40 :: bhC BH :: (cps hs ls ++ cs)) W → Lists W (.slice (some ⟨G, 0, none⟩) i (i + 1)) ls) := hid (fun W hW => by
        refine ⟨some ⟨G, 0, none⟩, i + 1, by rw [← hn.out], fun j hj => ?_⟩
        have hjh : j < hs.length := by rw [HS.out, hn.out]; exact hj
        have eG : W.heap[G]? = some (.cells (ents hs ls ++ [BHS]).toArray 40 (0, 0)) := hW.1.2.1
        have hm : cpC hs[j] ls[j] ∈ cps hs ls := by
          unfold cps
          rw [List.mem_iff_getElem]
          exact ⟨j, by simp; omega, by simp⟩
        have eH : W.heap[hs[j]]? = some (.cells (cellsB ls[j] ++ [Value.int .u8 0, Value.int .u8 0]).toArray 5 (0, 0)) := (hW.mem (c := cpC hs[j] ls[j]) (by simp [hm])).2.1
        refine ⟨G, 0, ent hs[j] ls[j], rfl, (Array.getElem?_eq_some_iff.1 eG).1, ?_, ?_⟩
        · rw [cell_at eG, Nat.zero_add]
          refine (List.getElem?_toArray ..).trans ?_
          rw [List.getElem?_append_left (by rw [hel, hn.out]; exact hj)]
          unfold ents
          rw [List.getElem?_zipWith, List.getElem?_eq_getElem hjh, List.getElem?_eq_getElem hj]
        · refine ⟨some ⟨hs[j], 0, none⟩, ls[j].length + 2, rfl, by omega, .inr ⟨hs[j], 0, rfl, (Array.getElem?_eq_some_iff.1 eH).1, fun q u hu => ?_⟩⟩
          rw [cell_at eH, Nat.zero_add]
          refine (List.getElem?_toArray ..).trans ?_
          have hq : q < (cellsB ls[j]).length := (List.getElem?_eq_some_iff.1 hu).1
          rw [List.getElem?_append_left hq]
          exact hu)
      have C1 := hid (load_any A2.out LST.out (by rw [← hn.out]; omega) (fun l hl => Nat.le_trans (HL.out l hl) (by omega)))
      obtain ⟨D, hD⟩ : ∃ D, Hid (D = (blkC G (ents hs ls ++ [BHS]) 40 :: bhC BH :: (cps hs ls ++ cs))) := ⟨_, hid rfl⟩
      rw [← hD.out] at C1
      have C1' : Hid (Calls Try.prog 25 #[.slice (some ⟨G, 0, none⟩) i (i + 1)] w2 fun e w' => ∃ va ee X, e = .returned (.tuple #[va, .int .i64 ee]) ∧ Hid (All (X ++ D) w' ∧ ((¬ loadOk ls ∧ va = .pointer none ∧ ee = 72 ∧ X = []) ∨ (loadOk ls ∧ ee = 0 ∧ ∃ g ps, va = .pointer (some ⟨g, 0, none⟩) ∧ Upto ls 8 ps ∧ X = rollL g ps)))) := hid (C1.out.mono (by
        rintro e w' (⟨h1, h2, h3⟩ | ⟨h1, g, ps, h2, h3, h4⟩)
        · exact ⟨_, _, [], h2, hid ⟨h3, .inl ⟨h1, rfl, rfl, rfl⟩⟩⟩
        · exact ⟨_, _, _, h2, hid ⟨h4, .inr ⟨h1, rfl, g, ps, rfl, h3, rfl⟩⟩⟩))
      have HTD : Hid (∀ W X, All (X ++ D) W → ListsW W (.slice ao i cp) ls) := hid (fun W X hW => HT.out W (hW.sublist (by
        rw [hD.out]
        exact List.Sublist.trans (.cons _ (.cons _ (List.sublist_append_right _ _))) (List.sublist_append_right _ _))))
      clear C1 A2
      go_wp2_with fail
      refine C1'.out.mono ?_
      rintro e w3 ⟨va, ee, X, rfl, HR⟩
      have C2 := hid (xload_any HR.out.1 (fun w' hw' => HTD.out w' X hw') (fun l hl => Nat.le_trans (HL.out l hl) (by omega)))
      have C2' : Hid (Calls Try.prog 36 #[.slice ao i cp] w3 fun e w' => ∃ vb Y, e = .returned (.tuple #[vb, .int .i64 ee]) ∧ Hid (All (Y ++ D) w' ∧ ((va = .pointer none ∧ vb = .pointer none ∧ Y = []) ∨ (∃ g h ps qs, va = .pointer (some ⟨g, 0, none⟩) ∧ vb = .pointer (some ⟨h, 0, none⟩) ∧ Twin ps qs ∧ Y = rollL g ps ++ xrollL h qs)))) := hid (C2.out.mono (by
        rintro e w' (⟨h1, h2, h3⟩ | ⟨h1, h, qs, h2, h3, h4⟩)
        · rcases HR.out.2 with ⟨k1, k2, k3, k4⟩ | ⟨k1, _⟩
          · subst k4
            exact ⟨_, [], by rw [k3]; exact h2, hid ⟨h3, .inl ⟨k2, rfl, rfl⟩⟩⟩
          · exact absurd k1 h1
        · rcases HR.out.2 with ⟨k1, _⟩ | ⟨_, k3, g, ps, k4, k5, k6⟩
          · exact absurd h1 k1
          · subst k6
            refine ⟨_, rollL g ps ++ xrollL h qs, by rw [k3]; exact h2, hid ⟨h4.perm ?_, .inr ⟨g, h, ps, qs, k4, rfl, twin_of k5 h3 h1.1, rfl⟩⟩⟩
            rw [List.append_assoc]
            exact List.perm_append_comm_assoc (xrollL h qs) (rollL g ps) D))
      clear C1' C2
      go_wp2_with fail
      refine C2'.out.mono ?_
      rintro e w4 ⟨vb, Y, rfl, HY⟩
      clear C2' HR cut32
      have EE := hid (show (ee == ee) = true by simp)
      go_upto_region 11 with fail
      have eG4 : w4.heap[G]? = some (.cells (ents hs ls ++ [BHS]).toArray 40 (0, 0)) := (HY.out.1.mem (c := blkC G (ents hs ls ++ [BHS]) 40) (by rw [hD.out]; simp)).2.1
      have eB4 : w4.heap[BH]? = some (.cells #[.int .u8 98, .int .u8 101, .int .u8 104, .int .u8 105, .int .u8 110, .int .u8 100] 5 (6, 7)) := (HY.out.1.mem (c := bhC BH) (by rw [hD.out]; simp)).2.1
      have hGl4 : G < w4.heap.size := (Array.getElem?_eq_some_iff.1 eG4).1
      have cG4 : w4.cell? ⟨G, i, none⟩ = some (.slice (some ⟨BH, 0, none⟩) 6 6) := by
        rw [cell_at eG4]
        refine (List.getElem?_toArray ..).trans ?_
        rw [List.getElem?_append_right (by omega), hel, Nat.sub_self, hBHS.out]
        rfl
      have cv4 : (convert 40 9 (.slice (some ⟨BH, 0, none⟩) 6 6)).run Try.prog w4 = .ok (.string ⟨#[98, 101, 104, 105, 110, 100]⟩) w4 := conv_string (l := [98, 101, 104, 105, 110, 100]) ⟨some ⟨BH, 0, none⟩, 6, rfl, by decide, .inr ⟨BH, 0, rfl, (Array.getElem?_eq_some_iff.1 eB4).1, fun j u hu => by
        rw [cell_at eB4, Nat.zero_add]
        exact (List.getElem?_toArray ..).trans hu⟩⟩
      clear eG4 eB4
      go_cut [7, 9, 11] (fun v1 v2 tv wx => v1 = va ∧ v2 = vb ∧ tv = .bool true ∧ wx = w4)
      case first =>
        rcases HY.out.2 with ⟨rfl, rfl, _⟩ | ⟨g, h, ps, qs, rfl, rfl, _, _⟩
        all_goals (go_wp2_with fail; go_meet; exact ⟨rfl, rfl, rfl, rfl⟩)
      case rest =>
      obtain ⟨rfl, rfl, rfl, rfl⟩ := hcut
      clear cG4 cv4 hGl4
      have HYV := hid HY.out.2
      have HY1 := hid HY.out.1
      rw [hD.out] at HY1
      clear HY HTD LST EE
      go_wp2_with fail
      go_loopw [11, 12] (fun tv iv wr => Box (∃ j : Nat, iv = .int .i64 (j : Int) ∧ tv = .bool true ∧ j ≤ i ∧ Hid (All (Y ++ (blkC G (ents hs ls ++ [BHS]) 40 :: bhC BH :: (cps (hs.drop j) (ls.drop j) ++ cs))) wr))) (fun _ iv _ => i - (intOf iv).toNat)
      case atStart => exact ⟨⟨0, rfl, rfl, Nat.zero_le _, hid (by simpa using HY1.out)⟩⟩
      case round =>
        obtain ⟨j, rfl, rfl, hj, HJ⟩ := hrel.out
        clear hrel HY1
        by_cases hlt : j < i
        case neg =>
          have elj : decide ((j : Int) < (i : Int)) = false := by simp; omega
          go_wp2_with fail
          go_ret3
          rcases HYV.out with ⟨rfl, rfl, rfl⟩ | ⟨g, h, ps, qs, rfl, rfl, hT, rfl⟩
          · exact .inl ⟨rfl, HJ.out.sublist (.cons _ (.cons _ (List.sublist_append_right _ _)))⟩
          · refine .inr ⟨g, h, ps, qs, rfl, hid ⟨hT, ?_⟩⟩
            have := HJ.out
            rw [List.append_assoc] at this
            exact this.sublist (List.Sublist.append_left (List.Sublist.append_left (.cons _ (.cons _ (List.sublist_append_right _ _))) _) _)
        case pos =>
        have elj : decide ((j : Int) < (i : Int)) = true := by simpa using hlt
        have hjl : j < ls.length := by rw [← hn.out]; exact hlt
        have hjh : j < hs.length := by rw [HS.out]; exact hlt
        obtain ⟨l, hl⟩ : ∃ l, Hid (l = ls[j]) := ⟨_, hid rfl⟩
        obtain ⟨H, hH⟩ : ∃ H, Hid (H = hs[j]) := ⟨_, hid rfl⟩
        have HLl : Hid (l.length ≤ 1048576) := hid (HL.out l (by rw [hl.out]; exact List.getElem_mem hjl))
        obtain ⟨ll, hll⟩ : ∃ ll, Hid (ll = l.length) := ⟨_, hid rfl⟩
        have hl20 : ll ≤ 1048576 := by rw [hll.out]; exact HLl.out
        obtain ⟨E, hE⟩ : ∃ E, Hid (E = Y ++ (blkC G (ents hs ls ++ [BHS]) 40 :: bhC BH :: (cps (hs.drop (j + 1)) (ls.drop (j + 1)) ++ cs))) := ⟨_, hid rfl⟩
        have J1 : Hid (All (blkC H (cellsB l ++ [.int .u8 0, .int .u8 0]) 5 :: E) wr) := hid (by
          have h1 := HJ.out
          rw [List.drop_eq_getElem_cons hjh, List.drop_eq_getElem_cons hjl] at h1
          have h2 : cps (hs[j] :: hs.drop (j + 1)) (ls[j] :: ls.drop (j + 1)) = cpC hs[j] ls[j] :: cps (hs.drop (j + 1)) (ls.drop (j + 1)) := rfl
          rw [h2, ← hl.out, ← hH.out] at h1
          rw [hE.out]
          refine h1.perm ?_
          have := perm_by 5 [Y, [blkC G (ents hs ls ++ [BHS]) 40], [bhC BH], [cpC H l], cps (hs.drop (j + 1)) (ls.drop (j + 1)) ++ cs] [3, 0, 1, 2, 4] rfl (by decide)
          simpa [List.getD, cpC] using this)
        have HEO : Hid (∀ W, All E W → ∃ gl ol al cl, ao = some ⟨gl, ol, none⟩ ∧ gl < W.heap.size ∧ W.cell? ⟨gl, ol + j, none⟩ = some (.slice al ll cl) ∧ ReadsW W (.slice al ll cl) l ∧ G < W.heap.size ∧ W.cell? ⟨G, j, none⟩ = some (.slice (some ⟨H, 0, none⟩) ll (ll + 2))) := hid (fun W hW => by
          rw [hE.out] at hW
          obtain ⟨gl, ol, vl, h1, h2, h3, h4⟩ := (HT.out W (hW.sublist (List.Sublist.trans (.cons _ (.cons _ (List.sublist_append_right _ _))) (List.sublist_append_right _ _)))).at hjl
          rw [← hl.out] at h4
          obtain ⟨al, cl, rfl⟩ := h4.form
          have eG : W.heap[G]? = some (.cells (ents hs ls ++ [BHS]).toArray 40 (0, 0)) := (hW.mem (c := blkC G (ents hs ls ++ [BHS]) 40) (by simp)).2.1
          rw [hll.out]
          refine ⟨gl, ol, al, cl, h1, h2, h3, h4, (Array.getElem?_eq_some_iff.1 eG).1, ?_⟩
          rw [cell_at eG]
          refine (List.getElem?_toArray ..).trans ?_
          rw [List.getElem?_append_left (by rw [hel]; exact hlt)]
          unfold ents
          rw [List.getElem?_zipWith, List.getElem?_eq_getElem hjh, List.getElem?_eq_getElem hjl, hl.out, hH.out]
          rfl)
        clear HJ
        obtain ⟨gl, ol, al, cl, ea, hgl, hcell, hrd, hGl, cG⟩ := HEO.out wr J1.out.tail
        subst ea
        have eH : wr.heap[H]? = some (.cells (cellsB l ++ [Value.int .u8 0, Value.int .u8 0]).toArray 5 (0, 0)) := J1.out.1.2.1
        have hrH : Reads wr (.slice (some ⟨H, 0, none⟩) ll (ll + 2)) l := ⟨some ⟨H, 0, none⟩, ll + 2, by rw [hll.out], by rw [hll.out]; omega, .inr ⟨H, 0, rfl, (Array.getElem?_eq_some_iff.1 eH).1, fun q u hu => by
          rw [cell_at eH, Nat.zero_add]
          refine (List.getElem?_toArray ..).trans ?_
          rw [List.getElem?_append_left (List.getElem?_eq_some_iff.1 hu).1]
          exact hu⟩⟩
        have CQ : Hid (∀ q : Nat, Calls Try.prog 26 #[.slice (some ⟨H, 0, none⟩) ll (ll + 2), .slice al ll cl] (wr.drewN q) fun e w' => e = .returned (.bool true) ∧ w' = wr.drewN q) := hid (fun q => by
          have := same_anyW (hrH.below (bdN wr q)) (hrd.below (bdN wr q))
          simpa using this)
        have hin1 : (j : Int) < (i : Int) := by omega
        have hin2 : (j : Int) < (i : Int) + 1 := by omega
        clear eH hrH hrd
        go_upto_region 15 with fail
        go_quiet (first | (go_at_call 26; exact Calls.quiet_of_same (CQ.out _)))
        have J2 := hid (J1.out.drewN nq)
        clear CQ J1 hcell cG hGl hgl
        generalize wr.drewN nq = w5 at J2 ⊢
        obtain ⟨gl2, ol2, al2, cl2, ea, hgl, hcell, hrd, hGl, cG⟩ := HEO.out w5 J2.out.tail
        simp only [Option.some.injEq, Addr.mk.injEq, and_true] at ea
        obtain ⟨rfl, rfl⟩ := ea
        clear hrd
        have wl : IntKind.i64.wrap ((ll : Int) + 2) = (ll : Int) + 2 := by rw [IntKind.wrap_i64]; omega
        have hcut2 : ∀ W : World, (Instr.slice 40 (Value.slice (some ⟨H, 0, none⟩) ll (ll + 2)) none (some (.int .i64 ((ll : Int) + 2))) none).run Try.prog W = .ok (Value.slice (some ⟨H, 0, none⟩) (ll + 2) (ll + 2)) W := fun W => by
          rw [show ((ll : Int) + 2) = ((ll + 2 : Nat) : Int) by omega]
          exact cut_run H 0 (ll + 2) ll (ll + 2) (by omega) (by omega) W
        go_upto_region 17 with fail
        go_quiet (fail)
        have J3 := hid (J2.out.drewN nq)
        clear J2 hcell cG hGl hgl hcut2
        generalize w5.drewN nq = w6 at J3 ⊢
        obtain ⟨gl2, ol2, al2, cl2, ea, hgl, hcell, hrd, hGl, cG⟩ := HEO.out w6 J3.out.tail
        simp only [Option.some.injEq, Addr.mk.injEq, and_true] at ea
        obtain ⟨rfl, rfl⟩ := ea
        clear hrd
        have eH : w6.heap[H]? = some (.cells (cellsB l ++ [Value.int .u8 0, Value.int .u8 0]).toArray 5 (0, 0)) := J3.out.1.2.1
        have hHl : H < w6.heap.size := (Array.getElem?_eq_some_iff.1 eH).1
        have hcl : (cellsB l).length = ll := by rw [hll.out]; simp [cellsB]
        have cH0 : w6.cell? ⟨H, ll, none⟩ = some (.int .u8 0) := by
          rw [cell_at eH]
          refine (List.getElem?_toArray ..).trans ?_
          rw [List.getElem?_append_right (by omega), hcl, Nat.sub_self]
          rfl
        have cH1 : w6.cell? ⟨H, ll + 1, none⟩ = some (.int .u8 0) := by
          rw [cell_at eH]
          refine (List.getElem?_toArray ..).trans ?_
          rw [List.getElem?_append_right (by omega), hcl, show ll + 1 - ll = 1 by omega]
          rfl
        have wl1 : IntKind.i64.wrap ((ll : Int) + 1) = (ll : Int) + 1 := by rw [IntKind.wrap_i64]; omega
        have hin3 : (ll : Int) < (ll : Int) + 2 := by omega
        have hin4 : (ll : Int) + 1 < (ll : Int) + 2 := by omega
        clear eH
        go_wp2_with fail
        clear cH0 cH1 wl1 hin3 hin4 hcell cG hGl hgl
        go_loopw [15] (fun kv wx => Box (∃ (k : Nat) (vs : List Value), kv = .int .i64 (k : Int) ∧ k ≤ ll + 2 ∧ Hid (vs.length = ll + 2 ∧ All (blkC H vs 5 :: E) wx))) (fun kv _ => ll + 2 - (intOf kv).toNat)
        case atStart => exact ⟨⟨0, cellsB l ++ [.int .u8 0, .int .u8 0], rfl, Nat.zero_le _, hid ⟨by simp [hcl], J3.out⟩⟩⟩
        case round =>
          obtain ⟨k, vs, rfl, hk, HK⟩ := hrel.out
          clear hrel J3
          by_cases hkl : k < ll + 2
          case neg =>
            have ek : decide ((k : Int) < (ll : Int) + 2) = false := by simp; omega
            have J4 : Hid (All (Y ++ (blkC G (ents hs ls ++ [BHS]) 40 :: bhC BH :: (cps (hs.drop (j + 1)) (ls.drop (j + 1)) ++ cs))) wr) := hid (by
              have := HK.out.2.tail
              rw [hE.out] at this
              exact this)
            clear HK
            have wj : IntKind.i64.wrap ((j : Int) + 1) = (j : Int) + 1 := by rw [IntKind.wrap_i64]; omega
            go_wp2
            go_roundw
            case rel => exact ⟨⟨j + 1, by go_num, rfl, by omega, J4⟩⟩
            case measure => simp [intOf]; omega
          case pos =>
          have ek : decide ((k : Int) < (ll : Int) + 2) = true := by simp; omega
          have eH : wr.heap[H]? = some (.cells vs.toArray 5 (0, 0)) := HK.out.2.1.2.1
          have hHl : H < wr.heap.size := (Array.getElem?_eq_some_iff.1 eH).1
          obtain ⟨u, hu⟩ : ∃ u, vs[k]? = some u := ⟨_, List.getElem?_eq_getElem (by rw [HK.out.1]; exact hkl)⟩
          have cH : wr.cell? ⟨H, k, none⟩ = some u := by
            rw [cell_at eH]
            exact (List.getElem?_toArray ..).trans hu
          have fH : wr.frozen? ⟨H, k, none⟩ = false := free_at eH k
          have hin5 : (k : Int) < (ll : Int) + 2 := by omega
          have wk : IntKind.i64.wrap ((k : Int) + 1) = (k : Int) + 1 := by rw [IntKind.wrap_i64]; omega
          clear eH
          go_wp2
          go_roundw
          case rel => exact ⟨⟨k + 1, vs.set k (.int .u8 238), by go_num, by omega, hid ⟨by simp [HK.out.1], HK.out.2.setBlk k (.int .u8 238)⟩⟩⟩
          case measure => simp [intOf]; omega
    have el : decide ((i : Int) < (n : Int)) = true := by simpa using hlt
    have hil : i < ls.length := by rw [← hn.out]; exact hlt
    obtain ⟨l, hl⟩ : ∃ l, Hid (l = ls[i]) := ⟨_, hid rfl⟩
    have HLl : Hid (l.length ≤ 1048576) := hid (HL.out l (by rw [hl.out]; exact List.getElem_mem hil))
    have HLI : Hid (∀ W ds, All (ds ++ cs) W → ∃ gl ol al cl, ao = some ⟨gl, ol, none⟩ ∧ gl < W.heap.size ∧ W.cell? ⟨gl, ol + i, none⟩ = some (.slice al l.length cl) ∧ ReadsW W (.slice al l.length cl) l) := hid (fun W ds hW => by
      obtain ⟨gl, ol, vl, h1, h2, h3, h4⟩ := (HT.out W (hW.sublist (List.sublist_append_right _ _))).at hil
      rw [← hl.out] at h4
      obtain ⟨al, cl, rfl⟩ := h4.form
      exact ⟨gl, ol, al, cl, h1, h2, h3, h4⟩)
    have A1 : Hid (All ((blkC G (ents hs ls ++ List.replicate (n + 1 - i) nilS) 40 :: cps hs ls) ++ cs) wr) := hid HI.out.2
    obtain ⟨gl, ol, al, cl, ea, hgl, hcell, hrd⟩ := HLI.out wr _ A1.out
    subst ea
    obtain ⟨ll, hll⟩ : ∃ ll, Hid (ll = l.length) := ⟨_, hid rfl⟩
    have hl20 : ll ≤ 1048576 := by rw [hll.out]; exact HLl.out
    rw [← hll.out] at hcell HLI hrd
    have hel : (ents hs ls).length = i := by unfold ents; rw [zip_len _ _ _ (by rw [HI.out.1]; omega)]; exact HI.out.1
    have eG : wr.heap[G]? = some (.cells (ents hs ls ++ List.replicate (n + 1 - i) nilS).toArray 40 (0, 0)) := A1.out.1.2.1
    have hGl : G < wr.heap.size := (Array.getElem?_eq_some_iff.1 eG).1
    have cG : wr.cell? ⟨G, i, none⟩ = some nilS := by
      rw [cell_at eG]
      refine (List.getElem?_toArray ..).trans ?_
      rw [List.getElem?_append_right (by omega), hel, Nat.sub_self, List.getElem?_replicate, if_pos (by omega)]
    have fG : wr.frozen? ⟨G, i, none⟩ = false := free_at eG i
    have mk : ∀ W : World, (Instr.makeSlice 40 (.int .i64 ((ll : Int) + 2)) (.int .i64 ((ll : Int) + 2))).run Try.prog W = .ok (.slice (some ⟨W.heap.size, 0, none⟩) (ll + 2) (ll + 2)) (W.alloc (.cells (List.replicate (ll + 2) (.int .u8 0)).toArray 5)) := fun W => make_bytes (ll + 2) (by omega)
    have wl : IntKind.i64.wrap ((ll : Int) + 2) = (ll : Int) + 2 := by rw [IntKind.wrap_i64]; omega
    have A2 : Hid (All ((blkC G (ents hs ls ++ [.slice (some ⟨wr.heap.size, 0, none⟩) (ll + 2) (ll + 2)] ++ List.replicate (n + 1 - (i + 1)) nilS) 40 :: blkC wr.heap.size (List.replicate (ll + 2) (.int .u8 0)) 5 :: cps hs ls) ++ cs) ((wr.alloc (.cells (List.replicate (ll + 2) (.int .u8 0)).toArray 5)).setCell ⟨G, i, none⟩ (.slice (some ⟨wr.heap.size, 0, none⟩) (ll + 2) (ll + 2)))) := hid (by
      have h1 := ((A1.out.addBlk (List.replicate (ll + 2) (.int .u8 0)) 5).swap).setBlk i (.slice (some ⟨wr.heap.size, 0, none⟩) (ll + 2) (ll + 2))
      rw [rep_set _ hel hlt] at h1
      exact h1)
    clear eG
    go_upto_region 6 with fail
    obtain ⟨H, hH⟩ : ∃ H, Hid (H = wr.heap.size) := ⟨_, hid rfl⟩
    rw [show (wr.alloc (.cells (List.replicate (ll + 2) (Value.int .u8 0)).toArray 5)).setCell ⟨G, i, none⟩ (.slice (some ⟨wr.heap.size, 0, none⟩) (ll + 2) (ll + 2)) = (wr.setCell ⟨G, i, none⟩ (.slice (some ⟨wr.heap.size, 0, none⟩) (ll + 2) (ll + 2))).alloc (.cells (Array.replicate (ll + 2) (Value.int .u8 0)) 5) from by simp; exact World.setCell_alloc_past _ _ _ _ hGl] at A2
    generalize hw2 : (wr.setCell ⟨G, i, none⟩ (.slice (some ⟨wr.heap.size, 0, none⟩) (ll + 2) (ll + 2))).alloc (.cells (Array.replicate (ll + 2) (Value.int .u8 0)) 5) = w2 at A2 ⊢
    rw [← hH.out] at A2 ⊢
    have hin : (i : Int) < (n : Int) + 1 := by omega
    have hin2 : i < n + 1 := by omega
    clear hw2 cG fG hcell hrd mk A1
    have HS := hid HI.out.1
    obtain ⟨gl', ol', al, cl, ea, hgl, hcell, hrd⟩ := HLI.out w2 _ A2.out
    simp only [Option.some.injEq, Addr.mk.injEq, and_true] at ea
    obtain ⟨rfl, rfl⟩ := ea
    have eG : w2.heap[G]? = some (.cells (ents hs ls ++ [Value.slice (some ⟨H, 0, none⟩) (ll + 2) (ll + 2)] ++ List.replicate (n + 1 - (i + 1)) nilS).toArray 40 (0, 0)) := A2.out.1.2.1
    have cG : w2.cell? ⟨G, i, none⟩ = some (.slice (some ⟨H, 0, none⟩) (ll + 2) (ll + 2)) := by
      rw [cell_at eG]
      refine (List.getElem?_toArray ..).trans ?_
      rw [List.append_assoc, List.getElem?_append_right (by omega), hel, Nat.sub_self]
      rfl
    obtain ⟨wz, hcp, hHz, hfz⟩ := copy_bytes (w1 := w2.drew) H (ll + 2) (ll + 2) l al cl (List.replicate (ll + 2) (.int .u8 0)) (by rw [hll.out] at hrd; exact hrd.below (bd w2)) (A2.out.tail.1.2.1) (by rw [← hll.out]; omega) (by rw [List.length_replicate, ← hll.out]; omega)
    rw [← hll.out] at hcp hHz
    have A3 : Hid (All ((blkC G (ents hs ls ++ [Value.slice (some ⟨H, 0, none⟩) (ll + 2) (ll + 2)] ++ List.replicate (n + 1 - (i + 1)) nilS) 40 :: blkC H (cellsB l ++ [.int .u8 0, .int .u8 0]) 5 :: cps hs ls) ++ cs) wz) := hid (by
      have h1 := (A2.out.drew.swap).turn (c' := blkC H (cellsB l ++ [.int .u8 0, .int .u8 0]) 5) hfz (blkC_good _ _ _) (by
        show wz.heap[H]? = _
        rw [hHz]
        congr 2
        have : (List.replicate (ll + 2) (Value.int .u8 0)).drop ll = [.int .u8 0, .int .u8 0] := by rw [List.drop_replicate, Nat.add_sub_cancel_left]; rfl
        rw [this]) (fun k hk => Or.inl hk) (fun k hk => by
        have : k = H := by simpa [blkC] using hk
        subst this
        exact (Array.getElem?_eq_some_iff.1 hHz).1)
      exact h1.swap)
    clear hHz hfz eG A2
    go_cut [44] (fun vv wx => Hid (All ((blkC G (ents hs ls ++ [Value.slice (some ⟨H, 0, none⟩) (ll + 2) (ll + 2)] ++ List.replicate (n + 1 - (i + 1)) nilS) 40 :: blkC H (cellsB l ++ [.int .u8 0, .int .u8 0]) 5 :: cps hs ls) ++ cs) wx))
    case first =>
      go_region_law (first | (refine step_copy (by rfl) (.tmp 39) (.tmp 43) 40 40 (by rfl) _ wz (by exact hcp) ?_))
      all_goals (go_wp2_with fail; go_meet; exact A3)
    case rest =>
    have A3 := hcut
    clear hcell hrd hcp cG
    obtain ⟨gl2, ol2, al2, cl2, ea, hgl2, hcell, hrd⟩ := HLI.out wc _ A3.out
    simp only [Option.some.injEq, Addr.mk.injEq, and_true] at ea
    obtain ⟨rfl, rfl⟩ := ea
    have eG : wc.heap[G]? = some (.cells (ents hs ls ++ [Value.slice (some ⟨H, 0, none⟩) (ll + 2) (ll + 2)] ++ List.replicate (n + 1 - (i + 1)) nilS).toArray 40 (0, 0)) := A3.out.1.2.1
    have cG : wc.cell? ⟨G, i, none⟩ = some (Value.slice (some ⟨H, 0, none⟩) (ll + 2) (ll + 2)) := by
      rw [cell_at eG]
      refine (List.getElem?_toArray ..).trans ?_
      rw [List.append_assoc, List.getElem?_append_right (by omega), hel, Nat.sub_self]
      rfl
    have fG : wc.frozen? ⟨G, i, none⟩ = false := free_at eG i
    have hcut2 : ∀ W : World, (Instr.slice 40 (Value.slice (some ⟨H, 0, none⟩) (ll + 2) (ll + 2)) none (some (.int .i64 (ll : Int))) none).run Try.prog W = .ok (Value.slice (some ⟨H, 0, none⟩) ll (ll + 2)) W := fun W => cut_run H 0 ll (ll + 2) (ll + 2) (by omega) (by omega) W
    have A4 : Hid (All (blkC G (ents (hs ++ [H]) ls ++ List.replicate (n + 1 - (i + 1)) nilS) 40 :: (cps (hs ++ [H]) ls ++ cs)) (wc.setCell ⟨G, i, none⟩ (Value.slice (some ⟨H, 0, none⟩) ll (ll + 2))).drew) := hid (by
      have h1 := (A3.out.setBlk i (Value.slice (some ⟨H, 0, none⟩) ll (ll + 2))).drew
      have hs1 := set_last (ents hs ls) (Value.slice (some ⟨H, 0, none⟩) (ll + 2) (ll + 2)) (Value.slice (some ⟨H, 0, none⟩) ll (ll + 2)) (List.replicate (n + 1 - (i + 1)) nilS)
      rw [hel] at hs1
      rw [hs1] at h1
      have e1 : ents (hs ++ [H]) ls = ents hs ls ++ [Value.slice (some ⟨H, 0, none⟩) ll (ll + 2)] := by
        unfold ents
        rw [zip_snoc _ _ _ _ (by rw [HS.out]; exact hil)]
        congr 2
        simp only [HS.out]
        rw [← hl.out, hll.out]; rfl
      have e2 : cps (hs ++ [H]) ls = cps hs ls ++ [blkC H (cellsB l ++ [.int .u8 0, .int .u8 0]) 5] := by
        unfold cps
        rw [zip_snoc _ _ _ _ (by rw [HS.out]; exact hil)]
        congr 2
        simp only [HS.out]
        rw [← hl.out]; rfl
      rw [e1, e2]
      refine h1.perm ?_
      have := perm_by 4 [[blkC G (ents hs ls ++ [Value.slice (some ⟨H, 0, none⟩) ll (ll + 2)] ++ List.replicate (n + 1 - (i + 1)) nilS) 40], [blkC H (cellsB l ++ [.int .u8 0, .int .u8 0]) 5], cps hs ls, cs] [0, 2, 1, 3] rfl (by decide)
      simpa [List.getD] using this)
    clear eG A3 hcut
    go_upto_region 7 with fail
    go_region
    clear cG fG hcell hrd hcut2
    go_wp2
    go_roundw
    case rel => exact ⟨⟨i + 1, hs ++ [H], by go_num, by omega, hid ⟨by simp [HS.out], A4.out⟩⟩⟩
    case measure => simp [intOf]; omega

end Go.Proofs.Ytagdpfghooogfaa
