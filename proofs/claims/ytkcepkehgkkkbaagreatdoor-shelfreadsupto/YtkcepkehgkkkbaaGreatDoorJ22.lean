import Derived.Test.YtkcepkehgkkkbaaGreatDoorJ21
import Derived.Deep.Upon
import Derived.Deep.RegionWith
import Derived.Deep.DrawnRows
import Derived.Deep.QuietTactic
import Derived.BigQuiet
namespace Go.Proofs.YtkcepkehgkkkbaaGreatDoor
open Go.RowKit
set_option linter.unusedVariables false

theorem srcNil {w : World} {size : Nat} {tx e' : TypeId} (hk : Tryz.prog.underlying tx = some (.slice e')) (ao : Option Addr) (c : Nat) : Src Tryz.prog size tx (.slice ao 0 c) 0 [] w := by
  cases ao with
  | none => exact Src.ofNil w hk c
  | some a => exact Src.ofSlice w hk a 0 c [] (by simp) (fun j u h => by simp at h) (fun u h => by simp at h)
theorem wpList_append_run {P : Program} {w : World} {ops : Array Oper} {rest : List Oper} {o : Oper} {a : Act} {Q : Exit → Act → World → Prop} (hgd : o.guard = none) (s x : Operand) (t : TypeId)
    (ho : o.op = .call { callee := .builtin .append, args := #[s, x], argTypes := #[t, t] }) (v1 v2 v' : Value) (w' : World) (hs : a.eval s = v1) (hx : a.eval x = v2)
    (hr : (Builtin.append_ #[t, t] o.type #[v1, v2]).run P w = .ok v' w') (h : wpList P ops Q rest (a.put o.dst v') w') : wpList P ops Q (o :: rest) a w := by
  refine wpList_plain hgd fun K hK => ?_
  unfold Oper.wp execOp
  simp only [ho, resolve, invoke, builtin, Sem.run_bind, Sem.run_pure, Result.andThen_ok, List.map_toArray, List.map_cons, List.map_nil, hs, hx, hr]
  exact hK _ _ h
theorem All.addMade {cs : List Comp} {w : World} (h : All cs w) : All (ownC 9 (.slice (some ⟨w.heap.size, 0, none⟩) 0 0) (txtV []) :: cs) (w.alloc (.cells #[] 9)) := by
  refine h.addOwn (ba w _) ?_
  have := World.ownsRow_made (base := w.heap.size) (e := 9) (size := 1) w #[] 0 (Nat.le_refl _) (by unfold maxLen; omega) rfl
  exact this
/-- Texts are laid behind one's own. -/
theorem appX {W : World} {v v2 : Value} {l l2 : List ByteArray} {cs : List Comp} (A : All (ownC 9 v (txtV l) :: cs) W) (h2 : Txts W v2 l2) (hl : l.length + l2.length ≤ 1000000) :
    ∃ ao c w', (Builtin.append_ #[39, 39] 39 #[v, v2]).run Tryz.prog W = .ok (.slice ao (l.length + l2.length) c) w' ∧ All (ownC 9 (.slice ao (l.length + l2.length) c) (txtV (l ++ l2)) :: cs) w' := by
  obtain ⟨i1, hi1, hz0, hz1, hz2⟩ := info_parts Tryz.info9
  obtain ⟨ao2, c2, rfl, hc2, hx⟩ := h2
  have hown : W.ownsRow 0 9 1 v (txtV l).length (txtV l) := A.1.2.1
  obtain ⟨ao, c, rfl⟩ := owns_form hown
  rcases hx with rfl | ⟨g, o, rfl, hg, hcell⟩
  · refine ⟨ao, c, W, ?_, ?_⟩
    · have := run_append_nothing W 39 39 39 9 i1 Tryz.und39 hi1 ao (txtV l).length c (owns_len hown).2 (.slice ao2 0 c2) (srcNil Tryz.und39 ao2 c2)
      simpa using this
    · simpa using A
  · obtain ⟨v', w', hr, h2, h3, h4, h5⟩ := run_append_own_at (P := Tryz.prog) W 0 39 39 9 i1 (.string ⟨#[]⟩) 1 16 Tryz.und39 hi1 hz0 hz1 hz2 rfl (by decide) (.slice ao (txtV l).length c) (txtV l).length (txtV l) hown ⟨g, o, none⟩ l2.length c2 (txtV l2) (by simp)
      (fun j u hu => by
        rw [List.getElem?_map] at hu
        obtain ⟨y, hy, rfl⟩ := Option.map_eq_some_iff.1 hu
        obtain ⟨hj, rfl⟩ := List.getElem?_eq_some_iff.1 hy
        rw [Addr.add_lit]
        exact hcell j hj) (fun u hu => by
        obtain ⟨y, _, rfl⟩ := List.mem_map.1 hu
        rfl) (by simp only [List.length_map]; unfold maxLen; omega) (by simp only [List.length_map]; omega) (by omega)
    obtain ⟨ao', c', rfl⟩ := owns_form h2
    have el : (txtV l).length + l2.length = l.length + l2.length := by simp
    rw [el] at hr h2 h5
    refine ⟨ao', c', w', hr, A.ownGrow (vs' := txtV (l ++ l2)) (base := 0) ?_ h3 h5⟩
    have e1 : txtV (l ++ l2) = txtV l ++ txtV l2 := by simp [txtV]
    rw [e1, List.length_append, List.length_map, List.length_map]
    exact h2

theorem one_new {x : Value} {H : Nat} {W : World} (hc : W.cell? ⟨H, 0, none⟩ = some x) : ∀ j u, [x][j]? = some u → W.cell? ((⟨H, 0, none⟩ : Addr).add j) = some u := by
  intro j u hu
  rw [Addr.add_lit]
  match j with
  | 0 => simp only [List.getElem?_cons_zero, Option.some.injEq] at hu; subst hu; simpa using hc
  | j + 1 => simp at hu
theorem one_cell {x : Value} (h : x.oneCell' = true) : ∀ u ∈ [x], u.oneCell' = true := by
  intro u hu
  simp only [List.mem_cons, List.not_mem_nil, or_false] at hu
  subst hu
  exact h

/-- One more is laid behind one's own. -/
theorem app1 {W : World} {e t : TypeId} {i : TypeInfo} {z v x : Value} {bytes H : Nat} {us : List Value} {cs : List Comp} (hu : Tryz.prog.underlying t = some (.slice e)) (hi : Tryz.prog.info? e = some i) (hz : i.zero = some z) (hsize : i.size = 1) (hby : i.bytes = bytes) (hzs : z.cells.size = 1)
    (A : All (ownC e v us :: cs) W) (hc : W.cell? ⟨H, 0, none⟩ = some x) (h1 : x.oneCell' = true) (hl : us.length + 1 ≤ maxLen) (hl2 : (us.length + 1) * bytes ≤ 140737488355328) :
    ∃ ao c w', (Builtin.append_ #[t, t] t #[v, .slice (some ⟨H, 0, none⟩) 1 1]).run Tryz.prog W = .ok (.slice ao (us.length + 1) c) w' ∧ All (ownC e (.slice ao (us.length + 1) c) (us ++ [x]) :: cs) w' := by
  have hown : W.ownsRow 0 e 1 v us.length us := A.1.2.1
  obtain ⟨v', w', hr, h2, h3, h4, h5⟩ := run_append_own_at (P := Tryz.prog) W 0 t t e i z 1 bytes hu hi hz hsize hby hzs (by decide) v us.length us hown ⟨H, 0, none⟩ 1 1 [x] (by simp) (one_new hc) (one_cell h1) hl hl2 (by omega)
  obtain ⟨ao', c', rfl⟩ := owns_form h2
  refine ⟨ao', c', w', hr, A.ownGrow (vs' := us ++ [x]) (base := 0) ?_ h3 h5⟩
  rw [List.length_append]
  exact h2

/-- append: in place, or into a new row while the old one stays; in run form. -/
theorem run_append_two {P : Program} (w : World) (t : TypeId) (ot : TypeId)
    (e : TypeId) (i : TypeInfo) (z : Value) (size bytes : Nat) (ht : P.underlying t = some (.slice e)) (hi : P.info? e = some i) (hz : i.zero = some z)
    (hsize : i.size = size) (hby : i.bytes = bytes) (hzs : z.cells.size = size) (hsz : 0 < size)
    (v : Value) (n : Nat) (xs : List Value) (hown : w.ownsRow 0 e size v n xs)
    (ad : Addr) (m c : Nat) (news : List Value) (hl : news.length = m * size) (hnews : ∀ j u, news[j]? = some u → w.cell? (ad.add j) = some u) (h1 : ∀ u ∈ news, u.oneCell' = true)
    (hm : 0 < m) (h63 : n + m ≤ maxLen) (hbytes : (n + m) * bytes ≤ 140737488355328) :
    ∃ g cap w', (Builtin.append_ #[t, t] ot #[v, .slice (some ad) m c]).run P w = .ok (.slice (some ⟨g, 0, none⟩) (n + m) cap) w' ∧ w'.ownsRow 0 e size (.slice (some ⟨g, 0, none⟩) (n + m) cap) (n + m) (xs ++ news) ∧ w.grownBy w' v.ownBlock ∧ (v.ownBlock = some g ∨ (g = w.heap.size ∧ Below w.heap.size w w')) := by
  obtain ⟨v', w', hr, h2, h3, h4, h5⟩ := run_append_own_at (P := P) w 0 t ot e i z size bytes ht hi hz hsize hby hzs hsz v n xs hown ad m c news hl hnews h1 h63 hbytes (by omega)
  subst hsize
  subst hby
  have hkey : ∃ g cap, v' = .slice (some ⟨g, 0, none⟩) (n + m) cap ∧ (v.ownBlock = some g ∨ (g = w.heap.size ∧ Below w.heap.size w w')) := by
    rcases h2.2 with ⟨_, e0⟩ | ⟨g, cap, cur, e1, _⟩
    · omega
    · refine ⟨g, cap, e1, ?_⟩
      rcases hown.2 with ⟨rfl, rfl⟩ | ⟨g0, cap0, cur0, rfl, _, hg0, hn0, _, hcs0, htake0⟩
      · right
        have hr2 := run_append_nil (P := P) w t ot e i z ht hi hz ad m c news hl hnews hm (by simp only [maxLen] at h63; omega) (by have hb := hbytes; simp only [Nat.zero_add] at hb; omega)
        rw [hr] at hr2
        simp only [Result.ok.injEq] at hr2
        obtain ⟨rfl, rfl⟩ := hr2
        simp only [Value.slice.injEq, Option.some.injEq, Addr.mk.injEq, and_true] at e1
        exact ⟨e1.1.symm, ((Below.refl _ _).drew).alloc (Nat.le_refl _) _⟩
      · by_cases hroom : n + m ≤ cap0
        · left
          rcases h5 with e5 | e5
          · rw [e1] at e5; exact e5.symm
          · exfalso
            obtain ⟨w2, hr2, _, _⟩ := run_append_fits (P := P) w 0 t ot e i i.size ht hi rfl g0 n cap0 xs hown ad m c news hl hnews h1 hroom
            rw [hr] at hr2
            simp only [Result.ok.injEq] at hr2
            rw [hr2.1] at e5
            simp [Value.ownBlock] at e5
            have := (Array.getElem?_eq_some_iff.1 hg0).1
            omega
        · right
          have hr2 := run_append_grow (P := P) w t ot e i z ht hi hz ⟨g0, 0, none⟩ n cap0 xs hown.1 (hown.cells (g := g0) rfl) ad m c news hl hnews (by omega) (by simp only [maxLen] at h63; omega) (growslice_fits (by omega) hbytes)
          rw [hr] at hr2
          simp only [Result.ok.injEq] at hr2
          obtain ⟨rfl, rfl⟩ := hr2
          simp only [Value.slice.injEq, Option.some.injEq, Addr.mk.injEq, and_true] at e1
          exact ⟨e1.1.symm, ((Below.refl _ _).drew).alloc (Nat.le_refl _) _⟩
  obtain ⟨g, cap, rfl, hk⟩ := hkey
  exact ⟨g, cap, w', hr, h2, h3, hk⟩

/-- One more text behind a list that grows. -/
theorem appE {W : World} {a lv x : Value} {la ll : List Value} {H : Nat} {cs : List Comp} (A : All (extC 9 a la lv ll :: cs) W) (hc : W.cell? ⟨H, 0, none⟩ = some x) (h1 : x.oneCell' = true) (hl : ll.length ≤ 1000000) :
    ∃ g c w', (Builtin.append_ #[39, 39] 39 #[lv, .slice (some ⟨H, 0, none⟩) 1 1]).run Tryz.prog W = .ok (.slice (some ⟨g, 0, none⟩) (ll.length + 1) c) w' ∧ All (extC 9 a la (.slice (some ⟨g, 0, none⟩) (ll.length + 1) c) (ll ++ [x]) :: cs) w' := by
  obtain ⟨i1, hi1, hz0, hz1, hz2⟩ := info_parts Tryz.info9
  obtain ⟨g, c, w', hr, ho, hg, hat⟩ := run_append_two (P := Tryz.prog) W 39 39 9 i1 (.string ⟨#[]⟩) 1 16 Tryz.und39 hi1 hz0 hz1 hz2 rfl (by decide) lv ll.length ll A.1.2.1.2.1 ⟨H, 0, none⟩ 1 1 [x] (by simp) (one_new hc) (one_cell h1) (by decide) (by unfold maxLen; omega) (by omega)
  exact ⟨g, c, w', hr, A.ext_append ho hg hat⟩
end Go.Proofs.YtkcepkehgkkkbaaGreatDoor

namespace Go.Proofs.YtkcepkehgkkkbaaGreatDoor
open Go.RowKit
set_option linter.unusedVariables false
attribute [local go_sem ↓] Go.wp_at_zero Go.wp_at_succ

/-- A mark. -/
def nmS (i : Nat) : ByteArray := ⟨#[109, 97, 114, 107, 32]⟩ ++ strB [97 + UInt8.ofNat (i / 26 % 26), 97 + UInt8.ofNat (i % 26)]

theorem reads_two (w : World) (a b : UInt8) (x y : Int) (hx : x = (a.toNat : Int)) (hy : y = (b.toNat : Int)) : Reads (w.alloc (.cells #[.int .u8 x, .int .u8 y] 5)) (.slice (some ⟨w.heap.size, 0, none⟩) 2 2) [a, b] := by
  subst hx hy
  refine ⟨_, 2, rfl, by simp, Or.inr ⟨w.heap.size, 0, rfl, by simp, fun j u hu => ?_⟩⟩
  rw [cell_at (heap_alloc_new w _)]
  match j with
  | 0 => simpa [cellsB] using hu
  | 1 => simpa [cellsB] using hu
  | j + 2 => simp [cellsB] at hu

set_option maxRecDepth 1000000 in
theorem name_any {w : World} (i : Nat) (hi : i ≤ 1000000000000) : Calls Tryz.prog 65 #[.int .i64 (i : Int)] w fun e w' => e = .returned (.string (nmS i)) ∧ Below w.heap.size w w' := by
  have h1 : (97 + (i : Int) / 26 % 26) = ((UInt8.ofNat (97 + i / 26 % 26)).toNat : Int) := by
    rw [UInt8.toNat_ofNat']; omega
  have h2 : (97 + (i : Int) % 26) = ((UInt8.ofNat (97 + i % 26)).toNat : Int) := by
    rw [UInt8.toNat_ofNat']; omega
  have HC := conv_string (reads_two w (UInt8.ofNat (97 + i / 26 % 26)) (UInt8.ofNat (97 + i % 26)) (97 + (i : Int) / 26 % 26) (97 + (i : Int) % 26) h1 h2)
  clear h1 h2
  go_enter Tryz.func65, Tryz.ntmps65
  go_wp2
  go_ret
  exact ⟨rfl, ba _ _⟩

set_option maxHeartbeats 1600000 in
set_option maxRecDepth 1000000 in
/-- Texts that are alike; nothing is laid down. -/
theorem sameTexts_q {w : World} {s t : Value} {l : List ByteArray} (hs : Txts w s l) (ht : Txts w t l) (hlen : l.length ≤ 140737488355328) :
    Calls Tryz.prog 64 #[s, t] w fun e w' => e = .returned (.bool true) ∧ ∃ q, w' = w.drewN q := by
  obtain ⟨ao, c, hf⟩ := hs.form
  obtain ⟨ao', c', hf'⟩ := ht.form
  subst hf hf'
  have HS := hid hs
  have HT := hid ht
  clear hs ht
  go_enter Tryz.func64, Tryz.ntmps64
  go_wp2
  go_loopw [5] (fun iv wr => ∃ (k q : Nat), k ≤ l.length ∧ iv = .int .i64 (k : Int) ∧ wr = w.drewN q) (fun iv _ => l.length - (intOf iv).toNat)
  case atStart => exact ⟨0, 0, by omega, rfl, rfl⟩
  case round =>
    obtain ⟨k, q, hk, rfl, rfl⟩ := hrel
    by_cases hlt : k < l.length
    · obtain ⟨g, o, rfl, _, h1⟩ := HS.out.at hlt
      obtain ⟨g', o', rfl, _, h2⟩ := HT.out.at hlt
      generalize l[k] = x at h1 h2
      have hb : (x.toList == x.toList) = true := by simp
      go_wp2
      go_region
      go_wp2
      go_roundw
      case rel => exact ⟨k + 1, q + 1, by omega, by go_num, by simp⟩
      case measure => simp [intOf]; omega
    · go_wp2
      go_ret
      exact ⟨rfl, q, rfl⟩

theorem Txts.drewN {w : World} {s : Value} {l : List ByteArray} (h : Txts w s l) (q : Nat) : Txts (w.drewN q) s l := h.later (bdN w q)

/-- The texts that two lists of lists must read as. -/
def Alik (w : World) (us ms : List Value) : Prop := ∀ (i : Nat) (u m : Value), us[i]? = some u → ms[i]? = some m → ∃ l, Txts w u l ∧ Txts w m l ∧ l.length ≤ 1000000

set_option maxHeartbeats 1600000 in
set_option maxRecDepth 1000000 in
theorem shHolds {w : World} {S : Nat} {ov wv : Value} {us ms : List Value} (hb : w.heap[S]? = some (.cells #[ov, wv] 32 (0, 0))) (ho : w.ownsRow 0 39 1 ov us.length us) (hw : w.ownsRow 0 39 1 wv ms.length ms) (hl : us.length = ms.length) (hr : Alik w us ms) (hlen : us.length ≤ 140737488355328) :
    Calls Tryz.prog 21 #[.pointer (some ⟨S, 0, none⟩)] w fun e w' => e = .returned (.bool true) ∧ ∃ q, w' = w.drewN q := by
  obtain ⟨ao, c, rfl⟩ := owns_form ho
  obtain ⟨ao', c', rfl⟩ := owns_form hw
  have HR := hid hr
  have HO := hid ho
  have HW := hid hw
  have c0 : w.cell? ⟨S, 0, none⟩ = some (.slice ao us.length c) := by rw [cell_at hb]; rfl
  have c1 : w.cell? ⟨S, 1, none⟩ = some (.slice ao' us.length c') := by rw [cell_at hb, hl]; rfl
  have HL := hid hl
  clear hb ho hw hr hl
  go_enter Tryz.func21, Tryz.ntmps21
  go_wp2
  go_loopw [3] (fun iv wr => ∃ (k q : Nat), k ≤ us.length ∧ iv = .int .i64 (k : Int) ∧ wr = w.drewN q) (fun iv _ => us.length - (intOf iv).toNat)
  case atStart => exact ⟨0, 0, by omega, rfl, rfl⟩
  case round =>
    obtain ⟨k, q, hk, rfl, rfl⟩ := hrel
    by_cases hlt : k < us.length
    · obtain ⟨u, hu⟩ : ∃ u, us[k]? = some u := ⟨_, List.getElem?_eq_getElem hlt⟩
      obtain ⟨m, hm⟩ : ∃ m, ms[k]? = some m := ⟨_, List.getElem?_eq_getElem (by rw [← HL.out]; exact hlt)⟩
      obtain ⟨g, rfl, h1, _⟩ := owns_at HO.out hu
      obtain ⟨g', rfl, h2, _⟩ := owns_at HW.out hm
      obtain ⟨l, ra, rm, rb⟩ := HR.out k u m hu hm
      obtain ⟨xa, ca, rfl⟩ := ra.form
      obtain ⟨xm, cm, rfl⟩ := rm.form
      have RA := hid ra
      have RM := hid rm
      clear ra rm hu hm
      go_wp2
      go_region_with (go_at_call 64; refine (sameTexts_q (RA.out.drewN _) (RM.out.drewN _) (by omega)).mono ?_; rintro e w1 ⟨rfl, q1, rfl⟩)
      all_goals go_wp2
      all_goals go_roundw
      all_goals first | exact ⟨k + 1, _, by omega, by go_num, rfl⟩ | (simp [intOf]; omega)
    · go_wp2
      go_ret
      exact ⟨rfl, q, rfl⟩
end Go.Proofs.YtkcepkehgkkkbaaGreatDoor

namespace Go.Proofs.YtkcepkehgkkkbaaGreatDoor
open Go.RowKit
set_option linter.unusedVariables false

theorem Tryz.und22 : Tryz.prog.underlying 22 = some (.slice 5) := by kernel_rfl

theorem All.addMadeB {cs : List Comp} {w : World} (h : All cs w) : All (ownC 5 (.slice (some ⟨w.heap.size, 0, none⟩) 0 0) (cellsB []) :: cs) (w.alloc (.cells #[] 5)) := by
  refine h.addOwn (ba w _) ?_
  have := World.ownsRow_made (base := w.heap.size) (e := 5) (size := 1) w #[] 0 (Nat.le_refl _) (by unfold maxLen; omega) rfl
  exact this

/-- Bytes are laid behind one's own. -/
theorem appB {W : World} {v v2 : Value} {l l2 : List UInt8} {cs : List Comp} (A : All (ownC 5 v (cellsB l) :: cs) W) (h2 : ReadsW W v2 l2) (hl : l.length + l2.length ≤ 140737488350000) :
    ∃ ao c w', (Builtin.append_ #[22, 22] 22 #[v, v2]).run Tryz.prog W = .ok (.slice ao (l.length + l2.length) c) w' ∧ All (ownC 5 (.slice ao (l.length + l2.length) c) (cellsB (l ++ l2)) :: cs) w' := by
  obtain ⟨i1, hi1, hz0, hz1, hz2⟩ := info_parts Tryz.info5
  have hown : W.ownsRow 0 5 1 v (cellsB l).length (cellsB l) := A.1.2.1
  obtain ⟨ao, c, rfl⟩ := owns_form hown
  have nothing : ∀ ao2 c2, l2 = [] → ∃ ao' c' w', (Builtin.append_ #[22, 22] 22 #[.slice ao (cellsB l).length c, .slice ao2 0 c2]).run Tryz.prog W = .ok (.slice ao' (l.length + l2.length) c') w' ∧ All (ownC 5 (.slice ao' (l.length + l2.length) c') (cellsB (l ++ l2)) :: cs) w' := by
    intro ao2 c2 e
    subst e
    refine ⟨ao, c, W, ?_, ?_⟩
    · have := run_append_nothing W 22 22 22 5 i1 Tryz.und22 hi1 ao (cellsB l).length c (owns_len hown).2 (.slice ao2 0 c2) (srcNil Tryz.und22 ao2 c2)
      simpa [cellsB_length] using this
    · simpa [cellsB_length] using A
  rcases h2 with ⟨ao2, c2, rfl, hc2, hx⟩ | ⟨rfl, a, c2, rfl⟩
  · rcases hx with ⟨rfl, rfl, rfl⟩ | ⟨g, o, rfl, hg, hcell⟩
    · exact nothing none 0 rfl
    · by_cases h0 : l2 = []
      · subst h0
        exact nothing _ c2 rfl
      · obtain ⟨v', w', hr, h2, h3, h4, h5⟩ := run_append_own_at (P := Tryz.prog) W 0 22 22 5 i1 (.int .u8 0) 1 1 Tryz.und22 hi1 hz0 hz1 hz2 rfl (by decide) (.slice ao (cellsB l).length c) (cellsB l).length (cellsB l) hown ⟨g, o, none⟩ l2.length c2 (cellsB l2) (by simp [cellsB_length])
          (fun j u hu => by rw [Addr.add_lit]; exact hcell j u hu) (fun u hu => by
            unfold cellsB at hu
            obtain ⟨y, _, rfl⟩ := List.mem_map.1 hu
            rfl) (by simp only [cellsB_length]; unfold maxLen; omega) (by simp only [cellsB_length]; omega) (by omega)
        obtain ⟨ao', c', rfl⟩ := owns_form h2
        have el : (cellsB l).length + l2.length = l.length + l2.length := by simp [cellsB_length]
        rw [el] at hr h2 h5
        refine ⟨ao', c', w', hr, A.ownGrow (vs' := cellsB (l ++ l2)) (base := 0) ?_ h3 h5⟩
        rw [cellsB_append, List.length_append, cellsB_length, cellsB_length]
        exact h2
  · exact nothing _ c2 rfl

set_option maxRecDepth 1000000 in
theorem copied_any {s : Value} {l : List UInt8} {cs : List Comp} {w : World} (h : All cs w) (hr : ReadsW w s l) (hl : l.length ≤ 140737488350000) : Calls Tryz.prog 47 #[s] w fun e w' => ∃ so sc, e = .returned (.slice so l.length sc) ∧ All (ownC 5 (.slice so l.length sc) (cellsB l) :: cs) w' := by
  obtain ⟨so, sc, w2, hr2, A2⟩ := appB h.addMadeB (hr.below (ba w _)) (by simp; omega)
  rw [List.nil_append, List.length_nil, Nat.zero_add] at A2
  rw [List.length_nil, Nat.zero_add] at hr2
  obtain ⟨ao, c, rfl⟩ := hr.form
  have R2 := hid hr2
  have A2 := hid A2
  clear h hr hr2
  go_enter Tryz.func47, Tryz.ntmps47
  go_wp2_with (at_builtin; refine wpList_append_run rfl _ _ 22 rfl _ _ _ _ rfl rfl R2.out ?_)
  go_ret
  exact ⟨so, sc, rfl, A2.out⟩

/-- A list with bytes behind it. -/
def lentB (l : List UInt8) (k : Nat) : List UInt8 := l ++ List.replicate k 165
theorem lentB_len (l : List UInt8) (k : Nat) : (lentB l k).length = l.length + k := by simp [lentB]

set_option maxRecDepth 1000000 in
theorem lent_any {s : Value} {l : List UInt8} {cs : List Comp} {w : World} (h : All cs w) (hr : ReadsW w s l) (hl : l.length ≤ 140737488349000) : Calls Tryz.prog 7 #[s] w fun e w' => ∃ so sc, e = .returned (.slice so (l.length + 8) sc) ∧ All (ownC 5 (.slice so (l.length + 8) sc) (cellsB (lentB l 8)) :: cs) w' := by
  obtain ⟨i1, hi1, hz0, hz1, hz2⟩ := info_parts Tryz.info5
  have C0 := hid (copied_any h hr (by omega))
  clear h hr
  obtain ⟨n, hn⟩ : ∃ n, Hid (n = l.length) := ⟨_, hid rfl⟩
  rw [← hn.out] at C0 hl ⊢
  go_enter Tryz.func7, Tryz.ntmps7
  go_wp2_with fail
  refine C0.out.mono ?_
  rintro e w1 ⟨so, sc, rfl, A1⟩
  have A1 := hid A1
  clear C0
  go_wp2
  go_loopw [3, 4] (fun lv kv wr => ∃ (k : Nat) (la : Option Addr) (lc : Nat), k ≤ 8 ∧ kv = .int .i64 (k : Int) ∧ lv = .slice la (n + k) lc ∧ Hid (All (ownC 5 (.slice la (n + k) lc) (cellsB (lentB l k)) :: cs) wr)) (fun _ kv _ => 8 - (intOf kv).toNat)
  case atStart => exact ⟨0, so, sc, by omega, rfl, rfl, hid (by simpa [lentB] using A1.out)⟩
  case round =>
    clear A1
    obtain ⟨k, la, lc, hk, rfl, rfl, hrel⟩ := hrel
    by_cases hlt : k < 8
    · have hlen : Hid ((cellsB (lentB l k)).length = n + k) := hid (by rw [cellsB_length, lentB_len, hn.out])
      obtain ⟨ao, c, w2, hr2, A2⟩ := app1 Tryz.und22 hi1 hz0 hz1 hz2 rfl (hrel.out.alloc (.cells #[.int .u8 165] 5)) (H := wr.heap.size) (x := .int .u8 165) (by rw [cell_at (heap_alloc_new wr _)]; rfl) rfl (by rw [hlen.out]; unfold maxLen; omega) (by rw [hlen.out]; omega)
      rw [hlen.out] at hr2 A2
      have es : cellsB (lentB l k) ++ [.int .u8 165] = cellsB (lentB l (k + 1)) := by
        simp [lentB, cellsB, List.replicate_succ']
      rw [es] at A2
      have R2 := hid hr2
      have A2 := hid A2
      clear hr2 hrel es
      go_wp2_with (at_builtin; refine wpList_append_run rfl _ (.tmp 12) 22 rfl _ _ _ _ rfl rfl R2.out ?_)
      clear R2
      go_roundw
      case rel => exact ⟨k + 1, ao, c, by omega, by go_num, rfl, A2⟩
      case measure => simp [intOf]; omega
    · have hk8 : k = 8 := by omega
      subst hk8
      go_wp2
      go_ret
      exact ⟨la, lc, rfl, hrel.out⟩

theorem lent_low (l : List UInt8) (k : Nat) (h : k < l.length) : (lentB l 8).getD k 0 = l.getD k 0 := by
  unfold lentB
  rw [List.getD_eq_getElem?_getD, List.getD_eq_getElem?_getD, List.getElem?_append_left h]
theorem lent_high (l : List UInt8) (k : Nat) (h : l.length ≤ k) (h2 : k < l.length + 8) : (lentB l 8).getD k 0 = 165 := by
  unfold lentB
  rw [List.getD_eq_getElem?_getD, List.getElem?_append_right h, List.getElem?_replicate, if_pos (by omega)]
  rfl

set_option maxHeartbeats 3200000 in
set_option maxRecDepth 1000000 in
theorem still_any {w : World} {s t : Value} {l : List UInt8} (hs : Reads w s (lentB l 8)) (ht : ReadsW w t l) (hlen : l.length ≤ 140737488350000) :
    Calls Tryz.prog 24 #[s, t] w fun e w' => e = .returned (.bool true) ∧ ∃ q, w' = w.drewN q := by
  obtain ⟨ao, c, hf⟩ := hs.form
  obtain ⟨ao', c', hf'⟩ := ht.form
  subst hf hf'
  have HS := hid hs
  have HT := hid ht
  rw [lentB_len] at HS ⊢
  clear hs ht
  go_enter Tryz.func24, Tryz.ntmps24
  go_wp2
  go_loopw [5] (fun iv wr => ∃ (k q : Nat), k ≤ l.length + 8 ∧ iv = .int .i64 (k : Int) ∧ wr = w.drewN q) (fun iv _ => l.length + 8 - (intOf iv).toNat)
  case atStart => exact ⟨0, 0, by omega, rfl, rfl⟩
  case round =>
    obtain ⟨k, q, hk, rfl, rfl⟩ := hrel
    by_cases hlt : k < l.length + 8
    · obtain ⟨g, o, rfl, h1⟩ := HS.out.at_u8 k (by rw [lentB_len]; exact hlt)
      by_cases hlow : k < l.length
      · obtain ⟨g', o', rfl, h2⟩ := HT.out.at_u8 k hlow
        rw [lent_low l k hlow] at h1
        obtain ⟨x, hx⟩ : ∃ x : Nat, x = (l.getD k 0).toNat := ⟨_, rfl⟩
        rw [← hx] at h1 h2
        clear hx
        have hb : ((x : Int) != (x : Int)) = false := by simp
        have hb2 : (k : Int) < (l.length : Int) := by omega
        have hb3 : decide (l.length ≤ k) = false := by simp; omega
        go_wp2_with fail
        go_quiet (fail)
        go_wp2
        go_roundw
        case rel => exact ⟨k + 1, _, by omega, by go_num, rfl⟩
        case measure => simp [intOf]; omega
      · rw [lent_high l k (by omega) hlt] at h1
        have hb2 : decide ((k : Int) < (l.length : Int)) = false := by simp; omega
        have hb4 : decide (k < l.length) = false := by simp; omega
        have hb3 : (l.length : Int) ≤ (k : Int) := by omega
        have h1' : w.cell? ⟨g, o + k, none⟩ = some (.int .u8 165) := h1
        clear h1
        go_wp2_with fail
        go_quiet (fail)
        go_wp2
        go_roundw
        case rel => exact ⟨k + 1, _, by omega, by go_num, rfl⟩
        case measure => simp [intOf]; omega
    · go_wp2
      go_ret
      exact ⟨rfl, q, rfl⟩
end Go.Proofs.YtkcepkehgkkkbaaGreatDoor
