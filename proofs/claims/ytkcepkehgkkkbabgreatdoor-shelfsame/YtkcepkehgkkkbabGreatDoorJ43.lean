import Derived.Test.YtkcepkehgkkkbabGreatDoorJ20
import Derived.Test.YtkcepkehgkkkbabGreatDoorJ41
import Derived.Test.YtkcepkehgkkkbabGreatDoorOnlyP
namespace Go.Proofs.YtkcepkehgkkkbabGreatDoor
open Go.RowKit
set_option linter.unusedVariables false

theorem mem_keys {D : DataW Unit} {w : World} {b n : Nat} (hown : w.ownsMap Tryz.prog 9 rE b n D) {x : List UInt8} : x ∈ strKeys D ↔ Maps.has D (.string x) = true := by
  obtain ⟨es, rfl, hko⟩ := hown.keysOf
  have hk : ∀ p ∈ es, ∃ x, p.1 = .string x := fun p hp => by obtain ⟨v, hv⟩ := hko p hp; obtain ⟨x, _, hx, _⟩ := Maps.keyOf_str Tryz.underlying9 hv; exact ⟨x, hx⟩
  rw [Maps.has_eq, List.any_eq_true]
  show x ∈ es.map (fun p => strOf p.1) ↔ _
  rw [List.mem_map]
  constructor
  · rintro ⟨p, hp, rfl⟩
    obtain ⟨a, ha⟩ := hk p hp
    exact ⟨p, hp, by rw [ha]; simp [Lit.sameKey, strOf]⟩
  · rintro ⟨p, hp, hs⟩
    obtain ⟨a, ha⟩ := hk p hp
    rw [ha] at hs
    exact ⟨p, hp, by rw [ha]; simpa [Lit.sameKey, strOf] using hs⟩
theorem mem_grS {D : DataW Unit} {w : World} {b n : Nat} (hown : w.ownsMap Tryz.prog 9 rE b n D) {g : Grp} : g ∈ grS D ↔ Maps.has D (.string g.1) = true ∧ g.2 = leftD D (.string g.1) := by
  rw [grS, List.mem_map, ← mem_keys hown]
  constructor
  · rintro ⟨x, hx, rfl⟩
    exact ⟨by simpa using hx, rfl⟩
  · rintro ⟨h1, h2⟩
    exact ⟨g.1, by simpa using h1, by rw [← h2]⟩
theorem OkQ.okG {N : Nat} {q : Qs} (h : OkQ N q) {w : World} {b n : Nat} (hown : w.ownsMap Tryz.prog 9 rE b n q.D) : OkG (grS q.D) := by
  intro g hg
  obtain ⟨h1, h2⟩ := (mem_grS hown).1 hg
  obtain ⟨a, b, c, hc, d, e⟩ := h.gk _ h1
  exact ⟨a, b, c, by rw [h2, hc], by have := h.fin; omega⟩
theorem bulk_small {l : List ByteArray} (d : ∀ t ∈ l, t.size ≤ 64) : bulkT l ≤ l.length * 74 := by
  induction l with
  | nil => simp [bulkT]
  | cons t l ih =>
    have h1 := ih (fun x hx => d x (by simp [hx]))
    have h2 := d t (by simp)
    have e : bulkT (t :: l) = t.size + 10 + bulkT l := by simp [bulkT]
    rw [e, List.length_cons]
    omega
/-- A slot's bytes. -/
def slB : Option Qs → List UInt8
  | none => []
  | some q => slotB q.nm q.first q.items (grS q.D)

/-- Slot, at any state. -/
theorem Slot_st {N P i : Nat} {S : St} (hS : OkS N S) {s : Option Qs} (hs : S[i]? = some s) {cs : List Comp} {w : World} (h : All (shL P S ++ cs) w) :
    Calls Tryz.prog 20 #[.pointer (some ⟨P, 0, none⟩), .int .i64 (i : Int)] w fun e w' => ∃ so sc, e = .returned (.slice so (slB s).length sc) ∧ All (ownC 5 (.slice so (slB s).length sc) (cellsB (slB s)) :: (shL P S ++ cs)) w' := by
  have h8 : (stV S).length = 8 := by rw [stV_len]; exact hS.len
  cases s with
  | none =>
    refine (slot_free (cs := S.flatMap slC ++ cs) (by simpa [shL] using h) h8 (stV_at hs) (by rw [empty_iff]; rfl)).mono ?_
    rintro e w' ⟨rfl, A⟩
    refine ⟨none, 0, rfl, ?_⟩
    have A2 : All (shL P S ++ cs) w' := by simpa [shL] using A
    exact A2.addNil (e := 5)
  | some q =>
    have ho := hS.each i q hs
    have A := h.shOut hs
    have hm : w.ownsMap Tryz.prog 9 rE q.b q.n q.D := A.2.2.2.2.1.2.1
    have hg := ho.okG hm
    have hb := bulk_small ho.small
    have h1 := ho.len
    have h2 := ho.fin
    have h3 := ho.nm0
    have h4 := ho.nm16
    have h5 := ho.gs
    refine (slot_gs A h8 (stV_at hs) (by omega) (by omega) (by omega) (by omega) (by omega) (by omega) rfl (fun g hgm => ?_)).mono ?_
    · obtain ⟨_, a, c, hc, d⟩ := hg g hgm
      exact ⟨by omega, c, hc, by omega⟩
    · rintro e w' ⟨so, sn, sc, rfl, A2⟩
      have hlen : sn = (slB (some q)).length := by
        have := (owns_len (A2.1.2.1 : w'.ownsRow 0 5 1 (.slice so sn sc) (cellsB (slotB q.nm q.first q.items (grS q.D))).length (cellsB (slotB q.nm q.first q.items (grS q.D))))).1
        rw [this]; simp [cellsB, slB]
      subst hlen
      refine ⟨so, sc, rfl, ?_⟩
      have A3 : All (blkC P (flat (stV S)) 74 :: ownC 9 q.iv (txtV q.items) :: mapC q.b q.n q.D :: (restC S i ++ (ownC 5 (.slice so (slB (some q)).length sc) (cellsB (slB (some q))) :: cs))) w' := by
        refine A2.perm ?_
        have := List.perm_middle (a := ownC 5 (.slice so (slB (some q)).length sc) (cellsB (slB (some q)))) (l₁ := blkC P (flat (stV S)) 74 :: ownC 9 q.iv (txtV q.items) :: mapC q.b q.n q.D :: restC S i) (l₂ := cs)
        simpa [slB] using this.symm
      refine (A3.shSame hs).perm ?_
      exact List.perm_middle
end Go.Proofs.YtkcepkehgkkkbabGreatDoor

namespace Go.Proofs.YtkcepkehgkkkbabGreatDoor
open Go.RowKit
set_option linter.unusedVariables false

theorem Tryz.info25 : (Tryz.prog.info? 25).map (fun i => (i.zero, i.size, i.bytes)) = some (some (.slice none 0 0), 1, 24) := by kernel_rfl
theorem Tryz.und22 : Tryz.prog.underlying 22 = some (.slice 25) := by kernel_rfl

/-- Lists of bytes, each of its own. -/
abbrev BL := List (Value × List UInt8)
def blC (ls : BL) : List Comp := ls.map fun p => ownC 5 p.1 (cellsB p.2)
/-- A list of such lists. -/
def slsL (v : Value) (ls : BL) : List Comp := ownC 25 v (ls.map Prod.fst) :: blC ls

theorem All.addMadeL {cs : List Comp} {w : World} (h : All cs w) : All (ownC 25 (.slice (some ⟨w.heap.size, 0, none⟩) 0 0) [] :: cs) (w.alloc (.cells #[] 25)) := by
  refine h.addOwn (ba w _) ?_
  have := World.ownsRow_made (base := w.heap.size) (e := 25) (size := 1) w #[] 0 (Nat.le_refl _) (by unfold maxLen; omega) rfl
  exact this
theorem permA {o : Comp} {bl sh cs : List Comp} : (o :: (bl ++ (sh ++ cs))).Perm (sh ++ (o :: (bl ++ cs))) := by
  have := List.perm_append_comm_assoc (o :: bl) sh cs
  simpa using this
theorem permB {x o : Comp} {bl sh cs : List Comp} : (x :: (sh ++ (o :: (bl ++ cs)))).Perm (o :: ((bl ++ [x]) ++ (sh ++ cs))) := by
  refine (List.Perm.cons x permA.symm).trans ?_
  refine (List.Perm.swap _ _ _).trans (List.Perm.cons o ?_)
  have := (List.perm_middle (a := x) (l₁ := bl) (l₂ := sh ++ cs)).symm
  simpa using this

set_option maxHeartbeats 1600000 in
set_option maxRecDepth 1000000 in
theorem slots_any {N P : Nat} {S : St} (hS : OkS N S) {cs : List Comp} {w : World} (h : All (shL P S ++ cs) w) :
    Calls Tryz.prog 11 #[.pointer (some ⟨P, 0, none⟩)] w fun e w' => ∃ so sc ls, e = .returned (.slice so 8 sc) ∧ ls.map Prod.snd = S.map slB ∧ All (slsL (.slice so 8 sc) ls ++ (shL P S ++ cs)) w' := by
  have A0 := hid h.addMadeL
  have HS := hid hS
  obtain ⟨i0, hi, hz0, hz1, hz2⟩ := info_parts Tryz.info25
  clear h hS
  go_enter Tryz.func11, Tryz.ntmps11
  go_wp2
  go_loopw [3, 4] (fun vv iv wr => ∃ (k : Nat) (so : Option Addr) (sc : Nat) (ls : BL), vv = .slice so k sc ∧ iv = .int .i64 (k : Int) ∧ k ≤ 8 ∧ Hid (ls.length = k) ∧ Hid (ls.map Prod.snd = (S.take k).map slB) ∧ Hid (All (ownC 25 (.slice so k sc) (ls.map Prod.fst) :: (blC ls ++ (shL P S ++ cs))) wr)) (fun vv iv _ => 8 - (intOf iv).toNat)
  case atStart => exact ⟨0, _, 0, [], rfl, rfl, by omega, hid rfl, hid (by simp), A0⟩
  case round =>
    obtain ⟨k, so, sc, ls, rfl, rfl, hk, HL, HM, AR⟩ := hrel
    clear A0
    by_cases hlt : k < 8
    · obtain ⟨s, hs⟩ : ∃ s, S[k]? = some s := ⟨_, List.getElem?_eq_getElem (by have := HS.out.len; omega)⟩
      have HT : Hid ((S.take (k + 1)).map slB = (S.take k).map slB ++ [slB s]) := by
        obtain ⟨h1, rfl⟩ := List.getElem?_eq_some_iff.1 hs
        show _ = _
        rw [List.take_succ_eq_append_getElem h1, List.map_append]
        rfl
      have HQ := hid hs
      clear hs
      go_wp2_with fail
      refine (Slot_st HS.out HQ.out (AR.out.perm permA)).mono ?_
      rintro e w1 ⟨ua, uc, rfl, A1⟩
      have A1 := hid (A1.perm permB)
      clear AR
      generalize hU : (slB s).length = un at A1 ⊢
      have hU := hid hU
      have hrow : w1.ownsRow 0 25 1 (.slice so k sc) k (ls.map Prod.fst) := by
        have h1 : w1.ownsRow 0 25 1 (.slice so k sc) (ls.map Prod.fst).length (ls.map Prod.fst) := A1.out.1.2.1
        rw [List.length_map, HL.out] at h1
        exact h1
      go_wp2_with (at_builtin; refine wpList_append_own_at _ rfl (.tmp 14) (.tmp 16) 22 rfl 0 25 i0 (.slice none 0 0) 1 24 Tryz.und22 hi hz0 hz1 hz2 rfl (by decide) _ _ _ rfl (hrow.alloc _) ⟨w1.heap.size, 0, none⟩ 1 1 [.slice ua un uc] rfl rfl (cell_one_new _ _ _) (fun u hu => by simp at hu; subst hu; rfl) (by unfold maxLen; omega) (by omega) (by omega) ?_)
      intro v' w3 hown hgr _ hat
      have A4 := (A1.out.alloc (.cells #[.slice ua un uc] 25)).ownGrow (vs' := (ls ++ [(Value.slice ua un uc, slB s)]).map Prod.fst) (base := 0) (v' := v') (by
        rw [List.length_map, List.length_append, HL.out]
        simpa using hown) hgr (by simpa using hat)
      obtain ⟨so', sc', rfl⟩ := owns_form hown
      have A4 := hid A4
      clear hown hgr hat A1 hrow
      go_wp2
      go_roundw
      case rel =>
        refine ⟨k + 1, so', sc', ls ++ [(Value.slice ua un uc, slB s)], rfl, by go_num, by omega, hid (by rw [List.length_append, HL.out]; rfl), hid ?_, ?_⟩
        · rw [List.map_append, HM.out, HT.out]
          rfl
        · have e : blC (ls ++ [(Value.slice ua un uc, slB s)]) = blC ls ++ [ownC 5 (.slice ua un uc) (cellsB (slB s))] := by simp [blC]
          rw [e]
          exact A4
      case measure => simp [intOf]; omega
    · obtain rfl : k = 8 := by omega
      rw [List.take_of_length_le (by have := HS.out.len; omega)] at HM
      go_wp2
      go_ret
      exact ⟨so, sc, ls, rfl, HM.out, AR.out⟩
end Go.Proofs.YtkcepkehgkkkbabGreatDoor

namespace Go.Proofs.YtkcepkehgkkkbabGreatDoor
open Go.RowKit
set_option linter.unusedVariables false

theorem getD_toNat_inj {l l' : List UInt8} {k : Nat} (h : ((l.getD k 0).toNat : Int) = ((l'.getD k 0).toNat : Int)) : l.getD k 0 = l'.getD k 0 := by
  have : (l.getD k 0).toNat = (l'.getD k 0).toNat := by omega
  exact UInt8.toNat_inj.1 this
theorem ext_getD {l l' : List UInt8} (hl : l.length = l'.length) (h : ∀ j, j < l.length → l.getD j 0 = l'.getD j 0) : l = l' := by
  refine List.ext_getElem hl fun j h1 h2 => ?_
  have := h j h1
  rw [List.getD_eq_getElem?_getD, List.getD_eq_getElem?_getD, List.getElem?_eq_getElem h1, List.getElem?_eq_getElem h2] at this
  simpa using this

set_option maxHeartbeats 1600000 in
set_option maxRecDepth 1000000 in
/-- Two lists compared. -/
theorem same_dec {w : World} {s t : Value} {l l' : List UInt8} (hs : Reads w s l) (ht : Reads w t l') (hlen : l.length ≤ 140737488355328) :
    Calls Tryz.prog 19 #[s, t] w fun e w' => e = .returned (.bool (decide (l = l'))) ∧ ∃ q, w' = w.drewN q := by
  by_cases hll : l.length = l'.length
  · obtain ⟨ao, c, hf⟩ := hs.form
    obtain ⟨ao', c', hf'⟩ := ht.form
    rw [← hll] at hf'
    subst hf hf'
    have HS := hid hs
    have HT := hid ht
    have HLL := hid hll
    clear hs ht hll
    go_enter Tryz.func19, Tryz.ntmps19
    go_wp2
    go_loopw [5] (fun iv wr => ∃ (k q : Nat), k ≤ l.length ∧ iv = .int .i64 (k : Int) ∧ Hid (∀ j, j < k → l.getD j 0 = l'.getD j 0) ∧ wr = w.drewN q) (fun iv _ => l.length - (intOf iv).toNat)
    case atStart => exact ⟨0, 0, by omega, rfl, hid (fun j hj => absurd hj (Nat.not_lt_zero _)), rfl⟩
    case round =>
      obtain ⟨k, q, hk, rfl, HE, rfl⟩ := hrel
      by_cases hlt : k < l.length
      · obtain ⟨g, o, rfl, h1⟩ := HS.out.at_u8 k hlt
        obtain ⟨g', o', e', h2⟩ := HT.out.at_u8 k (by have := HLL.out; omega)
        subst e'
        by_cases hx : l.getD k 0 = l'.getD k 0
        · have HX := hid hx
          rw [← hx] at h2
          clear hx
          generalize (l.getD k 0).toNat = x at h1 h2
          have hb : ((x : Int) != (x : Int)) = false := by simp
          go_wp2
          go_region
          go_wp2
          go_roundw
          case rel =>
            refine ⟨k + 1, q + 1, by omega, by go_num, hid (fun j hj => ?_), by simp⟩
            by_cases e : j = k
            · subst e; exact HX.out
            · exact HE.out j (by omega)
          case measure => simp [intOf]; omega
        · have HX := hid hx
          have hb : (((l.getD k 0).toNat : Int) != ((l'.getD k 0).toNat : Int)) = true := by
            simp only [bne_iff_ne, ne_eq]
            exact fun h => hx (getD_toNat_inj h)
          clear hx
          generalize (l.getD k 0).toNat = x at h1 hb
          generalize (l'.getD k 0).toNat = y at h2 hb
          go_wp2
          go_region
          go_wp2
          go_ret
          refine ⟨?_, q + 1, by simp⟩
          have : ¬ l = l' := fun e => HX.out (by rw [e])
          rw [decide_eq_false this]
          rfl
      · have hke : k = l.length := by omega
        have hEq : l = l' := ext_getD HLL.out (fun j hj => HE.out j (by omega))
        have HD := hid (show decide (l = l') = true from decide_eq_true hEq)
        clear hEq hke
        go_wp2
        go_ret
        exact ⟨by rw [HD.out]; rfl, _, rfl⟩
  · obtain ⟨ao, c, hf⟩ := hs.form
    obtain ⟨ao', c', hf'⟩ := ht.form
    subst hf hf'
    have hD : decide (l = l') = false := decide_eq_false (fun e => hll (by rw [e]))
    rw [hD]
    have hb : ((l.length : Int) != (l'.length : Int)) = true := by
      simp only [bne_iff_ne, ne_eq]
      omega
    clear hs ht hD
    generalize l.length = a at *
    generalize l'.length = b at *
    go_enter Tryz.func19, Tryz.ntmps19
    go_wp2
    go_ret
    exact ⟨rfl, 0, rfl⟩
end Go.Proofs.YtkcepkehgkkkbabGreatDoor
