import Derived.Shelf.Sort.Plain
import Derived.Test.YtafickhhdemjnaaGreatDoorProg
import Derived.Test.YtafickhhdemjnaaGreatDoorJ7
import Derived.Sort.OwnSorted
import Derived.Test.YtafickhhdemjnaaGreatDoorJ6
import Derived.Deep.Draws
/- The sort of texts at this program: which number is which. -/
namespace Go.Proofs
open Go.Shelf
def Tryz.lays190_ren : Go.Shelf.Ren := ⟨fun | 190 => 209 | 125 => 221 | 258 => 220 | 128 => 235 | 129 => 236 | 302 => 226 | 303 => 227 | 304 => 228 | 305 => 229 | 306 => 230 | 307 => 231 | 308 => 232 | 309 => 233 | 310 => 234 | 333 => 245 | 329 => 246 | 330 => 247 | 334 => 248 | 335 => 249 | 336 => 223 | 344 => 253 | n => n, fun | 31 => 54 | 9 => 9 | 3 => 3 | 46 => 271 | 0 => 0 | 51 => 296 | 53 => 251 | 4 => 4 | 183 => 289 | 182 => 288 | 131 => 245 | 5 => 5 | 218 => 303 | 222 => 307 | 228 => 311 | 229 => 312 | n => n, fun | n => n⟩
theorem Tryz.lays190 : Go.Proofs.Lays.n190 Tryz.prog Tryz.lays190_ren := {
  mixed := by kernel_rfl
  f125 := Tryz.func221.trans (congrArg some (by kernel_rfl))
  f128 := Tryz.func235.trans (congrArg some (by kernel_rfl))
  f129 := Tryz.func236.trans (congrArg some (by kernel_rfl))
  f190 := Tryz.func209.trans (congrArg some (by kernel_rfl))
  f258 := Tryz.func220.trans (congrArg some (by kernel_rfl))
  f302 := Tryz.func226.trans (congrArg some (by kernel_rfl))
  f303 := Tryz.func227.trans (congrArg some (by kernel_rfl))
  f304 := Tryz.func228.trans (congrArg some (by kernel_rfl))
  f305 := Tryz.func229.trans (congrArg some (by kernel_rfl))
  f306 := Tryz.func230.trans (congrArg some (by kernel_rfl))
  f307 := Tryz.func231.trans (congrArg some (by kernel_rfl))
  f308 := Tryz.func232.trans (congrArg some (by kernel_rfl))
  f309 := Tryz.func233.trans (congrArg some (by kernel_rfl))
  f310 := Tryz.func234.trans (congrArg some (by kernel_rfl))
  f329 := Tryz.func246.trans (congrArg some (by kernel_rfl))
  f330 := Tryz.func247.trans (congrArg some (by kernel_rfl))
  f333 := Tryz.func245.trans (congrArg some (by kernel_rfl))
  f334 := Tryz.func248.trans (congrArg some (by kernel_rfl))
  f335 := Tryz.func249.trans (congrArg some (by kernel_rfl))
  f336 := Tryz.func223.trans (congrArg some (by kernel_rfl))
  f344 := Tryz.func253.trans (congrArg some (by kernel_rfl))
  t0 := Tryz.underlying0
  a0 := Tryz.isAgg0
  z0 := Tryz.sizeOf0
  v0 := Tryz.zeroValue0
  t3 := Tryz.underlying3
  a3 := Tryz.isAgg3
  z3 := Tryz.sizeOf3
  v3 := Tryz.zeroValue3
  t4 := Tryz.underlying4
  a4 := Tryz.isAgg4
  z4 := Tryz.sizeOf4
  v4 := Tryz.zeroValue4
  t5 := Tryz.underlying5
  a5 := Tryz.isAgg5
  z5 := Tryz.sizeOf5
  v5 := Tryz.zeroValue5
  t9 := Tryz.underlying9
  a9 := Tryz.isAgg9
  z9 := Tryz.sizeOf9
  v9 := Tryz.zeroValue9
  t31 := Tryz.underlying54
  a31 := Tryz.isAgg54
  z31 := Tryz.sizeOf54
  v31 := Tryz.zeroValue54
  t46 := Tryz.underlying271
  a46 := Tryz.isAgg271
  z46 := Tryz.sizeOf271
  v46 := Tryz.zeroValue271
  t51 := Tryz.underlying296
  a51 := Tryz.isAgg296
  z51 := Tryz.sizeOf296
  v51 := Tryz.zeroValue296
  t53 := Tryz.underlying251
  a53 := Tryz.isAgg251
  z53 := Tryz.sizeOf251
  v53 := Tryz.zeroValue251
  t131 := Tryz.underlying245
  a131 := Tryz.isAgg245
  z131 := Tryz.sizeOf245
  v131 := Tryz.zeroValue245
  t182 := Tryz.underlying288
  a182 := Tryz.isAgg288
  z182 := Tryz.sizeOf288
  v182 := Tryz.zeroValue288
  t183 := Tryz.underlying289
  a183 := Tryz.isAgg289
  z183 := Tryz.sizeOf289
  v183 := Tryz.zeroValue289
  t218 := Tryz.underlying303
  a218 := Tryz.isAgg303
  z218 := Tryz.sizeOf303
  v218 := Tryz.zeroValue303
  t222 := Tryz.underlying307
  a222 := Tryz.isAgg307
  z222 := Tryz.sizeOf307
  v222 := Tryz.zeroValue307
  t228 := Tryz.underlying311
  a228 := Tryz.isAgg311
  z228 := Tryz.sizeOf311
  v228 := Tryz.zeroValue311
  t229 := Tryz.underlying312
  a229 := Tryz.isAgg312
  z229 := Tryz.sizeOf312
  v229 := Tryz.zeroValue312 }
end Go.Proofs

namespace Go.Proofs.YtafickhhdemjnaaGreatDoor
open Go.RowKit Go.Sort
set_option linter.unusedVariables false

set_option maxRecDepth 1000000 in
theorem ins_nil {w : World} : Calls Tryz.prog 226 #[.slice none 0 0, .int .i64 0, .int .i64 0] w fun e w' => e = .returned (.tuple #[]) ∧ w' = w := by
  go_enter Tryz.func226, Tryz.ntmps226
  go_wp2
  refine wp_loop_rounds 1 ?_
  rw [rounds_succ]
  go_wp2
  go_end0
  exact ⟨rfl, rfl⟩

set_option maxRecDepth 1000000 in
theorem pdq_nil {w : World} (lim : Int) : Calls Tryz.prog 220 #[.slice none 0 0, .int .i64 0, .int .i64 0, .int .i64 lim] w fun e w' => e = .returned (.tuple #[]) ∧ w' = w := by
  go_enter Tryz.func220, Tryz.ntmps220
  go_wp2_with fail
  refine wp_loop_rounds 1 ?_
  rw [rounds_succ]
  go_wp2_with fail
  refine ins_nil.mono ?_
  rintro e w1 ⟨rfl, rfl⟩
  go_wp2
  (try simp only [Exit.inBlock, Exit.then])
  refine bodyPost_ret (results_none rfl _ _ _) rfl ?_
  exact ⟨rfl, rfl⟩

set_option maxRecDepth 1000000 in
theorem len0 {w : World} : Calls Tryz.prog 221 #[.int .u64 0] w fun e w' => ∃ n, e = .returned (.int .i64 n) ∧ w' = w := by
  go_enter Tryz.func221, Tryz.ntmps221
  go_wp2
  go_ret
  exact ⟨_, rfl, rfl⟩

set_option maxRecDepth 1000000 in
theorem sort_nil {w : World} : Calls Tryz.prog 209 #[.slice none 0 0] w fun e w' => e = .returned (.tuple #[]) ∧ Below w.heap.size w w' := by
  go_enter Tryz.func209, Tryz.ntmps209
  go_wp2_with fail
  refine len0.mono ?_
  rintro e w1 ⟨n, rfl, rfl⟩
  go_wp2_with fail
  refine (pdq_nil n).mono ?_
  rintro e w1 ⟨rfl, rfl⟩
  go_wp2
  go_end0
  exact ⟨rfl, Below.refl _ _⟩

/-- A row of texts of one's own, put in order. -/
theorem sort_own {w : World} {v : Value} {ss : List (List UInt8)} {cs : List Comp} (h : All (ownC 9 v (ss.map Go.Proofs.encStr) :: cs) w) (hl : ss.length ≤ 1048576) : Calls Tryz.prog 209 #[v] w fun e w' => e = .returned (.tuple #[]) ∧ All (ownC 9 v ((ss.mergeSort fun x y => decide (x ≤ y)).map Go.Proofs.encStr) :: cs) w' := by
  have ho : w.ownsRow 0 9 1 v (ss.map Go.Proofs.encStr).length (ss.map Go.Proofs.encStr) := h.1.2.1
  rcases ho.2 with ⟨rfl, e⟩ | ⟨g, cap, cur, rfl, hg0, hg, hn, hm, hcs, ht⟩
  · have hnil : ss = [] := by
      have : ss.length = 0 := by simpa using e
      exact List.eq_nil_of_length_eq_zero this
    subst hnil
    exact sort_nil.mono fun e w' ⟨he, hb⟩ => ⟨he, by simpa using h.later hb⟩
  · rw [List.length_map] at hn ht ⊢
    have hglt := (Array.getElem?_eq_some_iff.1 hg).1
    refine (Any.slices_Sort_string Tryz.lays190 g 0 cap ss w (holds_of_block hg (by rw [Nat.mul_one] at ht; exact ht)) hglt (by omega)).mono ?_
    rintro e w' ⟨he, n, os, rfl⟩
    refine ⟨he, ?_⟩
    have hs : (ss.mergeSort fun x y => decide (x ≤ y)).length = ss.length := by simp
    have how := ownsRow_sorted (n := n) (os := os) hs (Nat.zero_le g) hg hn hm (by omega)
    have hgr : w.grownBy _ (some g) := grownBy_sorted (n := n) (os := os) (w := w) (g := g) (ss.mergeSort fun x y => decide (x ≤ y)).toArray
    refine h.ownGrow (base := 0) (by rw [List.length_map, hs]; exact how) (by simpa [Value.ownBlock] using hgr) (Or.inl rfl)
end Go.Proofs.YtafickhhdemjnaaGreatDoor

namespace Go.Proofs.YtafickhhdemjnaaGreatDoor
open Go.RowKit
set_option linter.unusedVariables false

/-- A writer, as a part. -/
def wrC (b : Nat) (v : Value) (st : Option (List UInt8)) : Comp := ⟨fun w => Wst w b v st, b :: v.ownBlock.toList⟩
theorem wrC_good (b : Nat) (v : Value) (st : Option (List UInt8)) : (wrC b v st).Good := fun w w' h _ hk =>
  Wst.kept h (hk b (by simp [wrC])) (fun k hk' => hk k (by simp [wrC, hk']))
theorem All.wstep {b : Nat} {v v' : Value} {st st' : Option (List UInt8)} {cs : List Comp} {w w' : World} (h : All (wrC b v st :: cs) w) (h1 : Wst w' b v' st') (h2 : WStep b w v w' v') : All (wrC b v' st' :: cs) w' := by
  refine h.turn ⟨h2.os, h2.tape, h2.output, h2.size, fun k hk hn => ?_⟩ (wrC_good _ _ _) h1 (fun k hk => ?_) (fun k hk => ?_)
  · simp [wrC] at hn
    exact h2.block k hk hn.1 (fun e => hn.2 e.symm)
  · simp [wrC] at hk
    rcases hk with rfl | hk
    · exact Or.inl (by simp [wrC])
    · rcases h2.own k hk with e | e
      · exact Or.inl (by simp [wrC, e])
      · exact Or.inr e
  · simp [wrC] at hk
    rcases hk with rfl | hk
    · exact h1.lt
    · exact (h1.own_lt k hk).2

theorem newW {cs : List Comp} {w : World} (h : All cs w) : Calls Tryz.prog 166 #[] w fun e w' => ∃ b, e = .returned (.pointer (some ⟨b, 0, none⟩)) ∧ All (wrC b (.slice none 0 0) (some []) :: cs) w' :=
  (NewWriter_any w).mono fun e w' ⟨h1, h2, h3⟩ => ⟨_, h1, h.add (Fr.below h3) (wrC_good _ _ _) h2 (fun k hk => by
    have hk' : k = w.heap.size := by simpa [wrC, Value.ownBlock] using hk
    subst hk'
    exact ⟨Nat.le_refl _, h2.lt⟩)⟩
theorem textW {b : Nat} {v : Value} {st : Option (List UInt8)} {cs : List Comp} {w : World} (h : All (wrC b v st :: cs) w) (s : ByteArray) (hlen : lenS st + s.size + 10 ≤ 140737488355328) : Calls Tryz.prog 189 #[.pointer (some ⟨b, 0, none⟩), .string s] w fun e w' => e = .returned (.tuple #[]) ∧ ∃ v', All (wrC b v' (addS st (enc 9 s.size ++ s.data.toList)) :: cs) w' :=
  (text_any h.1.2.1 s hlen).mono fun e w' ⟨h1, v', h2, h3⟩ => ⟨h1, v', h.wstep h2 h3⟩
theorem numW {b : Nat} {v : Value} {st : Option (List UInt8)} {cs : List Comp} {w : World} (h : All (wrC b v st :: cs) w) (n : Int) (hn : n < 9223372036854775808) (hlen : lenS st + 10 ≤ 140737488355328) : Calls Tryz.prog 167 #[.pointer (some ⟨b, 0, none⟩), .int .i64 n] w fun e w' => e = .returned (.tuple #[]) ∧ ∃ v', All (wrC b v' (numS st n) :: cs) w' :=
  (num_any h.1.2.1 n hn hlen).mono fun e w' ⟨h1, v', h2, h3⟩ => ⟨h1, v', h.wstep h2 h3⟩
theorem numS_nat (st : Option (List UInt8)) (n : Nat) : numS st (n : Int) = addS st (enc 9 n) := by unfold numS; rw [if_neg (by omega)]; simp
theorem natW {b : Nat} {v : Value} {st : Option (List UInt8)} {cs : List Comp} {w : World} (h : All (wrC b v st :: cs) w) (n : Nat) (hn : n < 9223372036854775808) (hlen : lenS st + 10 ≤ 140737488355328) : Calls Tryz.prog 167 #[.pointer (some ⟨b, 0, none⟩), .int .i64 (n : Int)] w fun e w' => e = .returned (.tuple #[]) ∧ ∃ v', All (wrC b v' (addS st (enc 9 n)) :: cs) w' := by
  have := numW h (n : Int) (by omega) hlen
  rw [numS_nat] at this
  exact this
theorem doneW {b : Nat} {v : Value} {bs : List UInt8} {cs : List Comp} {w : World} (h : All (wrC b v (some bs) :: cs) w) (hlen : bs.length ≤ 140737488355328) : Calls Tryz.prog 169 #[.pointer (some ⟨b, 0, none⟩)] w fun e w' => ∃ so sc, e = .returned (.tuple #[.slice so bs.length sc, .int .i64 0]) ∧ All (ownC 5 (.slice so bs.length sc) (cellsB bs) :: wrC b v (some bs) :: cs) w' :=
  (done_whole h.1.2.1 hlen).mono fun e w' ⟨s', h1, h2, h3⟩ => by
    obtain ⟨so, sc, rfl⟩ := owns_form h2
    exact ⟨so, sc, h1, h.addOwn h3 (by rw [cellsB_length]; exact h2)⟩

/-- What texts are as bytes. -/
def textsB (l : List ByteArray) : List UInt8 := l.flatMap fun t => enc 9 t.size ++ t.data.toList
def itemsB (l : List ByteArray) : List UInt8 := enc 9 l.length ++ textsB l
theorem textsB_take {l : List ByteArray} {k : Nat} (hk : k < l.length) : textsB (l.take (k + 1)) = textsB (l.take k) ++ (enc 9 l[k].size ++ l[k].data.toList) := by
  rw [List.take_succ_eq_append_getElem hk, textsB, List.flatMap_append]; simp [textsB]

/-- All that is bounded: a list's texts, each with what stands ahead of it. -/
def bulkT (l : List ByteArray) : Nat := (l.map fun t => t.size + 10).sum
theorem bulkT_take {l : List ByteArray} {k : Nat} (hk : k < l.length) : (textsB (l.take k)).length + (l[k].size + 10) ≤ bulkT l := by
  induction l generalizing k with
  | nil => simp at hk
  | cons t l ih =>
    cases k with
    | zero => simp [textsB, bulkT]
    | succ k =>
      have := ih (k := k) (by simpa using hk)
      have he := enc_len 9 t.size
      simp only [List.take_succ_cons, textsB, List.flatMap_cons, List.length_append, bulkT, List.map_cons, List.sum_cons, List.getElem_cons_succ, ByteArray.size, Array.length_toList] at *
      omega

set_option maxHeartbeats 1600000 in
set_option maxRecDepth 1000000 in
theorem putItems_any {b : Nat} {v : Value} {st : Option (List UInt8)} {s : Value} {l : List ByteArray} {cs : List Comp} {w : World} (h : All (wrC b v st :: cs) w) (hT : ∀ w', All cs w' → Txts w' s l) (hlen : lenS st + bulkT l + 30 ≤ 140737488355328) (hl : l.length ≤ 1099511627776) :
    Calls Tryz.prog 190 #[.pointer (some ⟨b, 0, none⟩), s] w fun e w' => e = .returned (.tuple #[]) ∧ ∃ v', All (wrC b v' (addS st (itemsB l)) :: cs) w' := by
  obtain ⟨ao, c, rfl⟩ := (hT w h.tail).form
  have HH := hid h
  have HT := hid hT
  clear h hT
  go_enter Tryz.func190, Tryz.ntmps190
  go_wp2_with fail
  refine (natW HH.out l.length (by omega) (by omega)).mono ?_
  rintro e w1 ⟨rfl, v1, A1⟩
  have A1 := hid A1
  clear HH
  go_wp2
  go_loopw [12] (fun iv wr => ∃ (k : Nat) (v' : Value), iv = .int .i64 (k : Int) ∧ k ≤ l.length ∧ Hid (All (wrC b v' (addS st (enc 9 l.length ++ textsB (l.take k))) :: cs) wr)) (fun iv _ => l.length - (intOf iv).toNat)
  case atStart => exact ⟨0, v1, rfl, Nat.zero_le _, by simpa [textsB] using A1⟩
  case round =>
    obtain ⟨k, v', rfl, hk, AR⟩ := hrel
    clear A1
    by_cases hlt : k < l.length
    · obtain ⟨g, o, ea, hg, hcell⟩ := (HT.out wr AR.out.tail).at hlt
      subst ea
      have el : decide ((k : Int) < (l.length : Int)) = true := by simpa using hlt
      have HB : Hid (lenS (addS st (enc 9 l.length ++ textsB (l.take k))) + l[k].size + 10 ≤ 140737488355328) := by
        have h1 := lenS_addS st (enc 9 l.length ++ textsB (l.take k))
        have h2 := bulkT_take hlt
        have h3 := enc_len 9 l.length
        rw [List.length_append] at h1
        show _ ≤ _
        omega
      go_wp2_with fail
      refine (textW AR.out _ HB.out).mono ?_
      rintro e w2 ⟨rfl, v2, A2⟩
      rw [addS_addS, List.append_assoc, ← textsB_take hlt] at A2
      have A2 := hid A2
      clear AR HB
      go_wp2
      go_roundw
      case rel => exact ⟨k + 1, v2, by go_num, by omega, A2⟩
      case measure => simp [intOf]; omega
    · have el : decide ((k : Int) < (l.length : Int)) = false := by simp; omega
      go_wp2
      go_end0
      refine ⟨rfl, v', ?_⟩
      have := AR.out
      rw [List.take_of_length_le (by omega)] at this
      exact this
end Go.Proofs.YtafickhhdemjnaaGreatDoor

namespace Go.Proofs.YtafickhhdemjnaaGreatDoor
open Go.RowKit
set_option linter.unusedVariables false

theorem cellsG_at {gs : List (List UInt8 × Int)} {k : Nat} (hk : k < gs.length) : (cellsG gs)[k * 2]? = some (encStr gs[k].1) ∧ (cellsG gs)[k * 2 + 1]? = some (.int .i64 gs[k].2) := by
  induction gs generalizing k with
  | nil => simp at hk
  | cons g gs ih =>
    cases k with
    | zero => simp [cellsG]
    | succ k =>
      have := ih (k := k) (by simpa using hk)
      have e : (k + 1) * 2 = k * 2 + 1 + 1 := by omega
      rw [e]
      simpa [cellsG] using this
theorem cellsG_len (gs : List (List UInt8 × Int)) : (cellsG gs).length = gs.length * 2 := by
  induction gs with
  | nil => rfl
  | cons g gs ih => simp [cellsG] at ih ⊢; omega
theorem rowG_at {w : World} {ao : Option Addr} {n c : Nat} {gs : List (List UInt8 × Int)} (h : w.ownsRow 0 214 2 (.slice ao n c) gs.length (cellsG gs)) {k : Nat} (hk : k < gs.length) : ∃ g, ao = some ⟨g, 0, none⟩ ∧ g < w.heap.size ∧ w.cell? ⟨g, k * 2, none⟩ = some (encStr gs[k].1) ∧ w.cell? ⟨g, k * 2 + 1, none⟩ = some (.int .i64 gs[k].2) := by
  rcases h.2 with ⟨e, e2⟩ | ⟨g, cap, cur, e, _, hg, hn, hm, hcs, ht⟩
  · omega
  · simp only [Value.slice.injEq] at e
    obtain ⟨h1, h2⟩ := cellsG_at hk
    rw [← ht, List.getElem?_take, if_pos (by omega)] at h1
    rw [← ht, List.getElem?_take, if_pos (by omega)] at h2
    refine ⟨g, e.1, (Array.getElem?_eq_some_iff.1 hg).1, ?_, ?_⟩
    · rw [cell_at hg, ← Array.getElem?_toList]; exact h1
    · rw [cell_at hg, ← Array.getElem?_toList]; exact h2

/-- Groups as bytes. -/
def groupsB (gs : List (List UInt8 × Int)) : List UInt8 := gs.flatMap fun g => (enc 9 g.1.length ++ g.1) ++ enc 9 g.2.toNat
theorem groupsB_take {gs : List (List UInt8 × Int)} {k : Nat} (hk : k < gs.length) : groupsB (gs.take (k + 1)) = groupsB (gs.take k) ++ ((enc 9 gs[k].1.length ++ gs[k].1) ++ enc 9 gs[k].2.toNat) := by
  rw [List.take_succ_eq_append_getElem hk, groupsB, List.flatMap_append]; simp [groupsB]
theorem groupsB_len {gs : List (List UInt8 × Int)} (hb : ∀ g ∈ gs, g.1.length ≤ 1048576) : (groupsB gs).length ≤ gs.length * 1048600 := by
  induction gs with
  | nil => simp [groupsB]
  | cons g gs ih =>
    have h1 := ih (fun x hx => hb x (by simp [hx]))
    have h2 := hb g (by simp)
    have h3 := enc_len 9 g.1.length
    have h4 := enc_len 9 g.2.toNat
    simp only [groupsB, List.flatMap_cons, List.length_append, List.length_cons] at h1 ⊢
    omega

/-- A slot's bytes. -/
def slotB (nm : ByteArray) (first : Nat) (items : List ByteArray) (gs : List (List UInt8 × Int)) : List UInt8 :=
  (enc 9 nm.size ++ nm.data.toList) ++ (enc 9 first ++ (itemsB items ++ (enc 9 gs.length ++ groupsB gs)))

theorem txts_of {e : TypeId} {ao : Option Addr} {n c : Nat} {l : List ByteArray} {cs : List Comp} {w : World} (h : All cs w) (hm : ownC 9 (.slice ao n c) (txtV l) ∈ cs) : Txts w (.slice ao n c) l := by
  have hrow : w.ownsRow 0 9 1 (.slice ao n c) (txtV l).length (txtV l) := (h.mem hm).2.1
  obtain ⟨h1, h2⟩ := owns_len hrow
  rw [List.length_map] at h1 h2
  subst h1
  refine ⟨ao, c, rfl, h2, ?_⟩
  cases l with
  | nil => exact Or.inl rfl
  | cons t l =>
    right
    obtain ⟨g, ea, _, _⟩ := owns_at hrow (k := 0) (u := .string t) rfl
    refine ⟨g, 0, ea, (h.mem hm).2.2 g (by rw [ea]; simp [ownC, Value.ownBlock]), fun j hj => ?_⟩
    obtain ⟨g', ea', hc, _⟩ := owns_at hrow (k := j) (u := .string (t :: l)[j]) (by rw [List.getElem?_map, List.getElem?_eq_getElem hj]; rfl)
    rw [ea] at ea'
    cases ea'
    rw [Nat.zero_add]
    exact hc
end Go.Proofs.YtafickhhdemjnaaGreatDoor

namespace Go.Proofs.YtafickhhdemjnaaGreatDoor
open Go.RowKit
set_option linter.unusedVariables false

theorem mem3 {a b c : Comp} {cs : List Comp} : c ∈ a :: b :: c :: cs := List.mem_cons_of_mem _ mem2
theorem mem4 {a b c d : Comp} {cs : List Comp} : d ∈ a :: b :: c :: d :: cs := List.mem_cons_of_mem _ mem3

theorem lenS0 (l : List UInt8) : lenS (addS (some []) l) = l.length := by show ([] ++ l).length = l.length; rw [List.nil_append]
theorem str_len (nm : ByteArray) : nm.data.toList.length = nm.size := Array.length_toList
theorem textsB_len (l : List ByteArray) : (textsB l).length ≤ bulkT l := by
  induction l with
  | nil => simp [textsB, bulkT]
  | cons t l ih =>
    have he := enc_len 9 t.size
    have hs := str_len t
    have e1 : (textsB (t :: l)).length = (enc 9 t.size).length + t.data.toList.length + (textsB l).length := by simp [textsB]; omega
    have e2 : bulkT (t :: l) = t.size + 10 + bulkT l := by simp [bulkT]
    rw [e1, e2]
    omega
theorem len2 (nm : ByteArray) (h : nm.size ≤ 1048576) : lenS (addS (some []) (enc 9 nm.size ++ nm.data.toList)) ≤ 2000000 := by
  have h1 := enc_len 9 nm.size
  rw [lenS0, List.length_append, str_len]; omega
theorem len3 (nm : ByteArray) (f : Nat) (h : nm.size ≤ 1048576) : lenS (addS (some []) (enc 9 nm.size ++ nm.data.toList ++ enc 9 f)) ≤ 2000020 := by
  have h1 := enc_len 9 nm.size
  have h2 := enc_len 9 f
  rw [lenS0, List.length_append, List.length_append, str_len]; omega
theorem len4 (nm : ByteArray) (f : Nat) (items : List ByteArray) (h : nm.size ≤ 1048576) (hi : bulkT items ≤ 1099511627776) : lenS (addS (some []) (enc 9 nm.size ++ nm.data.toList ++ enc 9 f ++ itemsB items)) ≤ 1099517000000 := by
  have h1 := enc_len 9 nm.size
  have h2 := enc_len 9 f
  have h3 := enc_len 9 items.length
  have h4 := textsB_len items
  rw [lenS0, List.length_append, List.length_append, List.length_append, str_len, itemsB, List.length_append]; omega

set_option maxHeartbeats 6400000 in
set_option maxRecDepth 1000000 in
theorem bytes_one {P i b n : Nat} {qs : List Qv} {nm : ByteArray} {first : Nat} {iv : Value} {items : List ByteArray} {D : DataW Unit} {cs : List Comp} {w : World} (h : All (blkC P (flat qs) 159 :: ownC 9 iv (txtV items) :: mapC b n D :: cs) w) (hq : qs[i]? = some ⟨nm, first, iv, .map (some b)⟩) (hn : n ≤ 1048576)
    (hnm : nm.size ≤ 1048576) (hfs : first < 1152921504606846976) (hit : bulkT items ≤ 1099511627776) (hil : items.length < 1048576) {x0 : List UInt8} {c0 : Nat} (hx : x0.length ≤ 1048576) (hD : ∀ x, Maps.has D (.string x) = true ↔ x = x0) (hc : leftD D (.string x0) = c0) (hc0 : c0 < 1152921504606846976) (hsz : Maps.size D = 1) :
    Calls Tryz.prog 163 #[.pointer (some ⟨P, i * 4, none⟩)] w fun e w' => ∃ so sn sc, e = .returned (.slice so sn sc) ∧ All (ownC 5 (.slice so sn sc) (cellsB (slotB nm first items [(x0, (c0 : Int))])) :: blkC P (flat qs) 159 :: ownC 9 iv (txtV items) :: mapC b n D :: cs) w' := by
  obtain ⟨ao, cp, eiv⟩ := owns_form (h.2.2.1.2.1 : w.ownsRow 0 9 1 iv (txtV items).length (txtV items))
  rw [List.length_map] at eiv
  subst eiv
  have HH := hid h
  have HQ := hid hq
  have HD := hid hD
  have HC := hid hc
  have c1 := h.q0 List.mem_cons_self hq
  clear h hq hD hc
  go_enter Tryz.func163, Tryz.ntmps163
  go_wp2_with fail
  refine (newW HH.out).mono ?_
  rintro e w1 ⟨B, rfl, A⟩
  have A := hid A
  clear HH c1
  have c1 := A.out.q0 mem2 HQ.out
  go_wp2_with fail
  refine (textW A.out nm (by simp [lenS]; omega)).mono ?_
  rintro e w2 ⟨rfl, v2, A2⟩
  have A := hid A2
  clear A2 c1
  have c1 := A.out.q1 mem2 HQ.out
  have L2 := hid (len2 nm hnm)
  go_wp2_with fail
  refine (natW A.out first (by omega) (by have := L2.out; omega)).mono ?_
  rintro e w3 ⟨rfl, v3, A2⟩
  have A := hid A2
  clear A2 c1
  have c1 := A.out.q2 mem2 HQ.out
  rw [addS_addS] at A
  have L3 := hid (len3 nm first hnm)
  go_wp2_with fail
  refine (putItems_any (l := items) A.out (fun w' hw' => txts_of (e := 9) hw' mem2) (by have := L3.out; omega) (by omega)).mono ?_
  rintro e w4 ⟨rfl, v4, A2⟩
  rw [addS_addS] at A2
  have A := hid A2
  clear A2 c1
  have c1 := A.out.q3 mem2 HQ.out
  have hlm := ((A.out.mem mem4).2.1 : w4.ownsMap Tryz.prog 9 rE b n D).len Tryz.und154
  rw [hsz] at hlm
  have L4 := hid (len4 nm first items hnm hit)
  go_wp2_with fail
  refine (natW A.out 1 (by omega) (by have := L4.out; omega)).mono ?_
  rintro e w5 ⟨rfl, v5, A2⟩
  rw [addS_addS] at A2
  have A := hid A2
  clear A2 c1 hlm
  go_wp2_with fail
  refine (byName_one (A.out.perm (ds := mapC b n D :: blkC P (flat qs) 159 :: wrC B v5 (addS (some []) (enc 9 nm.size ++ nm.data.toList ++ enc 9 first ++ itemsB items ++ enc 9 1)) :: ownC 9 (.slice ao items.length cp) (txtV items) :: cs) ?_) HQ.out rfl hn HD.out).mono ?_
  · refine List.Perm.trans (l₂ := mapC b n D :: wrC B v5 (addS (some []) (enc 9 nm.size ++ nm.data.toList ++ enc 9 first ++ itemsB items ++ enc 9 1)) :: blkC P (flat qs) 159 :: ownC 9 (.slice ao items.length cp) (txtV items) :: cs) ?_ (List.Perm.cons _ (List.Perm.swap _ _ _))
    exact List.perm_middle (l₁ := [wrC B v5 (addS (some []) (enc 9 nm.size ++ nm.data.toList ++ enc 9 first ++ itemsB items ++ enc 9 1)), blkC P (flat qs) 159, ownC 9 (.slice ao items.length cp) (txtV items)])
  rintro e w6 ⟨gv, rfl, A2⟩
  rw [HC.out] at A2
  obtain ⟨ga, gc, eg⟩ := owns_form (A2.1.2.1 : w6.ownsRow 0 214 2 gv [(x0, (c0 : Int))].length (cellsG [(x0, (c0 : Int))]))
  subst eg
  have A := hid (A2.perm (ds := wrC B v5 (addS (some []) (enc 9 nm.size ++ nm.data.toList ++ enc 9 first ++ itemsB items ++ enc 9 1)) :: rowG (.slice ga 1 gc) [(x0, (c0 : Int))] :: mapC b n D :: blkC P (flat qs) 159 :: ownC 9 (.slice ao items.length cp) (txtV items) :: cs) (List.perm_middle (l₁ := [rowG (.slice ga 1 gc) [(x0, (c0 : Int))], mapC b n D, blkC P (flat qs) 159])))
  clear A2
  generalize hST : addS (some []) (enc 9 nm.size ++ nm.data.toList ++ enc 9 first ++ itemsB items ++ enc 9 1) = st at A
  have LS : Hid (lenS st ≤ 1099517000010) := by
    have h1 := L4.out
    have h2 := enc_len 9 1
    rw [lenS0] at h1
    show _ ≤ _
    rw [← hST, lenS0, List.length_append]
    omega
  have HST := hid hST
  clear hST L2 L3 L4
  go_wp2
  go_loopw [37] (fun jv wr => ∃ (k : Nat) (v' : Value), jv = .int .i64 (k : Int) ∧ k ≤ 1 ∧ Hid (All (wrC B v' (addS st (groupsB ([(x0, (c0 : Int))].take k))) :: rowG (.slice ga 1 gc) [(x0, (c0 : Int))] :: mapC b n D :: blkC P (flat qs) 159 :: ownC 9 (.slice ao items.length cp) (txtV items) :: cs) wr)) (fun jv _ => 1 - (intOf jv).toNat)
  case atStart => exact ⟨0, v5, rfl, by omega, by simpa [groupsB, addS_nil] using A⟩
  case round =>
    obtain ⟨k, v', rfl, hk, AR⟩ := hrel
    clear A
    by_cases hlt : k < 1
    · obtain rfl : k = 0 := by omega
      obtain ⟨g, ea, hg, e0, e1⟩ := rowG_at (AR.out.2.2.1.2.1 : wr.ownsRow 0 214 2 (.slice ga 1 gc) [(x0, (c0 : Int))].length (cellsG [(x0, (c0 : Int))])) (k := 0) (by simp)
      subst ea
      simp only [List.getElem_cons_zero, Nat.zero_mul, Nat.zero_add] at e0 e1
      have AN := hid (AR.out.addBlk [encStr x0, .int .i64 (c0 : Int)] 214)
      clear AR
      go_wp2_with fail
      have A1 := hid (AN.out.swap)
      clear AN
      refine (textW A1.out (strB x0) (by have := LS.out; simp [groupsB, addS_nil, strB, ByteArray.size]; omega)).mono ?_
      rintro e w7 ⟨rfl, v7, A2⟩
      have A2 := hid A2
      clear A1
      have hb : w7.heap[wr.heap.size]? = some (.cells [encStr x0, .int .i64 (c0 : Int)].toArray 214 (0, 0)) := A2.out.blk mem2
      have d1 : w7.cell? ⟨wr.heap.size, 1, none⟩ = some (.int .i64 (c0 : Int)) := by rw [cell_at hb]; rfl
      clear hb
      have L7 : Hid (lenS (addS (addS st (groupsB ([(x0, (c0 : Int))].take 0))) (enc 9 (strB x0).size ++ (strB x0).data.toList)) ≤ 1099520000000) := by
        have h1 := LS.out
        have h2 := enc_len 9 (strB x0).size
        have h3 := lenS_addS (addS st (groupsB ([(x0, (c0 : Int))].take 0))) (enc 9 (strB x0).size ++ (strB x0).data.toList)
        rw [List.length_append, str_len] at h3
        have h4 : (strB x0).size = x0.length := by simp [strB, ByteArray.size]
        have h5 : lenS (addS st (groupsB ([(x0, (c0 : Int))].take 0))) = lenS st := by simp [groupsB, addS_nil]
        show _ ≤ _
        omega
      go_wp2_with fail
      refine (natW A2.out c0 (by omega) (by have := L7.out; omega)).mono ?_
      rintro e w8 ⟨rfl, v8, A3⟩
      have A4 := hid (A3.swap.tail)
      clear A3 A2 d1 L7 e0 e1
      go_wp2
      go_roundw
      case rel =>
        refine ⟨1, v8, by go_num, by omega, ?_⟩
        have e : addS (addS (addS st (groupsB ([(x0, (c0 : Int))].take 0))) (enc 9 (strB x0).size ++ (strB x0).data.toList)) (enc 9 c0) = addS st (groupsB ([(x0, (c0 : Int))].take 1)) := by
          rw [addS_addS, addS_addS]
          congr 1
          simp [groupsB, strB, ByteArray.size]
        have h4 := A4.out
        rw [e] at h4
        exact h4
      case measure => simp [intOf]
    · obtain rfl : k = 1 := by omega
      have e : addS st (groupsB ([(x0, (c0 : Int))].take 1)) = some (slotB nm first items [(x0, (c0 : Int))]) := by
        rw [← HST.out, addS_addS]
        simp [addS, slotB, groupsB]
      rw [e] at AR
      have AR := hid AR.out
      have hlen : (slotB nm first items [(x0, (c0 : Int))]).length ≤ 1099530000000 := by
        have h1 := LS.out
        rw [← HST.out, lenS0] at h1
        have h2 := enc_len 9 x0.length
        have h3 := enc_len 9 c0
        have h4 : (slotB nm first items [(x0, (c0 : Int))]).length = (enc 9 nm.size ++ nm.data.toList ++ enc 9 first ++ itemsB items ++ enc 9 1).length + ((enc 9 x0.length).length + x0.length + (enc 9 c0).length) := by
          simp [slotB, groupsB]; omega
        omega
      clear e
      go_wp2_with fail
      refine (doneW AR.out (by omega)).mono ?_
      rintro e w7 ⟨so, sc, rfl, A2⟩
      have A2 := hid A2
      clear AR
      go_wp2
      go_ret
      refine ⟨so, _, sc, rfl, ?_⟩
      have h1 := (A2.out.swap.tail).swap.tail
      refine h1.perm (List.Perm.cons _ ?_)
      refine List.Perm.trans (l₂ := blkC P (flat qs) 159 :: mapC b n D :: ownC 9 (.slice ao items.length cp) (txtV items) :: cs) (List.Perm.swap _ _ _) (List.Perm.cons _ (List.Perm.swap _ _ _))
end Go.Proofs.YtafickhhdemjnaaGreatDoor

namespace Go.Proofs.YtafickhhdemjnaaGreatDoor
open Go.RowKit
set_option linter.unusedVariables false

theorem Reads.at_u8 {w : World} {ao : Option Addr} {n c : Nat} {l : List UInt8} (h : Reads w (.slice ao n c) l) (k : Nat) (hk : k < l.length) : ∃ g o, ao = some ⟨g, o, none⟩ ∧ w.cell? ⟨g, o + k, none⟩ = some (.int .u8 ((l.getD k 0).toNat : Int)) := h.at k hk

set_option maxHeartbeats 1600000 in
set_option maxRecDepth 1000000 in
/-- Lists that are alike. -/
theorem same_true {w : World} {s t : Value} {l : List UInt8} (hs : Reads w s l) (ht : Reads w t l) (hlen : l.length ≤ 140737488355328) :
    Calls Tryz.prog 32 #[s, t] w fun e w' => e = .returned (.bool true) ∧ Below w.heap.size w w' := by
  obtain ⟨ao, c, hf⟩ := hs.form
  obtain ⟨ao', c', hf'⟩ := ht.form
  subst hf hf'
  have HS := hid hs
  have HT := hid ht
  clear hs ht
  go_enter Tryz.func32, Tryz.ntmps32
  go_wp2
  go_loopw [5] (fun iv wr => ∃ (k q : Nat), k ≤ l.length ∧ iv = .int .i64 (k : Int) ∧ wr = w.drewN q) (fun iv _ => l.length - (intOf iv).toNat)
  case atStart => exact ⟨0, 0, by omega, rfl, rfl⟩
  case round =>
    obtain ⟨k, q, hk, rfl, rfl⟩ := hrel
    by_cases hlt : k < l.length
    · obtain ⟨g, o, rfl, h1⟩ := HS.out.at_u8 k hlt
      obtain ⟨g', o', rfl, h2⟩ := HT.out.at_u8 k hlt
      generalize (l.getD k 0).toNat = x at h1 h2
      have hb : ((x : Int) != (x : Int)) = false := by simp
      go_wp2
      go_region
      go_wp2
      go_roundw
      case rel => exact ⟨k + 1, q + 1, by omega, by go_num, by simp⟩
      case measure => simp [intOf]; omega
    · go_wp2
      go_ret
      exact ⟨rfl, ⟨rfl, rfl, rfl, Nat.le_refl _, fun _ _ => rfl⟩⟩

set_option maxHeartbeats 1600000 in
set_option maxRecDepth 1000000 in
/-- Texts that are alike. -/
theorem sameTexts_true {w : World} {s t : Value} {l : List ByteArray} (hs : Txts w s l) (ht : Txts w t l) (hlen : l.length ≤ 140737488355328) :
    Calls Tryz.prog 55 #[s, t] w fun e w' => e = .returned (.bool true) ∧ Below w.heap.size w w' := by
  obtain ⟨ao, c, hf⟩ := hs.form
  obtain ⟨ao', c', hf'⟩ := ht.form
  subst hf hf'
  have HS := hid hs
  have HT := hid ht
  clear hs ht
  go_enter Tryz.func55, Tryz.ntmps55
  go_wp2
  go_loopw [5] (fun iv wr => ∃ (k q : Nat), k ≤ l.length ∧ iv = .int .i64 (k : Int) ∧ wr = w.drewN q) (fun iv _ => l.length - (intOf iv).toNat)
  case atStart => exact ⟨0, 0, by omega, rfl, rfl⟩
  case round =>
    obtain ⟨k, q, hk, rfl, rfl⟩ := hrel
    by_cases hlt : k < l.length
    · obtain ⟨g, o, rfl, _, h1⟩ := HS.out.at hlt
      obtain ⟨g', o', rfl, _, h2⟩ := HT.out.at hlt
      generalize l[k] = x at h1 h2
      have hb : (x.toList == x.toList) = true := by simp
      go_wp2
      go_region
      go_wp2
      go_roundw
      case rel => exact ⟨k + 1, q + 1, by omega, by go_num, by simp⟩
      case measure => simp [intOf]; omega
    · go_wp2
      go_ret
      exact ⟨rfl, ⟨rfl, rfl, rfl, Nat.le_refl _, fun _ _ => rfl⟩⟩

set_option maxRecDepth 1000000 in
/-- Results that are alike. -/
theorem sameResult_true {w : World} (c n : Int) {s t : Value} {l : List ByteArray} (hs : Txts w s l) (ht : Txts w t l) (hlen : l.length ≤ 140737488355328) :
    Calls Tryz.prog 30 #[resV c n s, resV c n t] w fun e w' => e = .returned (.bool true) ∧ Below w.heap.size w w' := by
  obtain ⟨ao, cp, hf⟩ := hs.form
  obtain ⟨ao', cp', hf'⟩ := ht.form
  subst hf hf'
  have HS := hid hs
  have HT := hid ht
  clear hs ht
  go_enter Tryz.func30, Tryz.ntmps30
  go_wp2_with fail
  refine (sameTexts_true ((HS.out.alloc _).alloc _) ((HT.out.alloc _).alloc _) hlen).mono ?_
  rintro e w1 ⟨rfl, B1⟩
  have B2 := hid (b2 (b2 (ba w _) (ba _ _)) B1)
  clear B1
  go_wp2
  go_ret
  exact ⟨rfl, B2.out⟩

theorem isFree_any {w : World} {P i : Nat} {nm : ByteArray} (c0 : w.cell? ⟨P, i * 4, none⟩ = some (.string nm)) : Calls Tryz.prog 162 #[.pointer (some ⟨P, i * 4, none⟩)] w fun e w' => e = .returned (.bool nm.toList.isEmpty) ∧ w' = w := by
  go_enter Tryz.func162, Tryz.ntmps162
  go_wp2
  go_ret
  exact ⟨rfl, rfl⟩

set_option maxHeartbeats 1600000 in
set_option maxRecDepth 1000000 in
theorem Slot_one {P i b n : Nat} {qs : List Qv} {nm : ByteArray} {first : Nat} {iv : Value} {items : List ByteArray} {D : DataW Unit} {cs : List Comp} {w : World} (h : All (blkC P (flat qs) 159 :: ownC 9 iv (txtV items) :: mapC b n D :: cs) w) (h8 : qs.length = 8) (hq : qs[i]? = some ⟨nm, first, iv, .map (some b)⟩) (hn : n ≤ 1048576)
    (hne : nm.size ≠ 0) (hnm : nm.size ≤ 1048576) (hfs : first < 1152921504606846976) (hit : bulkT items ≤ 1099511627776) (hil : items.length < 1048576) {x0 : List UInt8} {c0 : Nat} (hx : x0.length ≤ 1048576) (hD : ∀ x, Maps.has D (.string x) = true ↔ x = x0) (hc : leftD D (.string x0) = c0) (hc0 : c0 < 1152921504606846976) (hsz : Maps.size D = 1) :
    Calls Tryz.prog 124 #[.pointer (some ⟨P, 0, none⟩), .int .i64 (i : Int)] w fun e w' => ∃ so sn sc, e = .returned (.slice so sn sc) ∧ All (ownC 5 (.slice so sn sc) (cellsB (slotB nm first items [(x0, (c0 : Int))])) :: blkC P (flat qs) 159 :: ownC 9 iv (txtV items) :: mapC b n D :: cs) w' := by
  have hi8 : i < 8 := by have := (List.getElem?_eq_some_iff.1 hq).1; omega
  have HF := hid (isFree_any (h.q0 List.mem_cons_self hq))
  rw [nonempty nm hne] at HF
  have HB := hid (bytes_one h hq hn hnm hfs hit hil hx hD hc hc0 hsz)
  have i1 : decide ((i : Int) < 0) = false := by simp
  have i2 : decide ((8 : Int) ≤ (i : Int)) = false := by simp; omega
  have i3 : (0 : Int) ≤ (i : Int) := by omega
  have i4 : (i : Int) < 8 := by omega
  clear h hq hD hc
  go_enter Tryz.func124, Tryz.ntmps124
  go_wp2_with fail
  refine HF.out.mono ?_
  rintro e w1 ⟨rfl, rfl⟩
  go_wp2_with fail
  refine HB.out.mono ?_
  rintro e w2 ⟨so, sn, sc, rfl, A2⟩
  have A2 := hid A2
  clear HB HF
  go_wp2
  go_ret
  exact ⟨so, sn, sc, rfl, A2.out⟩
end Go.Proofs.YtafickhhdemjnaaGreatDoor
