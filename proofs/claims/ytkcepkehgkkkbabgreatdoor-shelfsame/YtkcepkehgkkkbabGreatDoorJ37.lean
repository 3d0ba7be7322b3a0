import Derived.Test.YtkcepkehgkkkbabGreatDoorJ36
import Derived.Test.YtkcepkehgkkkbabGreatDoorJ18
namespace Go.Proofs.YtkcepkehgkkkbabGreatDoor
open Go.RowKit
set_option linter.unusedVariables false

theorem All.rev3 {a b c : Comp} {cs : List Comp} {w : World} (h : All (a :: b :: c :: cs) w) : All (c :: b :: a :: cs) w :=
  h.perm ((List.Perm.swap _ _ _).trans ((List.Perm.cons _ (List.Perm.swap _ _ _)).trans (List.Perm.swap _ _ _)))

theorem All.sublist {cs ds : List Comp} {w : World} (hs : ds.Sublist cs) (h : All cs w) : All ds w := by
  induction hs with
  | slnil => exact h
  | cons a _ ih => exact ih h.2.2
  | cons_cons a hs ih => exact ⟨h.1, fun d hd => h.2.1 d (hs.subset hd), ih h.2.2⟩

set_option maxHeartbeats 1600000 in
set_option maxRecDepth 1000000 in
theorem getItems_any {b : Nat} {D : Option Nat} {rv : Value} {r : Rst} {cs : List Comp} {w : World} (h : All (rdC b D rv r :: cs) w) (hp : r.size ≤ 140737488355328) :
    Calls Tryz.prog 49 #[.pointer (some ⟨b, 0, none⟩), .int .i64 8] w fun e w' => ∃ so sc rv', e = .returned (.slice so (((r.num 8).items (r.numV 8).toNat).1).length sc) ∧ All (ownC 9 (.slice so (((r.num 8).items (r.numV 8).toNat).1).length sc) (txtV ((r.num 8).items (r.numV 8).toNat).1) :: rdC b D rv' ((r.num 8).items (r.numV 8).toNat).2 :: cs) w' := by
  have HH := hid h
  have HP := hid hp
  obtain ⟨N, hN⟩ : ∃ N : Nat, Hid (r.numV 8 = (N : Int) ∧ N ≤ 8) := ⟨(r.numV 8).toNat, hid (by
    have h1 := numR_val r.rs 8 13
    have h2 := numR_le r.rs 8 13 (by omega)
    unfold Rst.numV
    omega)⟩
  have eN : (r.numV 8).toNat = N := by rw [hN.out.1]; simp
  rw [eN]
  clear h hp eN
  go_enter Tryz.func49, Tryz.ntmps49
  go_wp2_with fail
  refine (numRd HH.out (by have := HP.out; unfold Rst.size at this; exact this) 8).mono ?_
  rw [hN.out.1]
  rintro e w1 ⟨rfl, rv1, A1⟩
  have A1 := hid A1
  have hN8 := hN.out.2
  clear HH
  obtain ⟨i0, hi, hz0, hz1, hz2⟩ := info_parts Tryz.info9
  go_wp2
  go_loopw [5, 9] (fun vv iv wr => ∃ (k : Nat) (so : Option Addr) (sc : Nat) (rv' : Value), vv = .slice so k sc ∧ iv = .int .i64 (k : Int) ∧ k ≤ N ∧ Hid (All (ownC 9 (.slice so k sc) (txtV ((r.num 8).items k).1) :: rdC b D rv' ((r.num 8).items k).2 :: cs) wr)) (fun vv iv _ => N - (intOf iv).toNat)
  case atStart => exact ⟨0, none, 0, rv1, rfl, rfl, Nat.zero_le _, hid A1.out.addNil⟩
  case round =>
    obtain ⟨k, so, sc, rv', rfl, rfl, hk, AR⟩ := hrel
    clear A1
    by_cases hlt : k < N
    · have el : decide ((k : Int) < (N : Int)) = true := by simpa using hlt
      have HB : Hid (((r.num 8).items k).2.place + ((r.num 8).items k).2.rs.length ≤ 140737488355328) := hid (by
        have h1 := items_size (r.num 8) k
        have h2 := num_size r 8
        have h3 := HP.out
        unfold Rst.size at h1 h2 h3
        omega)
      go_wp2_with fail
      refine (textRd AR.out.swap HB.out 64).mono ?_
      rintro e w2 ⟨rfl, rv2, A2⟩
      have A3 := hid (A2.swap.alloc (.cells #[.string (((r.num 8).items k).2.txtV 64)] 9))
      have hrow : (w2.alloc (.cells #[.string (((r.num 8).items k).2.txtV 64)] 9)).ownsRow 0 9 1 (.slice so k sc) k (txtV ((r.num 8).items k).1) := by
        have h1 : (w2.alloc (.cells #[.string (((r.num 8).items k).2.txtV 64)] 9)).ownsRow 0 9 1 (.slice so k sc) (txtV ((r.num 8).items k).1).length (txtV ((r.num 8).items k).1) := A3.out.1.2.1
        rw [txtV_length, items_len] at h1
        exact h1
      have hnews : ∀ j u, [.string (((r.num 8).items k).2.txtV 64)][j]? = some u → (w2.alloc (.cells #[.string (((r.num 8).items k).2.txtV 64)] 9)).cell? ((⟨w2.heap.size, 0, none⟩ : Addr).add j) = some u := by
        intro j u hu
        rw [Addr.add_lit, cell_at (heap_alloc_new w2 _)]
        cases j with
        | zero => simpa using hu
        | succ j => simp at hu
      have hone : ∀ u ∈ [Value.string (((r.num 8).items k).2.txtV 64)], u.oneCell' = true := by
        intro u hu
        simp only [List.mem_singleton] at hu
        subst hu
        rfl
      clear AR A2
      go_wp2_with (at_builtin; refine wpList_append_own_at _ rfl (.tmp 11) (.tmp 14) 57 rfl 0 9 i0 (.string (.mk #[])) 1 16 Tryz.und57 hi hz0 hz1 hz2 rfl (by decide) _ _ _ rfl hrow ⟨w2.heap.size, 0, none⟩ 1 1 [.string (((r.num 8).items k).2.txtV 64)] rfl rfl hnews hone (by unfold maxLen; omega) (by omega) (by simp) ?_)
      intro v' w3 hown hgr _ hat
      have A4 := A3.out.ownGrow (vs' := txtV ((r.num 8).items (k + 1)).1) (base := 0) (v' := v') (by
        rw [txtV_length, items_len]
        simpa [Rst.items, txtV] using hown) hgr (by simpa using hat)
      obtain ⟨so', sc', rfl⟩ := owns_form hown
      have A4 := hid A4
      clear hown hgr hat A3 hrow hnews hone
      go_wp2
      go_roundw
      case rel => exact ⟨k + 1, so', sc', rv2, rfl, by go_num, by omega, A4⟩
      case measure => simp [intOf]; omega
    · have el : decide ((k : Int) < (N : Int)) = false := by simp; omega
      obtain rfl : k = N := by omega
      go_wp2
      go_ret
      refine ⟨so, sc, rv', by rw [items_len]; rfl, ?_⟩
      rw [items_len]
      exact AR.out

theorem rot4 (a b c d : Comp) (cs : List Comp) : List.Perm (a :: b :: c :: d :: cs) (d :: c :: a :: b :: cs) := by
  have h1 : List.Perm ([a, b] ++ [c, d]) ([c, d] ++ [a, b]) := List.perm_append_comm
  have h2 : List.Perm ([c, d] ++ [a, b]) ([d, c] ++ [a, b]) := (List.Perm.swap d c []).append_right _
  exact (h1.trans h2).append_right cs
theorem rot3 (a b c : Comp) (cs : List Comp) : List.Perm (a :: b :: c :: cs) (c :: a :: b :: cs) := by
  have h1 : List.Perm ([a, b] ++ [c]) ([c] ++ [a, b]) := List.perm_append_comm
  exact h1.append_right cs

/-- A result as it is read. -/
structure Res where
  c : Int
  k : Int
  l : List ByteArray
def Rst.res0 (r : Rst) : Res × Rst :=
  if r.numV 4 = 0 then (⟨0, (r.num 4).numV 1099511627776, (((r.num 4).num 1099511627776).num 8 |>.items (((r.num 4).num 1099511627776).numV 8).toNat).1⟩, (((r.num 4).num 1099511627776).num 8 |>.items (((r.num 4).num 1099511627776).numV 8).toNat).2)
  else (⟨r.numV 4, 0, []⟩, r.num 4)
def Rst.resV (r : Rst) : Res := if r.res0.2.err = 0 then r.res0.1 else ⟨0, 0, []⟩
def Rst.res (r : Rst) : Rst := r.res0.2

end Go.Proofs.YtkcepkehgkkkbabGreatDoor

namespace Go.Proofs.YtkcepkehgkkkbabGreatDoor
open Go.RowKit
set_option linter.unusedVariables false

/-- Bytes that came in: an empty list may lie anywhere. -/
def ReadsW (w : World) (s : Value) (l : List UInt8) : Prop := Reads w s l ∨ (l = [] ∧ ∃ a c, s = .slice (some a) 0 c)

theorem ReadsW.below {w w' : World} {s : Value} {l : List UInt8} (h : ReadsW w s l) (hw : Below w.heap.size w w') : ReadsW w' s l := by
  rcases h with h | h
  · exact Or.inl (h.below hw)
  · exact Or.inr h

theorem ReadsW.form {w : World} {s : Value} {l : List UInt8} (h : ReadsW w s l) : ∃ ao c, s = .slice ao l.length c := by
  rcases h with h | ⟨rfl, a, c, rfl⟩
  · exact h.form
  · exact ⟨some a, c, rfl⟩

theorem ReadsW.at_u8 {w : World} {ao : Option Addr} {n c : Nat} {l : List UInt8} (h : ReadsW w (.slice ao n c) l) (k : Nat) (hk : k < l.length) : ∃ g o, ao = some ⟨g, o, none⟩ ∧ w.cell? ⟨g, o + k, none⟩ = some (.int .u8 ((l.getD k 0).toNat : Int)) := by
  rcases h with h | ⟨rfl, _⟩
  · exact h.at k hk
  · simp at hk

set_option maxHeartbeats 800000 in
set_option maxRecDepth 1000000 in
theorem clone_weird {w : World} (a : Addr) (c : Nat) :
    Calls Tryz.prog 85 #[.slice (some a) 0 c] w fun e w' => ∃ s', e = .returned s' ∧ w'.ownsRow w.heap.size 5 1 s' 0 [] ∧ Below w.heap.size w w' := by
  obtain ⟨i0, hi, hz0, hz1, hz2⟩ := info_parts Tryz.info5
  have he := fun w => Lib.run_eql_slice_nil (P := Tryz.prog) w 25 5 (some a) 0 c 0 0 Tryz.underlying25
  have hnews : ∀ j u, ([] : List Value)[j]? = some u → (w.alloc (.cells #[] 5)).cell? (a.add j) = some u := by
    intro j u hu
    simp at hu
  have h0 : (w.alloc (.cells #[] 5)).ownsRow w.heap.size 5 1 (.slice (some ⟨w.heap.size, 0, none⟩) 0 0) 0 [] := World.ownsRow_made w #[] 0 (Nat.le_refl _) (by unfold maxLen; omega) rfl
  go_enter Tryz.func85, Tryz.ntmps85
  go_wp2_with (at_builtin; refine wpList_append_own_at _ rfl (.tmp 5) (.tmp 6) 25 rfl w.heap.size 5 i0 (.int .u8 0) 1 1 Tryz.underlying25 hi hz0 hz1 hz2 rfl (by decide) _ _ _ rfl h0 a 0 c [] rfl rfl hnews (by simp) (by unfold maxLen; omega) (by omega) (by simp) ?_)
  intro v' w1 hown hgr hnil hat
  have R : Hid (w1.ownsRow w.heap.size 5 1 v' 0 [] ∧ Below w.heap.size w w1) := by
    refine ⟨by simpa using hown, ((Below.refl _ _).alloc (Nat.le_refl _) _).grown hgr (by simp) (fun k hk => ?_)⟩
    simp [Value.ownBlock] at hk
    omega
  clear hown hgr hnil hat h0
  go_wp2
  go_ret
  exact ⟨v', rfl, R.out.1, R.out.2⟩

theorem clone_w {w : World} {s : Value} {l : List UInt8} (h : ReadsW w s l) (hlen : l.length ≤ 140737488355328) :
    Calls Tryz.prog 85 #[s] w fun e w' => ∃ s', e = .returned s' ∧ w'.ownsRow w.heap.size 5 1 s' l.length (cellsB l) ∧ Below w.heap.size w w' := by
  rcases h with h | ⟨rfl, a, c, rfl⟩
  · exact clone_any h hlen
  · exact clone_weird a c

set_option maxHeartbeats 800000 in
set_option maxRecDepth 1000000 in
theorem NewReader_w {w : World} {s : Value} {l : List UInt8} (h : ReadsW w s l) (hlen : l.length ≤ 140737488355328) :
    Calls Tryz.prog 45 #[s] w fun e w' => ∃ b D rv, e = .returned (.pointer (some ⟨b, 0, none⟩)) ∧ Rd w' b D rv l 0 0 ∧ Below w.heap.size w w' ∧ w.heap.size ≤ b ∧ ∀ k, D = some k → w.heap.size ≤ k ∧ k < w'.heap.size := by
  have HH := hid h
  obtain ⟨ao, c, hf⟩ := h.form
  subst hf
  clear h
  go_enter Tryz.func45, Tryz.ntmps45
  go_wp2_with fail
  refine (clone_w HH.out hlen).mono ?_
  rintro e w1 ⟨s', rfl, h1, h2⟩
  obtain ⟨ao', c', hf⟩ := owns_form h1
  subst hf
  have H1 := hid h1
  have H2 := hid h2
  clear h1 h2
  go_wp2
  go_ret
  refine ⟨w1.heap.size, (Value.slice ao' l.length c').ownBlock, _, rfl, ⟨alloc_new_at _ _, (Reads.of_owns H1.out).below ((Below.refl _ _).alloc (Nat.le_refl _) _), fun k hk => hk, ?_, fun e => absurd rfl e, fun k hk => by have := (World.ownsRow.lt H1.out k hk).2; simp; omega⟩, H2.out.alloc H2.out.size _, H2.out.size, ?_⟩
  · intro e
    have := (World.ownsRow.lt H1.out _ e).2
    omega
  · intro k hk
    have := World.ownsRow.lt H1.out k hk
    simp
    omega

set_option maxHeartbeats 1600000 in
set_option maxRecDepth 1000000 in
/-- Lists that are alike. -/
theorem same_w {w : World} {s t : Value} {l : List UInt8} (hs : ReadsW w s l) (ht : ReadsW w t l) (hlen : l.length ≤ 140737488355328) :
    Calls Tryz.prog 19 #[s, t] w fun e w' => e = .returned (.bool true) ∧ Below w.heap.size w w' := by
  obtain ⟨ao, c, hf⟩ := hs.form
  obtain ⟨ao', c', hf'⟩ := ht.form
  subst hf hf'
  have HS := hid hs
  have HT := hid ht
  clear hs ht
  go_enter Tryz.func19, Tryz.ntmps19
  go_wp2
  go_loopw [5] (fun iv wr => ∃ (k q : Nat), k ≤ l.length ∧ iv = .int .i64 (k : Int) ∧ wr = w.drewN q) (fun iv _ => l.length - (intOf iv).toNat)
  case atStart => exact ⟨0, 0, by omega, rfl, rfl⟩
  case round =>
    obtain ⟨k, q, hk, rfl, rfl⟩ := hrel
    by_cases hlt : k < l.length
    · obtain ⟨g, o, rfl, h1⟩ := HS.out.at_u8 k hlt
      obtain ⟨g', o', rfl, h2⟩ := HT.out.at_u8 k hlt
      generalize (l.getD k 0).toNat = x at h1 h2
      have hb : ((x : Int) != (x : Int)) = false := by simp
      go_wp2
      go_region
      go_wp2
      go_roundw
      case rel => exact ⟨k + 1, q + 1, by omega, by go_num, by simp⟩
      case measure => simp [intOf]; omega
    · go_wp2
      go_ret
      exact ⟨rfl, ⟨rfl, rfl, rfl, Nat.le_refl _, fun _ _ => rfl⟩⟩

theorem newR {s : Value} {l : List UInt8} {cs : List Comp} {w : World} (h : All cs w) (hr : ReadsW w s l) (hlen : l.length ≤ 140737488355328) : Calls Tryz.prog 45 #[s] w fun e w' => ∃ b D rv, e = .returned (.pointer (some ⟨b, 0, none⟩)) ∧ All (rdC b D rv ⟨l, 0, 0⟩ :: cs) w' ∧ Below w.heap.size w w' :=
  (NewReader_w hr hlen).mono fun e w' ⟨b, D, rv, h1, h2, h3, h4, h5⟩ => ⟨b, D, rv, h1, h.add (Fr.below h3) (rdC_good _ _ _ _) h2 (fun k hk => by
    simp [rdC] at hk
    rcases hk with rfl | hk
    · exact ⟨h4, h2.lt⟩
    · exact h5 k hk), h3⟩
end Go.Proofs.YtkcepkehgkkkbabGreatDoor

namespace Go.Proofs.YtkcepkehgkkkbabGreatDoor
open Go.RowKit
set_option linter.unusedVariables false

set_option maxHeartbeats 800000 in
set_option maxRecDepth 1000000 in
theorem Close_any {w : World} {b : Nat} {D : Option Nat} {rv : Value} {rs : List UInt8} {place : Nat} {err : Int} (h : Rd w b D rv rs place err) :
    Calls Tryz.prog 52 #[.pointer (some ⟨b, 0, none⟩)] w fun e w' => e = .returned (.int .i64 (if rs = [] then err else keepE err 15)) ∧ (∃ rv', Rd w' b D rv' [] place (if rs = [] then err else keepE err 15)) ∧ Only b w w' := by
  obtain ⟨ao, c, hf⟩ := h.reads.form
  subst hf
  have c0 : w.cell? ⟨b, 0, none⟩ = some (.slice ao rs.length c) := by rw [cell_at h.box]; rfl
  have c2 : w.cell? ⟨b, 2, none⟩ = some (.int .i64 err) := by rw [cell_at h.box]; rfl
  have HH : Hid _ := h
  clear h
  by_cases hrs : rs = []
  · subst hrs
    rw [if_pos rfl]
    go_enter Tryz.func52, Tryz.ntmps52
    go_wp2
    go_ret
    exact ⟨rfl, ⟨_, HH.out⟩, Only.refl _ _⟩
  · rw [if_neg hrs]
    have hl : 0 < rs.length := List.length_pos_iff.2 hrs
    clear hrs
    go_enter Tryz.func52, Tryz.ntmps52
    go_wp2_with fail
    refine (rfail_any HH.out 15 (by omega)).mono ?_
    rintro e w1 ⟨rfl, ⟨rv', h1⟩, h2⟩
    have H1 : Hid _ := h1
    have H2 : Hid _ := h2
    have d2 : w1.cell? ⟨b, 2, none⟩ = some (.int .i64 (keepE err 15)) := by rw [cell_at h1.box]; rfl
    clear h1 h2
    go_wp2
    go_ret
    exact ⟨rfl, ⟨_, H1.out⟩, H2.out⟩

theorem num_enc (n : Nat) (hn : n < 9223372036854775808) (rest : List UInt8) (pl : Nat) (err most : Int) (hm : (n : Int) ≤ most) : (⟨enc 9 n ++ rest, pl, err⟩ : Rst).numV most = n ∧ (⟨enc 9 n ++ rest, pl, err⟩ : Rst).num most = ⟨rest, pl + (enc 9 n).length, err⟩ := by
  have h := numR_enc n hn rest most 13 hm
  constructor
  · simp only [Rst.numV, h]
  · simp only [Rst.num, h, Rst.aft, aft]
    simp

theorem strB_self (s : ByteArray) : strB s.data.toList = s := by cases s; simp [strB]
theorem txt_enc (s : ByteArray) (most : Int) (hm : most < 9223372036854775808) (hs : (s.size : Int) ≤ most) (rest : List UInt8) (pl : Nat) (err : Int) : (⟨txtB s ++ rest, pl, err⟩ : Rst).txtV most = s ∧ (⟨txtB s ++ rest, pl, err⟩ : Rst).txt most = ⟨rest, pl + (txtB s).length, err⟩ := by
  have hl := str_len s
  have h := runR_enc s.data.toList rest (by omega) most (by omega)
  rw [hl, ← List.append_assoc] at h
  have ht : txtB s = enc 9 s.size ++ s.data.toList := rfl
  rw [← ht] at h
  have h3 : (txtB s).length = (enc 9 s.size).length + s.size := by rw [ht, List.length_append, hl]
  constructor
  · simp only [Rst.txtV, h]
    exact strB_self s
  · simp only [Rst.txt, h, Rst.aft, aft, if_true]
    simp only [Rst.mk.injEq, and_true]
    rw [← h3, List.drop_left]
    exact ⟨rfl, rfl⟩

theorem txt_enc64 (s : ByteArray) (hs : s.size ≤ 64) (rest : List UInt8) (pl : Nat) (err : Int) : (⟨(enc 9 s.size ++ s.data.toList) ++ rest, pl, err⟩ : Rst).txtV 64 = s ∧ (⟨(enc 9 s.size ++ s.data.toList) ++ rest, pl, err⟩ : Rst).txt 64 = ⟨rest, pl + ((enc 9 s.size).length + s.size), err⟩ := by
  have hl := str_len s
  have h := runR_enc s.data.toList rest (by omega) 64 (by omega)
  rw [hl, ← List.append_assoc] at h
  constructor
  · simp only [Rst.txtV, h]
    exact strB_self s
  · simp only [Rst.txt, h, Rst.aft, aft, if_true]
    simp only [Rst.mk.injEq, and_true]
    have : (enc 9 s.size ++ s.data.toList).length = (enc 9 s.size).length + s.size := by rw [List.length_append, hl]
    rw [← this, List.drop_left]

theorem textsB_drop {l : List ByteArray} {k : Nat} (hk : k < l.length) : textsB (l.drop k) = (enc 9 l[k].size ++ l[k].data.toList) ++ textsB (l.drop (k + 1)) := by
  rw [List.drop_eq_getElem_cons hk, textsB, List.flatMap_cons, ← textsB]

theorem items_enc (l : List ByteArray) (hl : ∀ t ∈ l, t.size ≤ 64) (rest : List UInt8) (pl : Nat) (err : Int) : ∀ k, k ≤ l.length → ∃ pl', (⟨textsB l ++ rest, pl, err⟩ : Rst).items k = (l.take k, ⟨textsB (l.drop k) ++ rest, pl', err⟩) := by
  intro k
  induction k with
  | zero => intro _; exact ⟨pl, by simp [Rst.items]⟩
  | succ k ih =>
    intro hk
    obtain ⟨pl', h⟩ := ih (by omega)
    have hk' : k < l.length := by omega
    have ht := txt_enc64 l[k] (hl _ (List.getElem_mem hk')) (textsB (l.drop (k + 1)) ++ rest) pl' err
    rw [← List.append_assoc, ← textsB_drop hk'] at ht
    refine ⟨pl' + ((enc 9 l[k].size).length + l[k].size), ?_⟩
    simp only [Rst.items, h]
    rw [ht.1, ht.2, List.take_succ_eq_append_getElem hk']

theorem fail_zero (r : Rst) : r.fail 0 = r := by rw [Rst.fail, if_pos rfl]

end Go.Proofs.YtkcepkehgkkkbabGreatDoor
