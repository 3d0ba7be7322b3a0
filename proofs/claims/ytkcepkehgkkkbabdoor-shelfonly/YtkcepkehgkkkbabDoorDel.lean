import Derived.Test.YtkcepkehgkkkbabDoorTake2
import Derived.Test.YtkcepkehgkkkbabDoorJ18
import Derived.Test.YtkcepkehgkkkbabDoorMapL
import Derived.Test.YtkcepkehgkkkbabDoorDLay
import Derived.Sort.OwnSorted
namespace Go.Proofs.YtkcepkehgkkkbabDoor
open Go.RowKit Go.Sort
open Go.Maps (Keyed)
set_option linter.unusedVariables false

/-- Texts as lists of bytes. -/
def rawT (l : List ByteArray) : List (List UInt8) := l.map fun t : ByteArray => t.data.toList
theorem rawT_length (l : List ByteArray) : (rawT l).length = l.length := by simp [rawT]
theorem rawT_drop (l : List ByteArray) (j : Nat) : (rawT l).drop j = rawT (l.drop j) := by simp [rawT, List.map_drop]
theorem txtV_enc (l : List ByteArray) : txtV l = (rawT l).map Go.Proofs.encStr := by
  rw [rawT, List.map_map]
  apply List.map_congr_left
  intro t _
  rfl
theorem txtV_ofB (l : List (List UInt8)) : l.map Go.Proofs.encStr = txtV (l.map strB) := by
  rw [txtV, List.map_map]
  apply List.map_congr_left
  intro t _
  rfl
theorem txtV_length (l : List ByteArray) : (txtV l).length = l.length := by simp [txtV]

/-- The items ahead go. -/
theorem del_own {v : Value} {items : List ByteArray} {cs : List Comp} {w : World} {j : Nat} (h : All (ownC 9 v (txtV items) :: cs) w) (h0 : 0 < j) (hj : j ≤ items.length) :
    Calls Tryd.prog 59 #[v, .int .i64 0, .int .i64 (j : Int)] w fun e w' => ∃ so sc, e = .returned (.slice so (items.length - j) sc) ∧ All (ownC 9 (.slice so (items.length - j) sc) (txtV (items.drop j)) :: cs) w' := by
  have ho : w.ownsRow 0 9 1 v (txtV items).length (txtV items) := h.1.2.1
  rcases ho.2 with ⟨rfl, e⟩ | ⟨g, cap, cur, rfl, hg0, hg, hn, hm, hcs, ht⟩
  · rw [txtV_length] at e
    omega
  · rw [txtV_length] at hn ht
    have hglt := (Array.getElem?_eq_some_iff.1 hg).1
    have hl := rawT_length items
    have ht' : cur.toList.take (rawT items).length = (rawT items).map Go.Proofs.encStr := by rw [hl, ← txtV_enc]; simpa using ht
    have hcap : cap ≤ 9223372036854775807 := by unfold maxLen at hm; omega
    have C := Any.slices_Delete_string Tryd.lays24 g 0 cap 0 j (rawT items) w (holds_of_block hg ht') (by omega) hcap (Nat.zero_le _) (by omega)
    rw [hl] at C
    have C2 : Calls Tryd.prog 59 #[.slice (some ⟨g, 0, none⟩) items.length cap, .int .i64 0, .int .i64 (j : Int)] w _ := C
    rw [txtV_length]
    refine C2.mono ?_
    rintro e w' ⟨he, q, rfl⟩
    refine ⟨_, _, by simpa using he, ?_⟩
    simp only [List.take_zero, List.nil_append, Nat.sub_zero]
    have hlen : ((rawT items).drop j ++ List.replicate j []).length = (rawT items).length := by rw [List.length_append, List.length_drop, List.length_replicate]; omega
    have how := ownsRow_sorted (n := q) (os := #[]) (w := w) hlen (Nat.zero_le g) hg (by omega) hm (by omega)
    have hgr : w.grownBy _ (some g) := grownBy_sorted (n := q) (os := #[]) (w := w) (g := g) ((rawT items).drop j ++ List.replicate j []).toArray
    have egrow : ∀ x : World, grow x #[] = x := fun x => by simp [grow]
    rw [egrow] at how hgr
    have how2 : (putRow Go.Proofs.encStr (Sort.ahead w q) g 0 ((rawT items).drop j ++ List.replicate j []).toArray).ownsRow 0 9 1 (.slice (some ⟨g, 0, none⟩) (items.length - j) cap) (txtV (items.drop j)).length (txtV (items.drop j)) := by
      rcases how.2 with ⟨e1, _⟩ | ⟨g', cap', cur', e1, k1, k2, k3, k4, k5, k6⟩
      · cases e1
      · simp only [Value.slice.injEq, Option.some.injEq, Addr.mk.injEq, and_true] at e1
        obtain ⟨rfl, _, rfl⟩ := e1
        have hd : (txtV (items.drop j)).length = items.length - j := by rw [txtV_length, List.length_drop]
        refine ⟨by omega, Or.inr ⟨g, cap, cur', by rw [hd], k1, k2, by omega, k4, k5, ?_⟩⟩
        have k7 := congrArg (List.take (items.length - j)) k6
        rw [hl, List.take_take, Nat.min_eq_left (by omega)] at k7
        rw [hd, Nat.mul_one, k7, List.map_append, rawT_drop, ← txtV_enc, List.take_append_of_le_length (by rw [hd]; omega), List.take_of_length_le (by rw [hd]; omega)]
    refine h.ownGrow (base := 0) how2 (by simpa [Value.ownBlock] using hgr) (Or.inl rfl)

/-- The groups on their way: those that were told have risen. -/
structure TrimR (D0 : DataW Unit) (below : Int) (left : Lit → Bool) (Dr : DataW Unit) : Prop where
  has : ∀ kl, Maps.has Dr kl = Maps.has D0 kl
  val : ∀ kl, Maps.has D0 kl = true → leftD Dr kl = if left kl then leftD D0 kl else max (leftD D0 kl) below
  lt : ∀ kl, left kl = true → Maps.has D0 kl = true
  size : Maps.size Dr = Maps.size D0
theorem TrimR.start (D : DataW Unit) (below : Int) : TrimR D below (Maps.has D) D := ⟨fun _ => rfl, fun kl h => by rw [if_pos h], fun _ h => h, rfl⟩
theorem leftD_put_same {D : DataW Unit} {kl : Lit} (hD : Maps.IsMap D) (hk : WideAt.IsKeyLit kl) (q : IntKind) (c : Int) : leftD (D.put kl (.lit (.int q c))) kl = c := by
  unfold leftD; rw [Maps.atKey_put_same hD hk]
theorem leftD_put_other {D : DataW Unit} {kl x : Lit} (h : x ≠ kl) (d : DataW Unit) : leftD (D.put kl d) x = leftD D x := by
  unfold leftD; rw [Maps.atKey_put_other h]
theorem TrimR.next {D0 Dr : DataW Unit} {below : Int} {left : Lit → Bool} (h : TrimR D0 below left Dr) (ht : Maps.Tidy Dr) {kl : Lit} (hk : WideAt.IsKeyLit kl) (hl : left kl = true) : TrimR D0 below (fun x => left x && !x.sameKey kl) (Dr.put kl (.lit (.int .i64 (max (leftD D0 kl) below)))) := by
  have hhas : Maps.has Dr kl = true := by rw [h.has]; exact h.lt kl hl
  refine ⟨fun x => ?_, fun x hx => ?_, fun x hx => h.lt x (by simp at hx; exact hx.1), ?_⟩
  · by_cases e : x = kl
    · subst e
      rw [Maps.has_put_same ht.isMap hk, h.lt x hl]
    · rw [Maps.has_put_other e]; exact h.has x
  · by_cases e : x = kl
    · subst e
      rw [leftD_put_same ht.isMap hk]
      simp only [has_struck hk]
      simp
    · rw [leftD_put_other e]
      simp only [left_struck e]
      exact h.val x hx
  · rw [Maps.size_put ht, if_pos hhas]
    exact h.size
end Go.Proofs.YtkcepkehgkkkbabDoor
