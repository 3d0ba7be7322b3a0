import Derived.Test.YtdndfbgjaadbmaaBytes
import Derived.Test.YtdndfbgjaadbmaaShown
namespace Go.Proofs.Ytdndfbgjaadbmaa
open Go.RowKit
set_option linter.unusedVariables false

/-- An item of the law. -/
structure It where
  kind : Int
  n : Int
  v : Bool
  s : ByteArray

/-- An item's cells. -/
def It.cells (i : It) : List Value := [.int .i64 i.kind, .int .i64 i.n, .bool i.v, .string i.s]

/-- Within an int's range. -/
def It.Ok (i : It) : Prop := (-9223372036854775808 ≤ i.kind ∧ i.kind < 9223372036854775808) ∧ (-9223372036854775808 ≤ i.n ∧ i.n < 9223372036854775808)

/-- One that can be written. -/
def rightI (i : It) : It :=
  let k := if i.kind < 1 ∨ 5 < i.kind then 3 else i.kind
  { i with kind := k, n := if k = 1 ∧ i.n < 0 then -(i.n + 1) else i.n }

set_option maxHeartbeats 1600000 in
set_option maxRecDepth 1000000 in
theorem right_any (i : It) (hi : i.Ok) (w : World) :
    Calls Try.prog 30 #[.agg #[.int .i64 i.kind, .int .i64 i.n, .bool i.v, .string i.s]] w fun e w' => e = .returned (.agg #[.int .i64 (rightI i).kind, .int .i64 (rightI i).n, .bool (rightI i).v, .string (rightI i).s]) ∧ Below w.heap.size w w' := by
  obtain ⟨k, n, v, s⟩ := i
  obtain ⟨⟨hk1, hk2⟩, hn1, hn2⟩ := hi
  simp only at hk1 hk2 hn1 hn2 ⊢
  by_cases h1 : k < 1 ∨ 5 < k
  · have F : Hid (rightI ⟨k, n, v, s⟩ = ⟨3, n, v, s⟩) := by simp [rightI, h1, Hid]
    rcases h1 with h1 | h1
    · clear hk1 hk2 hn1 hn2
      go_enter Try.func30, Try.ntmps30
      go_wp2
      refine bodyPost_ret (v := .agg #[.int .i64 3, .int .i64 n, .bool v, .string s]) (by simp [results, Try.results30, go_sem]) rfl ⟨by rw [F.out], ((Below.refl _ _).alloc (Nat.le_refl _) _).alloc (by simp) _⟩
    · clear hk1 hk2 hn1 hn2
      go_enter Try.func30, Try.ntmps30
      go_wp2
      refine bodyPost_ret (v := .agg #[.int .i64 3, .int .i64 n, .bool v, .string s]) (by simp [results, Try.results30, go_sem]) rfl ⟨by rw [F.out], ((Below.refl _ _).alloc (Nat.le_refl _) _).alloc (by simp) _⟩
  · have h2 : 1 ≤ k := by omega
    have h3 : k ≤ 5 := by omega
    by_cases h4 : k = 1
    · subst h4
      by_cases h5 : n < 0
      · have F : Hid (rightI ⟨1, n, v, s⟩ = ⟨1, -(n + 1), v, s⟩) := by simp [rightI, h5, Hid]
        have e1 : (0 : Int) - (n + 1) = -(n + 1) := by omega
        clear h1 h2 h3 hk1 hk2 hn2
        go_enter Try.func30, Try.ntmps30
        go_wp2
        refine bodyPost_ret (v := .agg #[.int .i64 1, .int .i64 (-(n + 1)), .bool v, .string s]) (by simp [results, Try.results30, go_sem]) rfl ⟨by rw [F.out], ((Below.refl _ _).alloc (Nat.le_refl _) _).alloc (by simp) _⟩
      · have F : Hid (rightI ⟨1, n, v, s⟩ = ⟨1, n, v, s⟩) := by simp [rightI, h5, Hid]
        clear h1 h2 h3 hk1 hk2 hn1 hn2
        go_enter Try.func30, Try.ntmps30
        go_wp2
        refine bodyPost_ret (v := .agg #[.int .i64 1, .int .i64 n, .bool v, .string s]) (by simp [results, Try.results30, go_sem]) rfl ⟨by rw [F.out], ((Below.refl _ _).alloc (Nat.le_refl _) _).alloc (by simp) _⟩
    · have F : Hid (rightI ⟨k, n, v, s⟩ = ⟨k, n, v, s⟩) := by simp [rightI, h1, h4, Hid]
      have hb : (k == 1) = false := by simpa using h4
      clear h1 h4 hk1 hk2 hn1 hn2
      go_enter Try.func30, Try.ntmps30
      go_wp2
      refine bodyPost_ret (v := .agg #[.int .i64 k, .int .i64 n, .bool v, .string s]) (by simp [results, Try.results30, go_sem]) rfl ⟨by rw [F.out], ((Below.refl _ _).alloc (Nat.le_refl _) _).alloc (by simp) _⟩

theorem rightI_ok (i : It) (hi : i.Ok) : (rightI i).Ok ∧ (1 ≤ (rightI i).kind ∧ (rightI i).kind ≤ 5) ∧ ((rightI i).kind = 1 → 0 ≤ (rightI i).n) ∧ (rightI i).s = i.s := by
  obtain ⟨k, n, v, s⟩ := i
  obtain ⟨⟨hk1, hk2⟩, hn1, hn2⟩ := hi
  simp only at hk1 hk2 hn1 hn2
  by_cases h1 : k < 1 ∨ 5 < k
  · simp [rightI, h1, It.Ok]; omega
  · by_cases h2 : k = 1 ∧ n < 0
    · simp [rightI, h2, It.Ok]; omega
    · simp [rightI, h1, h2, It.Ok]; omega

/-- Items in memory. -/
def ItemsAt (w : World) (s : Value) (its : List It) : Prop :=
  ∃ ao c, s = .slice ao its.length c ∧ (its = [] ∨ ∃ g o, ao = some ⟨g, o, none⟩ ∧ g < w.heap.size ∧ ∀ i x, its[i]? = some x → w.cell? ⟨g, o + i * 4, none⟩ = some (.int .i64 x.kind) ∧ w.cell? ⟨g, o + i * 4 + 1, none⟩ = some (.int .i64 x.n) ∧ w.cell? ⟨g, o + i * 4 + 2, none⟩ = some (.bool x.v) ∧ w.cell? ⟨g, o + i * 4 + 3, none⟩ = some (.string x.s))

theorem ItemsAt.below {w w' : World} {s : Value} {its : List It} (h : ItemsAt w s its) (hw : Below w.heap.size w w') : ItemsAt w' s its := by
  obtain ⟨ao, c, rfl, hcase⟩ := h
  refine ⟨ao, c, rfl, ?_⟩
  rcases hcase with hn | ⟨g, o, rfl, hg, hcell⟩
  · exact Or.inl hn
  · refine Or.inr ⟨g, o, rfl, Nat.lt_of_lt_of_le hg hw.size, fun i x hx => ?_⟩
    have := hcell i x hx
    rw [hw.cell (p := ⟨g, o + i * 4, none⟩) hg, hw.cell (p := ⟨g, o + i * 4 + 1, none⟩) hg, hw.cell (p := ⟨g, o + i * 4 + 2, none⟩) hg, hw.cell (p := ⟨g, o + i * 4 + 3, none⟩) hg]
    exact this

/-- What an item is written as. -/
def encI (i : It) : List UInt8 :=
  if i.kind = 1 then enc 9 i.n.toNat else if i.kind = 2 then enc 9 (foldN i.n) else if i.kind = 3 then [if i.v then 1 else 0] else enc 9 i.s.size ++ i.s.data.toList

def encAll (l : List It) : List UInt8 := l.flatMap encI

/-- A bound of what items are written as. -/
def sizeI (l : List It) : Nat := (l.map fun i => i.s.size + 10).sum

theorem encI_len (i : It) : (encI i).length ≤ i.s.size + 10 := by
  unfold encI
  have h := fun n => enc_len 9 n
  have e : i.s.data.toList.length = i.s.size := rfl
  split
  · have := h i.n.toNat; omega
  · split
    · have := h (foldN i.n); omega
    · split
      · simp
      · have := h i.s.size
        rw [List.length_append]
        omega

theorem encAll_len (l : List It) : (encAll l).length ≤ sizeI l := by
  induction l with
  | nil => simp [encAll, sizeI]
  | cons i r ih =>
    have := encI_len i
    simp only [encAll, sizeI, List.flatMap_cons, List.length_append, List.map_cons, List.sum_cons] at ih ⊢
    omega

theorem sizeI_take (l : List It) (k : Nat) : sizeI (l.take k) ≤ sizeI l := by
  induction l generalizing k with
  | nil => simp
  | cons i r ih =>
    cases k with
    | zero => simp [sizeI]
    | succ k =>
      have := ih k
      simp only [sizeI, List.take_succ_cons, List.map_cons, List.sum_cons] at this ⊢
      omega

theorem sizeI_ge (l : List It) : 10 * l.length ≤ sizeI l := by
  induction l with
  | nil => simp
  | cons i r ih =>
    simp only [sizeI, List.map_cons, List.sum_cons, List.length_cons] at ih ⊢
    omega

theorem sizeI_mem (l : List It) (x : It) (h : x ∈ l) : x.s.size ≤ sizeI l := by
  induction l with
  | nil => cases h
  | cons i r ih =>
    simp only [sizeI, List.map_cons, List.sum_cons] at ih ⊢
    rcases List.mem_cons.1 h with rfl | h
    · omega
    · have := ih h; omega

theorem sizeI_right (l : List It) (h : ∀ x ∈ l, x.Ok) : sizeI (l.map rightI) = sizeI l := by
  induction l with
  | nil => rfl
  | cons i r ih =>
    have h1 := (rightI_ok i (h i (by simp))).2.2.2
    have h2 := ih (fun x hx => h x (by simp [hx]))
    simp only [sizeI, List.map_cons, List.sum_cons, h1] at h2 ⊢
    omega

/-- Where the first k items end. -/
def endsN (js : List It) (k : Nat) : List Int := (List.range k).map fun i => ((encAll (js.take (i + 1))).length : Int)

theorem endsN_succ (js : List It) (k : Nat) : endsN js (k + 1) = endsN js k ++ [((encAll (js.take (k + 1))).length : Int)] := by simp [endsN, List.range_succ]
theorem endsN_length (js : List It) (k : Nat) : (endsN js k).length = k := by simp [endsN]

theorem encAll_succ (js : List It) (k : Nat) (x : It) (h : js[k]? = some x) : encAll (js.take (k + 1)) = encAll (js.take k) ++ encI x := by
  obtain ⟨hk, rfl⟩ := List.getElem?_eq_some_iff.1 h
  unfold encAll
  rw [List.take_succ_eq_append_getElem hk, List.flatMap_append, List.flatMap_cons, List.flatMap_nil, List.append_nil]

end Go.Proofs.Ytdndfbgjaadbmaa
