import Derived.Test.YtkcepkehgkkkbabGreatDoorJ41
namespace Go.Proofs.YtkcepkehgkkkbabGreatDoor
open Go.RowKit
set_option linter.unusedVariables false

theorem u8_inj {a b : Nat} (ha : a < 256) (hb : b < 256) (h : UInt8.ofNat a = UInt8.ofNat b) : a = b := by
  have := congrArg UInt8.toNat h
  simp at this
  omega
/-- A number's bytes end where they end. -/
theorem enc_pre (f : Nat) : ∀ {a b : Nat} {r r' : List UInt8}, a < 128 ^ (f + 1) → b < 128 ^ (f + 1) → enc f a ++ r = enc f b ++ r' → a = b ∧ r = r' := by
  induction f with
  | zero =>
    intro a b r r' ha hb h
    simp only [enc, List.cons_append, List.nil_append, List.cons.injEq] at h
    exact ⟨u8_inj (by omega) (by omega) h.1, h.2⟩
  | succ f ih =>
    intro a b r r' ha hb h
    have hp : 128 ^ (f + 1 + 1) = 128 ^ (f + 1) * 128 := by rw [Nat.pow_succ]
    rw [hp] at ha hb
    by_cases h1 : a < 128
    · by_cases h2 : b < 128
      · rw [enc_small _ _ h1, enc_small _ _ h2] at h
        simp only [List.cons_append, List.nil_append, List.cons.injEq] at h
        exact ⟨u8_inj (by omega) (by omega) h.1, h.2⟩
      · rw [enc_small _ _ h1, enc_step _ _ h2] at h
        simp only [List.cons_append, List.nil_append, List.cons.injEq] at h
        have := u8_inj (by omega) (by omega) h.1
        omega
    · by_cases h2 : b < 128
      · rw [enc_small _ _ h2, enc_step _ _ h1] at h
        simp only [List.cons_append, List.nil_append, List.cons.injEq] at h
        have := u8_inj (by omega) (by omega) h.1
        omega
      · rw [enc_step _ _ h1, enc_step _ _ h2] at h
        simp only [List.cons_append, List.cons.injEq] at h
        have e1 := u8_inj (by omega) (by omega) h.1
        obtain ⟨e2, e3⟩ := ih (a := a / 128) (b := b / 128) (by omega) (by omega) h.2
        exact ⟨by omega, e3⟩
theorem enc9 {a b : Nat} {r r' : List UInt8} (ha : a < 1152921504606846976) (hb : b < 1152921504606846976) (h : enc 9 a ++ r = enc 9 b ++ r') : a = b ∧ r = r' :=
  enc_pre 9 (Nat.lt_of_lt_of_le ha (by decide)) (Nat.lt_of_lt_of_le hb (by decide)) h
theorem list_pre {l l' r r' : List UInt8} (ha : l.length < 1152921504606846976) (hb : l'.length < 1152921504606846976) (h : (enc 9 l.length ++ l) ++ r = (enc 9 l'.length ++ l') ++ r') : l = l' ∧ r = r' := by
  rw [List.append_assoc, List.append_assoc] at h
  obtain ⟨e1, e2⟩ := enc9 ha hb h
  exact List.append_inj e2 e1
theorem text_pre {t t' : ByteArray} {r r' : List UInt8} (ha : t.size < 1152921504606846976) (hb : t'.size < 1152921504606846976) (h : (enc 9 t.size ++ t.data.toList) ++ r = (enc 9 t'.size ++ t'.data.toList) ++ r') : t = t' ∧ r = r' := by
  rw [← str_len t, ← str_len t'] at h
  obtain ⟨e1, e2⟩ := list_pre (by rw [str_len]; exact ha) (by rw [str_len]; exact hb) h
  refine ⟨?_, e2⟩
  cases t; cases t'
  simpa using e1
theorem texts_pre : ∀ {l l' : List ByteArray} {r r' : List UInt8}, l.length = l'.length → (∀ t ∈ l, t.size ≤ 64) → (∀ t ∈ l', t.size ≤ 64) → textsB l ++ r = textsB l' ++ r' → l = l' ∧ r = r'
  | [], [], r, r', _, _, _, h => ⟨rfl, by simpa [textsB] using h⟩
  | [], _ :: _, _, _, hl, _, _, _ => by simp at hl
  | _ :: _, [], _, _, hl, _, _, _ => by simp at hl
  | t :: l, t' :: l', r, r', hl, h1, h2, h => by
    have e1 : textsB (t :: l) ++ r = (enc 9 t.size ++ t.data.toList) ++ (textsB l ++ r) := by simp [textsB]
    have e2 : textsB (t' :: l') ++ r' = (enc 9 t'.size ++ t'.data.toList) ++ (textsB l' ++ r') := by simp [textsB]
    rw [e1, e2] at h
    have b1 := h1 t (by simp)
    have b2 := h2 t' (by simp)
    obtain ⟨rfl, h3⟩ := text_pre (by omega) (by omega) h
    obtain ⟨rfl, h4⟩ := texts_pre (by simpa using hl) (fun x hx => h1 x (by simp [hx])) (fun x hx => h2 x (by simp [hx])) h3
    exact ⟨rfl, h4⟩
/-- What holds of groups. -/
def OkG (gs : List Grp) : Prop := ∀ g ∈ gs, 0 < g.1.length ∧ g.1.length ≤ 16 ∧ ∃ c : Nat, g.2 = (c : Int) ∧ c ≤ 1099511627776
theorem groups_pre : ∀ {l l' : List Grp}, l.length = l'.length → OkG l → OkG l' → groupsB l = groupsB l' → l = l'
  | [], [], _, _, _, h => rfl
  | [], _ :: _, hl, _, _, _ => by simp at hl
  | _ :: _, [], hl, _, _, _ => by simp at hl
  | (x, c) :: l, (x', c') :: l', hl, h1, h2, h => by
    have e1 : groupsB ((x, c) :: l) = (enc 9 x.length ++ x) ++ (enc 9 c.toNat ++ groupsB l) := by simp [groupsB]
    have e2 : groupsB ((x', c') :: l') = (enc 9 x'.length ++ x') ++ (enc 9 c'.toNat ++ groupsB l') := by simp [groupsB]
    rw [e1, e2] at h
    obtain ⟨_, a2, n, a3, a4⟩ := h1 (x, c) (by simp)
    obtain ⟨_, b2, n', b3, b4⟩ := h2 (x', c') (by simp)
    simp only at a2 a3 b2 b3
    subst a3 b3
    obtain ⟨rfl, h3⟩ := list_pre (by omega) (by omega) h
    simp only [Int.toNat_natCast] at h3
    obtain ⟨rfl, h4⟩ := enc9 (by omega) (by omega) h3
    obtain rfl := groups_pre (by simpa using hl) (fun g hg => h1 g (by simp [hg])) (fun g hg => h2 g (by simp [hg])) h4
    rfl
/-- A slot's bytes tell the queue. -/
theorem slot_inj {nm nm' : ByteArray} {f f' : Nat} {l l' : List ByteArray} {gs gs' : List Grp} (a1 : nm.size ≤ 16) (a2 : nm'.size ≤ 16) (b1 : f ≤ 1099511627776) (b2 : f' ≤ 1099511627776) (c1 : l.length ≤ 32) (c2 : l'.length ≤ 32) (d1 : ∀ t ∈ l, t.size ≤ 64) (d2 : ∀ t ∈ l', t.size ≤ 64) (e1 : gs.length ≤ 12) (e2 : gs'.length ≤ 12) (g1 : OkG gs) (g2 : OkG gs') (h : slotB nm f l gs = slotB nm' f' l' gs') : nm = nm' ∧ f = f' ∧ l = l' ∧ gs = gs' := by
  unfold slotB at h
  obtain ⟨x1, h2⟩ := text_pre (t := nm) (t' := nm') (by omega) (by omega) h
  obtain ⟨x2, h3⟩ := enc9 (a := f) (b := f') (by omega) (by omega) h2
  unfold itemsB at h3
  rw [List.append_assoc, List.append_assoc] at h3
  obtain ⟨hl, h4⟩ := enc9 (a := l.length) (b := l'.length) (by omega) (by omega) h3
  obtain ⟨x3, h5⟩ := texts_pre hl d1 d2 h4
  obtain ⟨hl2, h6⟩ := enc9 (a := gs.length) (b := gs'.length) (by omega) (by omega) h5
  exact ⟨x1, x2, x3, groups_pre hl2 g1 g2 h6⟩

theorem enc1 {n : Nat} (h : n < 128) : (enc 9 n).length = 1 := by rw [enc_small _ _ h]; rfl
theorem enc_bits (f : Nat) : ∀ (j n : Nat), n < 128 ^ (j + 1) → (enc f n).length ≤ j + 1 := by
  induction f with
  | zero => intro j n _; simp [enc]
  | succ f ih =>
    intro j n hn
    by_cases h : n < 128
    · rw [enc_small _ _ h]; simp
    · rw [enc_step _ _ h]
      cases j with
      | zero => simp at hn; omega
      | succ j =>
        have hp : 128 ^ (j + 1 + 1) = 128 ^ (j + 1) * 128 := by rw [Nat.pow_succ]
        have := ih j (n / 128) (by rw [hp] at hn; omega)
        simp only [List.length_cons]
        omega
theorem enc6 {n : Nat} (h : n ≤ 1099511627776) : (enc 9 n).length ≤ 6 := enc_bits 9 5 n (Nat.lt_of_le_of_lt h (by decide))
theorem texts_len {l : List ByteArray} (d : ∀ t ∈ l, t.size ≤ 64) : (textsB l).length ≤ l.length * 65 := by
  induction l with
  | nil => simp [textsB]
  | cons t l ih =>
    have h1 := ih (fun x hx => d x (by simp [hx]))
    have h2 := d t (by simp)
    have h3 := enc1 (n := t.size) (by omega)
    have e : textsB (t :: l) = (enc 9 t.size ++ t.data.toList) ++ textsB l := by simp [textsB]
    rw [e, List.length_append, List.length_append, h3, str_len, List.length_cons]
    omega
theorem groups_len {gs : List Grp} (g : OkG gs) : (groupsB gs).length ≤ gs.length * 23 := by
  induction gs with
  | nil => simp [groupsB]
  | cons x gs ih =>
    have h1 := ih (fun y hy => g y (by simp [hy]))
    obtain ⟨_, h2, c, hc, h4⟩ := g x (by simp)
    have h3 := enc1 (n := x.1.length) (by omega)
    have h5 := enc6 h4
    have e : groupsB (x :: gs) = ((enc 9 x.1.length ++ x.1) ++ enc 9 x.2.toNat) ++ groupsB gs := by simp [groupsB]
    have hn : x.2.toNat = c := by rw [hc]; simp
    rw [e, hn, List.length_append, List.length_append, List.length_append, h3, List.length_cons]
    omega
theorem slot_len {nm : ByteArray} {f : Nat} {l : List ByteArray} {gs : List Grp} (a : nm.size ≤ 16) (b : f ≤ 1099511627776) (c : l.length ≤ 32) (d : ∀ t ∈ l, t.size ≤ 64) (e : gs.length ≤ 4) (g : OkG gs) : (slotB nm f l gs).length ≤ 2197 := by
  have h1 := enc1 (n := nm.size) (by omega)
  have h2 := enc6 b
  have h3 := enc1 (n := l.length) (by omega)
  have h4 := texts_len d
  have h5 := enc1 (n := gs.length) (by omega)
  have h6 := groups_len g
  simp only [slotB, itemsB, List.length_append, h1, h3, h5, str_len]
  omega
theorem slot_pos {nm : ByteArray} {f : Nat} {l : List ByteArray} {gs : List Grp} (a : nm.size ≤ 16) : slotB nm f l gs ≠ [] := by
  intro h
  have h1 := enc1 (n := nm.size) (by omega)
  have := congrArg List.length h
  simp only [slotB, List.length_append, h1, List.length_nil] at this
  omega
end Go.Proofs.YtkcepkehgkkkbabGreatDoor
