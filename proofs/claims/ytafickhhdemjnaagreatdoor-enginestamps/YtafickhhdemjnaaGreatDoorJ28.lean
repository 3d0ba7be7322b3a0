import Derived.Test.YtafickhhdemjnaaGreatDoorJ27
import Derived.Test.YtafickhhdemjnaaGreatDoorEh4
namespace Go.Proofs.YtafickhhdemjnaaGreatDoor
open Go.RowKit
set_option linter.unusedVariables false
set_option maxRecDepth 100000

theorem putS_other {n : Nat} {T : Sheets} {num a : Int} {l : List UInt8} {i : Nat} (h : i ≠ num.toNat) : putS n T num a l i = T i := by
  unfold putS
  split
  · simp [setS, h]
  · rfl
theorem putS_le {n : Nat} {T : Sheets} {num a : Int} {l : List UInt8} {b : Nat} (h : ∀ i, (T i).1 ≤ b) (ha : a.toNat ≤ b) (i : Nat) : (putS n T num a l i).1 ≤ b := by
  unfold putS
  split
  · unfold setS
    split
    · exact ha
    · exact h i
  · exact h i
theorem putS_there {n : Nat} {T : Sheets} {num a : Int} {l : List UInt8} (h0 : putE n T num a l = 0) (h : (T num.toNat).2 ≠ l) : putS n T num a l num.toNat = (a.toNat, l) := by
  unfold putS
  rw [if_pos ⟨h0, h⟩]
  simp [setS]
theorem lastS_le {T : Sheets} {n b : Nat} (h : ∀ i, (T i).1 ≤ b) : lastS T n ≤ b := by
  unfold lastS
  rcases mx_ex T 0 n with e | ⟨i, _, e⟩
  · omega
  · have := h (0 + i)
    omega
/-- What holds of an engine's sheets. -/
structure EM.Inv (e : EM) : Prop where
  st : ∀ i, (e.T i).1 ≤ e.op
  kst : ∀ i, (e.K i).1 ≤ e.kop
  le : e.kop ≤ e.op
  eq : e.kop = e.op → e.K = e.T
  row : ∀ (i : Nat) (p : Pl), e.ps[i]? = some p → (p.on = true ∧ e.T (8 + i) = (p.a.toNat, rowB p.n p.a p.c p.k p.l)) ∨ (p.on = false ∧ e.T (8 + i) = (0, []))
theorem EM.zero_inv (ev : Nat) : (EM.zero ev).Inv := ⟨fun i => Nat.le_refl _, fun i => Nat.le_refl _, Nat.le_refl _, fun _ => rfl, fun i p h => by
  have : p = .zero := (List.mem_replicate.1 (List.mem_of_getElem? (show (List.replicate 8 Pl.zero)[i]? = some p from h))).2
  subst this
  exact Or.inr ⟨rfl, rfl⟩⟩
theorem EM.up_inv {e : EM} (hI : e.Inv) {T' : Sheets} {S' : St} {ps' : List Pl} (h1 : ∀ i, (T' i).1 ≤ e.op + 1) (h2 : ∀ (i : Nat) (p : Pl), ps'[i]? = some p → (p.on = true ∧ T' (8 + i) = (p.a.toNat, rowB p.n p.a p.c p.k p.l)) ∨ (p.on = false ∧ T' (8 + i) = (0, []))) : (e.up T' S' ps').Inv := by
  have hl := hI.le
  by_cases hd : (e.op + 1) % e.ev = 0
  · exact ⟨h1, by simpa [EM.up, hd] using h1, by simp [EM.up, hd], fun _ => by simp [EM.up, hd], h2⟩
  · exact ⟨h1, by simpa [EM.up, hd] using hI.kst, by simp [EM.up, hd]; omega, fun h => by simp [EM.up, hd] at h; omega, h2⟩
theorem ApE.inv {N N' : Nat} {e e' : EM} {a a' : EX} {c q k : Int} {nm tx : ByteArray} {n m x y : Int} {items : List ByteArray} {fr : Bool} {er : Int} (hI : e.Inv) (hO : e.Ok N a) (hO' : e'.Ok N' a') (h : ApE e c q k nm tx n m e' x y items fr er) : e'.Inv := by
  cases h with
  | bad h => exact hI
  | fin h ho => exact hI
  | ok h ho hc hi hp hA =>
    rename_i i p T' S' ps'
    have hst : ∀ i, (e.T i).1 ≤ e.op + 1 := fun i => Nat.le_succ_of_le (hI.st i)
    cases hA with
    | same h => exact EM.up_inv hI hst hI.row
    | old h => exact EM.up_inv hI hst hI.row
    | new h2 s' hD =>
      rename_i j
      have hq : 1 ≤ q ∧ q ≤ 1099511627776 := by
        simp only [mayT, decide_eq_true_eq] at h
        exact ⟨h.2.2.1, h.2.2.2.1⟩
      have hj := deed_range hO.sh hD
      have hlen := hO.len
      have hset : (e.ps.set i ⟨true, q, ((e.op + 1 : Nat) : Int), x, y, s', items⟩)[i]? = some ⟨true, q, ((e.op + 1 : Nat) : Int), x, y, s', items⟩ := List.getElem?_set_self (by omega)
      have hok := (hO'.pok _ (List.mem_of_getElem? hset)).1
      have hmay := Pl.onM hok rfl
      have hrl := rowB_len hmay
      have hnum : (8 + (i : Int)).toNat = 8 + i := by omega
      have hpj : ∀ k, 8 ≤ k → putJ e.T S' j (e.op + 1) k = e.T k := fun k hk => by
        unfold putJ
        split
        · exact putS_other (by omega)
        · rfl
      have hst2 : ∀ k, (putJ e.T S' j (e.op + 1) k).1 ≤ e.op + 1 := fun k => by
        unfold putJ
        split
        · exact putS_le hst (by omega) k
        · exact hst k
      have hE : putE 16 (putJ e.T S' j (e.op + 1)) (8 + (i : Int)) ((e.op + 1 : Nat) : Int) (rowB q ((e.op + 1 : Nat) : Int) x y items) = 0 := by
        have hls := lastS_le (n := 16) hst2
        unfold putE
        rw [if_neg (by omega), if_neg (by omega), if_neg (by simp only at hrl; omega)]
      refine EM.up_inv hI (fun k => putS_le hst2 (by omega) k) (fun i' p' hp' => ?_)
      by_cases hi' : i' = i
      · subst hi'
        rw [hset] at hp'
        obtain rfl := Option.some.inj hp'
        left
        refine ⟨rfl, ?_⟩
        have := putS_there hE ?_
        · rw [hnum] at this
          exact this
        · rw [hnum, hpj _ (by omega)]
          rcases hI.row _ _ hp with ⟨ho1, hr⟩ | ⟨ho1, hr⟩
          · rw [hr]
            intro he
            have hpo := (hO.pok p (List.mem_of_getElem? hp)).1
            have hm2 := may_parts (Pl.onM hpo ho1)
            have := (enc_pre 9 (a := p.n.toNat) (b := q.toNat) (by have := hm2.2.1; omega) (by omega) he).1
            omega
          · rw [hr]
            intro he
            have h0 := hrl.1
            simp only at h0
            rw [← he] at h0
            simp at h0
      · rw [putS_other (by omega), hpj _ (by omega)]
        rw [List.getElem?_set_ne (by omega)] at hp'
        exact hI.row _ _ hp'
end Go.Proofs.YtafickhhdemjnaaGreatDoor

namespace Go.Proofs.YtafickhhdemjnaaGreatDoor
open Go.RowKit
set_option linter.unusedVariables false
set_option maxRecDepth 100000

theorem EM.mid {X : Nat} {e : EM} {a : EX} {xs zs cs : List Comp} {w : World} (h : All (e.L X a (xs ++ (zs ++ cs))) w) : All (e.L X a (xs ++ cs)) w := by
  rw [EM.L_app] at h ⊢
  refine All.dropA zs (h.perm ?_)
  have : ((e.L X a [] ++ xs) ++ zs ++ cs).Perm (zs ++ (e.L X a [] ++ xs) ++ cs) := List.perm_append_comm.append_right _
  simpa only [List.append_assoc] using this
theorem shs_mem {T : Sheets} {a : Nat} {k : Nat × Nat × List UInt8} (h : k ∈ shs T a) : k.1 < 16 ∧ a < k.2.1 ∧ T k.1 = k.2 := by
  obtain ⟨i, hi, h⟩ := List.mem_filterMap.1 h
  split at h
  · rename_i hlt
    obtain rfl := Option.some.inj h
    exact ⟨List.mem_range.1 hi, hlt, rfl⟩
  · cases h
theorem shs_rise (T : Sheets) (a : Nat) : (shs T a).Pairwise (fun p q => p.1 < q.1) := by
  unfold shs newS
  rw [List.pairwise_filterMap]
  refine List.pairwise_lt_range.imp ?_
  intro i j hij p hp q hq
  split at hp <;> split at hq <;> simp_all
  subst hp hq
  exact hij
theorem shs_none {T : Sheets} {a : Nat} (h : ∀ i, (T i).1 ≤ a) : shs T a = [] := newS_nil (fun i _ => h i)
theorem ApE.keepK {e e' : EM} {c q k : Int} {nm tx : ByteArray} {n m x y : Int} {items : List ByteArray} {fr : Bool} {er : Int} (h : ApE e c q k nm tx n m e' x y items fr er) (hne : e'.kop ≠ e'.op) : e'.K = e.K := by
  cases h with
  | bad h => rfl
  | fin h ho => rfl
  | ok h ho hc hi hp hA =>
    by_cases hd : (e.op + 1) % e.ev = 0
    · exact absurd (by simp [EM.up, hd]) hne
    · simp [EM.up, hd]
/-- What the law asks of a sheet. -/
theorem sheet_ok {N : Nat} {e : EM} {a : EX} (hI : e.Inv) (hO : e.Ok N a) {ys : List Xs} (hys : ys.map Xs.key = shs e.T 0) {k : Nat} {y : Xs} (hy : ys[k]? = some y) : y.num < 16 ∧ 1 ≤ y.at_ ∧ y.at_ ≤ e.op ∧ y.bs.length ≤ 2304 ∧ (8 ≤ y.num → ∃ p, e.ps[y.num - 8]? = some p ∧ p.on = true ∧ p.a = (y.at_ : Int)) ∧ ∀ z, ys[k + 1]? = some z → y.num < z.num := by
  have hm : y.key ∈ shs e.T 0 := by rw [← hys]; exact List.mem_map_of_mem (List.mem_of_getElem? hy)
  obtain ⟨h1, h2, h3⟩ := shs_mem hm
  simp only [Xs.key] at h1 h2 h3
  have hst := hI.st y.num
  have hcap := (hO.bt.cap y.num).2
  rw [h3] at hst hcap
  refine ⟨h1, h2, hst, hcap, fun h8 => ?_, fun z hz => ?_⟩
  · have hlen := hO.len
    obtain ⟨p, hp⟩ : ∃ p, e.ps[y.num - 8]? = some p := ⟨e.ps[y.num - 8]'(by omega), List.getElem?_eq_getElem _⟩
    refine ⟨p, hp, ?_⟩
    have e8 : 8 + (y.num - 8) = y.num := by omega
    rcases hI.row _ _ hp with ⟨ho, hr⟩ | ⟨ho, hr⟩
    · rw [e8, h3] at hr
      have := congrArg Prod.fst hr
      simp only at this
      exact ⟨ho, by omega⟩
    · rw [e8, h3] at hr
      have := congrArg Prod.fst hr
      simp only at this
      omega
  · have hr := shs_rise e.T 0
    rw [← hys, List.pairwise_iff_getElem] at hr
    have hk := (List.getElem?_eq_some_iff.1 hy)
    have hk1 := (List.getElem?_eq_some_iff.1 hz)
    obtain ⟨b1, b2⟩ := hk
    obtain ⟨b3, b4⟩ := hk1
    have := hr k (k + 1) (by simpa using b1) (by simpa using b3) (by omega)
    simpa [b2, b4, Xs.key] using this
theorem row_len {w : World} {v : Value} {ys : List Xs} {cs : List Comp} (h : All cs w) (hr : rowC 78 3 v ys.length (flatX ys) ∈ cs) : ∃ ao c, v = .slice ao ys.length c := owns_form (h.mem hr).2.1
/-- A sheet of a list, its cells. -/
theorem row_cell {w : World} {ao : Option Addr} {c : Nat} {ys : List Xs} {cs : List Comp} (h : All cs w) (hr : rowC 78 3 (.slice ao ys.length c) ys.length (flatX ys) ∈ cs) (hd : ∀ d ∈ ys.map datC, d ∈ cs) {k : Nat} {y : Xs} (hy : ys[k]? = some y) : y.len = y.bs.length ∧ ∃ g, ao = some ⟨g, 0, none⟩ ∧ w.cell? ⟨g, k * 3, none⟩ = some (.int .i64 (y.num : Int)) ∧ w.cell? ⟨g, k * 3 + 1, none⟩ = some (.int .i64 (y.at_ : Int)) ∧ w.cell? ⟨g, k * 3 + 2, none⟩ = some (.slice y.ao y.len y.cap) := by
  obtain ⟨g, e, _, c0, c1, c2⟩ := row_at (h.mem hr).2.1 hy
  have hy1 : w.ownsRow 0 5 1 y.v y.bs.length (cellsB y.bs) := (h.mem (hd _ (List.mem_map_of_mem (List.mem_of_getElem? hy)))).2.1
  obtain ⟨o1, o2, e2⟩ := owns_form hy1
  simp only [Xs.v, Value.slice.injEq] at e2
  exact ⟨e2.2.1, g, e, c0, c1, c2⟩
end Go.Proofs.YtafickhhdemjnaaGreatDoor
