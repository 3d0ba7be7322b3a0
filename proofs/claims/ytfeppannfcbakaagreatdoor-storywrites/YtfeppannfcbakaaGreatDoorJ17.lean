import Derived.Test.YtfeppannfcbakaaGreatDoorJ16
namespace Go.Proofs.YtfeppannfcbakaaGreatDoor
open Go.RowKit
set_option linter.unusedVariables false
set_option maxRecDepth 100000

/-- A content that a thing may have; its words. -/
def CtOk : Th → Ct → Prop
  | .int _, .int v => 0 ≤ v ∧ v ≤ 9223372036854775807
  | .cod _, .int v => 0 ≤ v ∧ v ≤ 9223372036854775807
  | .sta _, .int v => 1 ≤ v ∧ v ≤ 3
  | .fre _, .bool _ => True
  | .dat _, .dat d => d.length ≤ 2304
  | .op _, .op x => chkR8 x = 0
  | .res _, .res c n l => chkW c n l = 0
  | _, _ => False
def wdC : Th → Ct → Ws
  | .int _, .int v => [Lib.itoa v]
  | .cod _, .int v => [Lib.itoa v]
  | .sta _, .int v => [stN.getD v.toNat []]
  | .fre _, .bool b => [flagW b]
  | .dat _, .dat d => [hexW d]
  | .op _, .op x => opA x.k x.nm x.tx (x.n : Int) (x.m : Int)
  | .res _, .res c n l => resA c n l
  | _, _ => []
theorem num_ok {x : List UInt8} {v : Nat} (h : numW x = some v) : Lib.itoa (v : Int) = x ∧ v ≤ 9223372036854775807 := ⟨by rw [itoa_nat]; exact (numW_spelt h).symm, numW_le h⟩
theorem rd1_ok {t : Th} {l : Ws} (hf : flatT t = true) (h : (rd1 t l).1 = 0) : CtOk t (rd1 t l).2.2 ∧ wdC t (rd1 t l).2.2 = l.take (rd1 t l).2.1 ∧ (rd1 t l).2.1 ≤ l.length := by
  cases t with
  | int o =>
    cases l with
    | nil => simp [rd1] at h
    | cons x r =>
      cases hx : numW x with
      | none => simp [rd1, hx] at h
      | some v =>
        obtain ⟨e1, e2⟩ := num_ok hx
        simp only [rd1, hx, Option.getD_some]
        exact ⟨⟨by omega, by omega⟩, by simp [wdC, e1], by simp⟩
  | cod o =>
    cases l with
    | nil => simp [rd1] at h
    | cons x r =>
      cases hx : numW x with
      | none => simp [rd1, hx] at h
      | some v =>
        obtain ⟨e1, e2⟩ := num_ok hx
        simp only [rd1, hx, Option.getD_some]
        exact ⟨⟨by omega, by omega⟩, by simp [wdC, e1], by simp⟩
  | sta o =>
    cases l with
    | nil => simp [rd1] at h
    | cons x r =>
      cases hx : stW x with
      | none => simp [rd1, hx] at h
      | some v =>
        obtain ⟨e1, e2, e3⟩ := st_ok hx
        simp only [rd1, hx, Option.getD_some]
        exact ⟨⟨by omega, by omega⟩, by simp only [wdC, Int.toNat_natCast, e3]; rfl, by simp⟩
  | fre o =>
    cases l with
    | nil => simp [rd1] at h
    | cons x r =>
      simp only [rd1] at h ⊢
      refine ⟨trivial, ?_, by simp⟩
      by_cases h1 : x = [102, 114, 101, 115, 104]
      · subst h1; rfl
      · by_cases h2 : x = [111, 108, 100]
        · subst h2; rfl
        · simp [h1, h2] at h
  | dat o =>
    cases l with
    | nil => simp [rd1] at h
    | cons x r =>
      cases hx : datR x with
      | none => simp [rd1, hx] at h
      | some v =>
        obtain ⟨e1, e2⟩ := datR_ok hx
        simp only [rd1, hx, Option.getD_some]
        exact ⟨e2, by simp [wdC, e1], by simp⟩
  | op o => exact readO_ok h
  | res o => exact readR_ok h
  | look o => simp [flatT] at hf
  | sht o => simp [flatT] at hf
def CsOk : List Th → List Ct → Prop
  | [], [] => True
  | t :: r, c :: cs => CtOk t c ∧ CsOk r cs
  | _, _ => False
def wdCs : List Th → List Ct → Ws
  | t :: r, c :: cs => wdC t c ++ wdCs r cs
  | _, _ => []
theorem rdsL_ok : ∀ {ts : List Th} {l : Ws}, (∀ t ∈ ts, flatT t = true) → (rdsL ts l).1 = 0 → CsOk ts (rdsL ts l).2.2 ∧ wdCs ts (rdsL ts l).2.2 = l.take (rdsL ts l).2.1 ∧ (rdsL ts l).2.1 ≤ l.length
  | [], l, hf, h => ⟨trivial, rfl, Nat.zero_le _⟩
  | t :: r, l, hf, h => by
    rw [rdsL] at h ⊢
    by_cases h1 : (rd1 t l).1 ≠ 0
    · rw [if_pos h1] at h
      exact absurd h h1
    · have h1' : (rd1 t l).1 = 0 := by simpa using h1
      rw [if_neg h1] at h ⊢
      obtain ⟨a1, a2, a3⟩ := rd1_ok (hf t (List.mem_cons_self)) h1'
      obtain ⟨b1, b2, b3⟩ := rdsL_ok (fun x hx => hf x (List.mem_cons_of_mem _ hx)) h
      refine ⟨⟨a1, b1⟩, ?_, ?_⟩
      · simp only [wdCs, a2, b2]
        rw [List.take_add]
      · simp only
        rw [List.length_drop] at b3
        omega
theorem CsOk.cons {t : Th} {r : List Th} {cs : List Ct} (h : CsOk (t :: r) cs) : ∃ c q, cs = c :: q ∧ CtOk t c ∧ CsOk r q := by
  cases cs with
  | nil => exact absurd h (by simp [CsOk])
  | cons c q => exact ⟨c, q, rfl, h.1, h.2⟩
theorem CsOk.nil {cs : List Ct} (h : CsOk [] cs) : cs = [] := by
  cases cs with
  | nil => rfl
  | cons c q => exact absurd h (by simp [CsOk])
theorem CtOk.int {o : Nat} {c : Ct} (h : CtOk (.int o) c) : ∃ v, c = .int v ∧ 0 ≤ v ∧ v ≤ 9223372036854775807 := by
  cases c <;> first | exact ⟨_, rfl, h⟩ | exact absurd h (by simp [CtOk])
theorem CtOk.cod {o : Nat} {c : Ct} (h : CtOk (.cod o) c) : ∃ v, c = .int v ∧ 0 ≤ v ∧ v ≤ 9223372036854775807 := by
  cases c <;> first | exact ⟨_, rfl, h⟩ | exact absurd h (by simp [CtOk])
theorem CtOk.sta {o : Nat} {c : Ct} (h : CtOk (.sta o) c) : ∃ v, c = .int v ∧ 1 ≤ v ∧ v ≤ 3 := by
  cases c <;> first | exact ⟨_, rfl, h⟩ | exact absurd h (by simp [CtOk])
theorem CtOk.fre {o : Nat} {c : Ct} (h : CtOk (.fre o) c) : ∃ v, c = .bool v := by
  cases c <;> first | exact ⟨_, rfl⟩ | exact absurd h (by simp [CtOk])
theorem CtOk.dat {o : Nat} {c : Ct} (h : CtOk (.dat o) c) : ∃ v, c = .dat v ∧ v.length ≤ 2304 := by
  cases c <;> first | exact ⟨_, rfl, h⟩ | exact absurd h (by simp [CtOk])
theorem CtOk.op {o : Nat} {c : Ct} (h : CtOk (.op o) c) : ∃ v, c = .op v ∧ chkR8 v = 0 := by
  cases c <;> first | exact ⟨_, rfl, h⟩ | exact absurd h (by simp [CtOk])
theorem CtOk.res {o : Nat} {c : Ct} (h : CtOk (.res o) c) : ∃ a b l, c = .res a b l ∧ chkW a b l = 0 := by
  cases c <;> first | exact ⟨_, _, _, rfl, h⟩ | exact absurd h (by simp [CtOk])
/-- That what is owned is a list's header. -/
def SlOf : Ct → Value → Prop
  | .dat d, v => ∃ a c, v = .slice a d.length c
  | .res _ _ l, v => ∃ a c, v = .slice a l.length c
  | _, _ => True
def SlL : List Ct → List Value → Prop
  | c :: cs, v :: vs => SlOf c v ∧ SlL cs vs
  | _, _ => True
theorem sub_flat (k : Int) : ∀ t ∈ (kindT k).flatMap sub, flatT t = true := by
  unfold kindT
  repeat' split
  all_goals decide
/-- What was read of words: an event in form, with these words. -/
structure Rdn (k : Int) (r : Ws) (C : List Value) (os : List Comp) : Prop where
  ev : ∃ (e : Ev) (items : Ws) (data : List UInt8), C = e.cells ∧ e.k = k ∧ e.inForm = true ∧ e.err items = 0 ∧ e.Rg ∧ items.length = e.rik ∧ data.length = e.dik ∧ items.length ≤ 8 ∧ ((kindT k).flatMap sub).flatMap (wd1 e.cells items data) = r ∧
    ((os = [ownC 9 (.slice e.ria e.rik e.ric) (txW items)] ∧ e.dia = none ∧ e.dic = 0 ∧ data = []) ∨ (os = [ownC 5 (.slice e.dia e.dik e.dic) (cellsB data)] ∧ e.ria = none ∧ e.ric = 0 ∧ items = []) ∨ (os = [] ∧ e.ria = none ∧ e.ric = 0 ∧ e.dia = none ∧ e.dic = 0 ∧ items = [] ∧ data = []))
theorem Rg_zero (k : Int) : (Ev.zero k).Rg := by
  constructor <;> (simp only [Ev.zero]; decide)
theorem dec_all {a b : Bool} (ha : a = true) (hb : b = true) : (a && b) = true := by simp [ha, hb]
set_option maxHeartbeats 6400000 in
theorem read_ev {k : Int} {r : Ws} {vs : List Value} (hk : 1 ≤ k ∧ k ≤ 11) (h0 : (rdsL ((kindT k).flatMap sub) r).1 = 0) (hn : r.length ≤ (rdsL ((kindT k).flatMap sub) r).2.1) (hv : vs.length = ((kindT k).flatMap sub).length) (hS : SlL (rdsL ((kindT k).flatMap sub) r).2.2 vs) :
    Rdn k r (putL (Ev.zero k).cells ((kindT k).flatMap sub) (rdsL ((kindT k).flatMap sub) r).2.2 vs) (ownL (rdsL ((kindT k).flatMap sub) r).2.2 vs) := by
  obtain ⟨hC, hW, hL⟩ := rdsL_ok (sub_flat k) h0
  rw [List.take_of_length_le hn] at hW
  generalize (rdsL ((kindT k).flatMap sub) r).2.2 = cs at *
  clear h0 hn hL
  subst hW
  obtain rfl | rfl | rfl | rfl | rfl | rfl | rfl | rfl | rfl | rfl | rfl : k = 1 ∨ k = 2 ∨ k = 3 ∨ k = 4 ∨ k = 5 ∨ k = 6 ∨ k = 7 ∨ k = 8 ∨ k = 9 ∨ k = 10 ∨ k = 11 := by omega
  · have hK : kindT 1 = [.int 1, .cod 5] := rfl
    rw [hK] at hC hv ⊢
    simp only [List.flatMap_cons, List.flatMap_nil, sub, List.cons_append, List.nil_append, List.append_nil, List.length_cons, List.length_nil] at hC hv ⊢
    obtain ⟨v0, vs0, rfl, hv0⟩ := vs_cons hv
    obtain ⟨v1, vs1, rfl, hv1⟩ := vs_cons hv0
    have hnil : vs1 = [] := len_nil hv1
    subst hnil
    obtain ⟨c0, q0, rfl, hc0, hC0⟩ := hC.cons
    obtain ⟨x0, rfl, hl0, hu0⟩ := hc0.int
    obtain ⟨c1, q1, rfl, hc1, hC1⟩ := hC0.cons
    obtain ⟨x1, rfl, hl1, hu1⟩ := hc1.cod
    have hq : q1 = [] := hC1.nil
    subst hq
    have hF : Ev.inForm { Ev.zero 1 with a := x0, cd := x1 } = true := by
      unfold Ev.inForm
      rw [if_neg (by simp [Ev.zero])]
      refine dec_all ?_ ?_
      · rw [show kindT (Ev.k { Ev.zero 1 with a := x0, cd := x1 }) = [.int 1, .cod 5] from rfl]
        simp [okL, okT, okF, ok1, sub, clr, clrF, clr1, valI, Ev.cells, hl0, hl1]
      · simp [Ev.left, Ev.zero, Ev.empty, Ev.z_a, Ev.z_nb, Ev.z_nm, Ev.z_wh, Ev.z_cd, Ev.z_fr, Ev.z_op, Ev.z_en, Ev.z_lk, Ev.z_rc, Ev.z_rn, Ev.z_rk, Ev.z_sn, Ev.z_sa, Ev.z_dk]
    refine ⟨{ Ev.zero 1 with a := x0, cd := x1 }, [], [], ?_, rfl, hF, ?_, { Rg_zero 1 with a := hu0, cd := hu1 }, rfl, rfl, by decide, ?_, Or.inr (Or.inr ⟨by simp [ownL, ownOf], rfl, rfl, rfl, rfl, rfl, rfl⟩)⟩
    · simp [putL, putC, Ev.cells, Ev.zero]
    · unfold Ev.err
      rw [if_neg (by rw [hF]; simp), show kindT (Ev.k { Ev.zero 1 with a := x0, cd := x1 }) = [.int 1, .cod 5] from rfl]
      simp [ersL, er1]
    · rw [hK]
      simp [wdCs, wdC, wd1, valI, Ev.cells, sub]
  · have hK : kindT 2 = [.int 1, .int 2, .op 7] := rfl
    rw [hK] at hC hv ⊢
    simp only [List.flatMap_cons, List.flatMap_nil, sub, List.cons_append, List.nil_append, List.append_nil, List.length_cons, List.length_nil] at hC hv ⊢
    obtain ⟨v0, vs0, rfl, hv0⟩ := vs_cons hv
    obtain ⟨v1, vs1, rfl, hv1⟩ := vs_cons hv0
    obtain ⟨v2, vs2, rfl, hv2⟩ := vs_cons hv1
    have hnil : vs2 = [] := len_nil hv2
    subst hnil
    obtain ⟨c0, q0, rfl, hc0, hC0⟩ := hC.cons
    obtain ⟨x0, rfl, hl0, hu0⟩ := hc0.int
    obtain ⟨c1, q1, rfl, hc1, hC1⟩ := hC0.cons
    obtain ⟨x1, rfl, hl1, hu1⟩ := hc1.int
    obtain ⟨c2, q2, rfl, hc2, hC2⟩ := hC1.cons
    obtain ⟨x2, rfl, hu2⟩ := hc2.op
    have hq : q2 = [] := hC2.nil
    subst hq
    have hF : Ev.inForm { Ev.zero 2 with a := x0, nb := x1, ok := x2.k, onm := x2.nm, otx := x2.tx, on := (x2.n : Int), om := (x2.m : Int) } = true := by
      unfold Ev.inForm
      rw [if_neg (by simp [Ev.zero])]
      refine dec_all ?_ ?_
      · rw [show kindT (Ev.k { Ev.zero 2 with a := x0, nb := x1, ok := x2.k, onm := x2.nm, otx := x2.tx, on := (x2.n : Int), om := (x2.m : Int) }) = [.int 1, .int 2, .op 7] from rfl]
        simp [okL, okT, okF, ok1, sub, clr, clrF, clr1, valI, Ev.cells, hl0, hl1]
      · simp [Ev.left, Ev.zero, Ev.empty, Ev.z_a, Ev.z_nb, Ev.z_nm, Ev.z_wh, Ev.z_cd, Ev.z_fr, Ev.z_op, Ev.z_en, Ev.z_lk, Ev.z_rc, Ev.z_rn, Ev.z_rk, Ev.z_sn, Ev.z_sa, Ev.z_dk]
    refine ⟨{ Ev.zero 2 with a := x0, nb := x1, ok := x2.k, onm := x2.nm, otx := x2.tx, on := (x2.n : Int), om := (x2.m : Int) }, [], [], ?_, rfl, hF, ?_, { Rg_zero 2 with a := hu0, nb := hu1 }, rfl, rfl, by decide, ?_, Or.inr (Or.inr ⟨by simp [ownL, ownOf], rfl, rfl, rfl, rfl, rfl, rfl⟩)⟩
    · simp [putL, putC, setOp, Ev.cells, Ev.zero]
    · unfold Ev.err
      rw [if_neg (by rw [hF]; simp), show kindT (Ev.k { Ev.zero 2 with a := x0, nb := x1, ok := x2.k, onm := x2.nm, otx := x2.tx, on := (x2.n : Int), om := (x2.m : Int) }) = [.int 1, .int 2, .op 7] from rfl]
      simp [ersL, er1, valI, strV, Ev.cells, show chkO x2.k x2.nm x2.tx (x2.n : Int) (x2.m : Int) = 0 from hu2]
    · rw [hK]
      simp [wdCs, wdC, wd1, valI, strV, Ev.cells, sub]
  · have hK : kindT 3 = [.int 1, .int 2, .int 4, .op 7] := rfl
    rw [hK] at hC hv ⊢
    simp only [List.flatMap_cons, List.flatMap_nil, sub, List.cons_append, List.nil_append, List.append_nil, List.length_cons, List.length_nil] at hC hv ⊢
    obtain ⟨v0, vs0, rfl, hv0⟩ := vs_cons hv
    obtain ⟨v1, vs1, rfl, hv1⟩ := vs_cons hv0
    obtain ⟨v2, vs2, rfl, hv2⟩ := vs_cons hv1
    obtain ⟨v3, vs3, rfl, hv3⟩ := vs_cons hv2
    have hnil : vs3 = [] := len_nil hv3
    subst hnil
    obtain ⟨c0, q0, rfl, hc0, hC0⟩ := hC.cons
    obtain ⟨x0, rfl, hl0, hu0⟩ := hc0.int
    obtain ⟨c1, q1, rfl, hc1, hC1⟩ := hC0.cons
    obtain ⟨x1, rfl, hl1, hu1⟩ := hc1.int
    obtain ⟨c2, q2, rfl, hc2, hC2⟩ := hC1.cons
    obtain ⟨x2, rfl, hl2, hu2⟩ := hc2.int
    obtain ⟨c3, q3, rfl, hc3, hC3⟩ := hC2.cons
    obtain ⟨x3, rfl, hu3⟩ := hc3.op
    have hq : q3 = [] := hC3.nil
    subst hq
    have hF : Ev.inForm { Ev.zero 3 with a := x0, nb := x1, wh := x2, ok := x3.k, onm := x3.nm, otx := x3.tx, on := (x3.n : Int), om := (x3.m : Int) } = true := by
      unfold Ev.inForm
      rw [if_neg (by simp [Ev.zero])]
      refine dec_all ?_ ?_
      · rw [show kindT (Ev.k { Ev.zero 3 with a := x0, nb := x1, wh := x2, ok := x3.k, onm := x3.nm, otx := x3.tx, on := (x3.n : Int), om := (x3.m : Int) }) = [.int 1, .int 2, .int 4, .op 7] from rfl]
        simp [okL, okT, okF, ok1, sub, clr, clrF, clr1, valI, Ev.cells, hl0, hl1, hl2]
      · simp [Ev.left, Ev.zero, Ev.empty, Ev.z_a, Ev.z_nb, Ev.z_nm, Ev.z_wh, Ev.z_cd, Ev.z_fr, Ev.z_op, Ev.z_en, Ev.z_lk, Ev.z_rc, Ev.z_rn, Ev.z_rk, Ev.z_sn, Ev.z_sa, Ev.z_dk]
    refine ⟨{ Ev.zero 3 with a := x0, nb := x1, wh := x2, ok := x3.k, onm := x3.nm, otx := x3.tx, on := (x3.n : Int), om := (x3.m : Int) }, [], [], ?_, rfl, hF, ?_, { Rg_zero 3 with a := hu0, nb := hu1, wh := hu2 }, rfl, rfl, by decide, ?_, Or.inr (Or.inr ⟨by simp [ownL, ownOf], rfl, rfl, rfl, rfl, rfl, rfl⟩)⟩
    · simp [putL, putC, setOp, Ev.cells, Ev.zero]
    · unfold Ev.err
      rw [if_neg (by rw [hF]; simp), show kindT (Ev.k { Ev.zero 3 with a := x0, nb := x1, wh := x2, ok := x3.k, onm := x3.nm, otx := x3.tx, on := (x3.n : Int), om := (x3.m : Int) }) = [.int 1, .int 2, .int 4, .op 7] from rfl]
      simp [ersL, er1, valI, strV, Ev.cells, show chkO x3.k x3.nm x3.tx (x3.n : Int) (x3.m : Int) = 0 from hu3]
    · rw [hK]
      simp [wdCs, wdC, wd1, valI, strV, Ev.cells, sub]
  · have hK : kindT 4 = [.int 1, .int 2, .int 3, .res 19] := rfl
    rw [hK] at hC hv ⊢
    simp only [List.flatMap_cons, List.flatMap_nil, sub, List.cons_append, List.nil_append, List.append_nil, List.length_cons, List.length_nil] at hC hv ⊢
    obtain ⟨v0, vs0, rfl, hv0⟩ := vs_cons hv
    obtain ⟨v1, vs1, rfl, hv1⟩ := vs_cons hv0
    obtain ⟨v2, vs2, rfl, hv2⟩ := vs_cons hv1
    obtain ⟨v3, vs3, rfl, hv3⟩ := vs_cons hv2
    have hnil : vs3 = [] := len_nil hv3
    subst hnil
    obtain ⟨c0, q0, rfl, hc0, hC0⟩ := hC.cons
    obtain ⟨x0, rfl, hl0, hu0⟩ := hc0.int
    obtain ⟨c1, q1, rfl, hc1, hC1⟩ := hC0.cons
    obtain ⟨x1, rfl, hl1, hu1⟩ := hc1.int
    obtain ⟨c2, q2, rfl, hc2, hC2⟩ := hC1.cons
    obtain ⟨x2, rfl, hl2, hu2⟩ := hc2.int
    obtain ⟨c3, q3, rfl, hc3, hC3⟩ := hC2.cons
    obtain ⟨x3, y3, l3, rfl, hu3⟩ := hc3.res
    have hq : q3 = [] := hC3.nil
    subst hq
    obtain ⟨sa, sc, hs⟩ : ∃ a c, v3 = .slice a l3.length c := by simpa [SlL, SlOf] using hS
    subst hs
    have hF : Ev.inForm { Ev.zero 4 with a := x0, nb := x1, nm := x2, rc := x3, rn := y3, ria := sa, rik := l3.length, ric := sc } = true := by
      unfold Ev.inForm
      rw [if_neg (by simp [Ev.zero])]
      refine dec_all ?_ ?_
      · rw [show kindT (Ev.k { Ev.zero 4 with a := x0, nb := x1, nm := x2, rc := x3, rn := y3, ria := sa, rik := l3.length, ric := sc }) = [.int 1, .int 2, .int 3, .res 19] from rfl]
        simp [okL, okT, okF, ok1, sub, clr, clrF, clr1, valI, Ev.cells, hl0, hl1, hl2]
      · simp [Ev.left, Ev.zero, Ev.empty, Ev.z_a, Ev.z_nb, Ev.z_nm, Ev.z_wh, Ev.z_cd, Ev.z_fr, Ev.z_op, Ev.z_en, Ev.z_lk, Ev.z_rc, Ev.z_rn, Ev.z_rk, Ev.z_sn, Ev.z_sa, Ev.z_dk]
    refine ⟨{ Ev.zero 4 with a := x0, nb := x1, nm := x2, rc := x3, rn := y3, ria := sa, rik := l3.length, ric := sc }, l3, [], ?_, rfl, hF, ?_, { Rg_zero 4 with a := hu0, nb := hu1, nm := hu2 }, rfl, rfl, (chk_zero hu3).2.2.2.2.2.1, ?_, Or.inl ⟨by simp [ownL, ownOf], rfl, rfl, rfl⟩⟩
    · simp [putL, putC, setRes, Ev.cells, Ev.zero]
    · unfold Ev.err
      rw [if_neg (by rw [hF]; simp), show kindT (Ev.k { Ev.zero 4 with a := x0, nb := x1, nm := x2, rc := x3, rn := y3, ria := sa, rik := l3.length, ric := sc }) = [.int 1, .int 2, .int 3, .res 19] from rfl]
      simp [ersL, er1, valI, Ev.cells, hu3]
    · rw [hK]
      simp [wdCs, wdC, wd1, valI, Ev.cells, sub]
  · have hK : kindT 5 = [.int 1, .int 2, .int 3, .int 4, .res 19] := rfl
    rw [hK] at hC hv ⊢
    simp only [List.flatMap_cons, List.flatMap_nil, sub, List.cons_append, List.nil_append, List.append_nil, List.length_cons, List.length_nil] at hC hv ⊢
    obtain ⟨v0, vs0, rfl, hv0⟩ := vs_cons hv
    obtain ⟨v1, vs1, rfl, hv1⟩ := vs_cons hv0
    obtain ⟨v2, vs2, rfl, hv2⟩ := vs_cons hv1
    obtain ⟨v3, vs3, rfl, hv3⟩ := vs_cons hv2
    obtain ⟨v4, vs4, rfl, hv4⟩ := vs_cons hv3
    have hnil : vs4 = [] := len_nil hv4
    subst hnil
    obtain ⟨c0, q0, rfl, hc0, hC0⟩ := hC.cons
    obtain ⟨x0, rfl, hl0, hu0⟩ := hc0.int
    obtain ⟨c1, q1, rfl, hc1, hC1⟩ := hC0.cons
    obtain ⟨x1, rfl, hl1, hu1⟩ := hc1.int
    obtain ⟨c2, q2, rfl, hc2, hC2⟩ := hC1.cons
    obtain ⟨x2, rfl, hl2, hu2⟩ := hc2.int
    obtain ⟨c3, q3, rfl, hc3, hC3⟩ := hC2.cons
    obtain ⟨x3, rfl, hl3, hu3⟩ := hc3.int
    obtain ⟨c4, q4, rfl, hc4, hC4⟩ := hC3.cons
    obtain ⟨x4, y4, l4, rfl, hu4⟩ := hc4.res
    have hq : q4 = [] := hC4.nil
    subst hq
    obtain ⟨sa, sc, hs⟩ : ∃ a c, v4 = .slice a l4.length c := by simpa [SlL, SlOf] using hS
    subst hs
    have hF : Ev.inForm { Ev.zero 5 with a := x0, nb := x1, nm := x2, wh := x3, rc := x4, rn := y4, ria := sa, rik := l4.length, ric := sc } = true := by
      unfold Ev.inForm
      rw [if_neg (by simp [Ev.zero])]
      refine dec_all ?_ ?_
      · rw [show kindT (Ev.k { Ev.zero 5 with a := x0, nb := x1, nm := x2, wh := x3, rc := x4, rn := y4, ria := sa, rik := l4.length, ric := sc }) = [.int 1, .int 2, .int 3, .int 4, .res 19] from rfl]
        simp [okL, okT, okF, ok1, sub, clr, clrF, clr1, valI, Ev.cells, hl0, hl1, hl2, hl3]
      · simp [Ev.left, Ev.zero, Ev.empty, Ev.z_a, Ev.z_nb, Ev.z_nm, Ev.z_wh, Ev.z_cd, Ev.z_fr, Ev.z_op, Ev.z_en, Ev.z_lk, Ev.z_rc, Ev.z_rn, Ev.z_rk, Ev.z_sn, Ev.z_sa, Ev.z_dk]
    refine ⟨{ Ev.zero 5 with a := x0, nb := x1, nm := x2, wh := x3, rc := x4, rn := y4, ria := sa, rik := l4.length, ric := sc }, l4, [], ?_, rfl, hF, ?_, { Rg_zero 5 with a := hu0, nb := hu1, nm := hu2, wh := hu3 }, rfl, rfl, (chk_zero hu4).2.2.2.2.2.1, ?_, Or.inl ⟨by simp [ownL, ownOf], rfl, rfl, rfl⟩⟩
    · simp [putL, putC, setRes, Ev.cells, Ev.zero]
    · unfold Ev.err
      rw [if_neg (by rw [hF]; simp), show kindT (Ev.k { Ev.zero 5 with a := x0, nb := x1, nm := x2, wh := x3, rc := x4, rn := y4, ria := sa, rik := l4.length, ric := sc }) = [.int 1, .int 2, .int 3, .int 4, .res 19] from rfl]
      simp [ersL, er1, valI, Ev.cells, hu4]
    · rw [hK]
      simp [wdCs, wdC, wd1, valI, Ev.cells, sub]
  · have hK : kindT 6 = [.int 1, .int 3, .fre 6, .int 12, .int 13, .op 14, .res 19] := rfl
    rw [hK] at hC hv ⊢
    simp only [List.flatMap_cons, List.flatMap_nil, sub, List.cons_append, List.nil_append, List.append_nil, List.length_cons, List.length_nil] at hC hv ⊢
    obtain ⟨v0, vs0, rfl, hv0⟩ := vs_cons hv
    obtain ⟨v1, vs1, rfl, hv1⟩ := vs_cons hv0
    obtain ⟨v2, vs2, rfl, hv2⟩ := vs_cons hv1
    obtain ⟨v3, vs3, rfl, hv3⟩ := vs_cons hv2
    obtain ⟨v4, vs4, rfl, hv4⟩ := vs_cons hv3
    obtain ⟨v5, vs5, rfl, hv5⟩ := vs_cons hv4
    obtain ⟨v6, vs6, rfl, hv6⟩ := vs_cons hv5
    have hnil : vs6 = [] := len_nil hv6
    subst hnil
    obtain ⟨c0, q0, rfl, hc0, hC0⟩ := hC.cons
    obtain ⟨x0, rfl, hl0, hu0⟩ := hc0.int
    obtain ⟨c1, q1, rfl, hc1, hC1⟩ := hC0.cons
    obtain ⟨x1, rfl, hl1, hu1⟩ := hc1.int
    obtain ⟨c2, q2, rfl, hc2, hC2⟩ := hC1.cons
    obtain ⟨x2, rfl⟩ := hc2.fre
    obtain ⟨c3, q3, rfl, hc3, hC3⟩ := hC2.cons
    obtain ⟨x3, rfl, hl3, hu3⟩ := hc3.int
    obtain ⟨c4, q4, rfl, hc4, hC4⟩ := hC3.cons
    obtain ⟨x4, rfl, hl4, hu4⟩ := hc4.int
    obtain ⟨c5, q5, rfl, hc5, hC5⟩ := hC4.cons
    obtain ⟨x5, rfl, hu5⟩ := hc5.op
    obtain ⟨c6, q6, rfl, hc6, hC6⟩ := hC5.cons
    obtain ⟨x6, y6, l6, rfl, hu6⟩ := hc6.res
    have hq : q6 = [] := hC6.nil
    subst hq
    obtain ⟨sa, sc, hs⟩ : ∃ a c, v6 = .slice a l6.length c := by simpa [SlL, SlOf] using hS
    subst hs
    have hF : Ev.inForm { Ev.zero 6 with a := x0, nm := x1, fr := x2, ec := x3, en := x4, pk := x5.k, pnm := x5.nm, ptx := x5.tx, pn := (x5.n : Int), pm := (x5.m : Int), rc := x6, rn := y6, ria := sa, rik := l6.length, ric := sc } = true := by
      unfold Ev.inForm
      rw [if_neg (by simp [Ev.zero])]
      refine dec_all ?_ ?_
      · rw [show kindT (Ev.k { Ev.zero 6 with a := x0, nm := x1, fr := x2, ec := x3, en := x4, pk := x5.k, pnm := x5.nm, ptx := x5.tx, pn := (x5.n : Int), pm := (x5.m : Int), rc := x6, rn := y6, ria := sa, rik := l6.length, ric := sc }) = [.int 1, .int 3, .fre 6, .int 12, .int 13, .op 14, .res 19] from rfl]
        simp [okL, okT, okF, ok1, sub, clr, clrF, clr1, valI, Ev.cells, hl0, hl1, hl3, hl4]
      · simp [Ev.left, Ev.zero, Ev.empty, Ev.z_a, Ev.z_nb, Ev.z_nm, Ev.z_wh, Ev.z_cd, Ev.z_fr, Ev.z_op, Ev.z_en, Ev.z_lk, Ev.z_rc, Ev.z_rn, Ev.z_rk, Ev.z_sn, Ev.z_sa, Ev.z_dk]
    refine ⟨{ Ev.zero 6 with a := x0, nm := x1, fr := x2, ec := x3, en := x4, pk := x5.k, pnm := x5.nm, ptx := x5.tx, pn := (x5.n : Int), pm := (x5.m : Int), rc := x6, rn := y6, ria := sa, rik := l6.length, ric := sc }, l6, [], ?_, rfl, hF, ?_, { Rg_zero 6 with a := hu0, nm := hu1, ec := hu3, en := hu4 }, rfl, rfl, (chk_zero hu6).2.2.2.2.2.1, ?_, Or.inl ⟨by simp [ownL, ownOf], rfl, rfl, rfl⟩⟩
    · simp [putL, putC, setOp, setRes, Ev.cells, Ev.zero]
    · unfold Ev.err
      rw [if_neg (by rw [hF]; simp), show kindT (Ev.k { Ev.zero 6 with a := x0, nm := x1, fr := x2, ec := x3, en := x4, pk := x5.k, pnm := x5.nm, ptx := x5.tx, pn := (x5.n : Int), pm := (x5.m : Int), rc := x6, rn := y6, ria := sa, rik := l6.length, ric := sc }) = [.int 1, .int 3, .fre 6, .int 12, .int 13, .op 14, .res 19] from rfl]
      simp [ersL, er1, valI, strV, Ev.cells, show chkO x5.k x5.nm x5.tx (x5.n : Int) (x5.m : Int) = 0 from hu5, hu6]
    · rw [hK]
      simp [wdCs, wdC, wd1, valI, strV, boolV, Ev.cells, sub]
  · have hK : kindT 7 = [.int 1, .look 22] := rfl
    rw [hK] at hC hv ⊢
    simp only [List.flatMap_cons, List.flatMap_nil, sub, lookL, List.cons_append, List.nil_append, List.append_nil, List.length_cons, List.length_nil] at hC hv ⊢
    obtain ⟨v0, vs0, rfl, hv0⟩ := vs_cons hv
    obtain ⟨v1, vs1, rfl, hv1⟩ := vs_cons hv0
    obtain ⟨v2, vs2, rfl, hv2⟩ := vs_cons hv1
    obtain ⟨v3, vs3, rfl, hv3⟩ := vs_cons hv2
    obtain ⟨v4, vs4, rfl, hv4⟩ := vs_cons hv3
    obtain ⟨v5, vs5, rfl, hv5⟩ := vs_cons hv4
    obtain ⟨v6, vs6, rfl, hv6⟩ := vs_cons hv5
    obtain ⟨v7, vs7, rfl, hv7⟩ := vs_cons hv6
    obtain ⟨v8, vs8, rfl, hv8⟩ := vs_cons hv7
    have hnil : vs8 = [] := len_nil hv8
    subst hnil
    obtain ⟨c0, q0, rfl, hc0, hC0⟩ := hC.cons
    obtain ⟨x0, rfl, hl0, hu0⟩ := hc0.int
    obtain ⟨c1, q1, rfl, hc1, hC1⟩ := hC0.cons
    obtain ⟨x1, rfl, hl1, hu1⟩ := hc1.int
    obtain ⟨c2, q2, rfl, hc2, hC2⟩ := hC1.cons
    obtain ⟨x2, rfl, hl2, hu2⟩ := hc2.sta
    obtain ⟨c3, q3, rfl, hc3, hC3⟩ := hC2.cons
    obtain ⟨x3, rfl, hl3, hu3⟩ := hc3.int
    obtain ⟨c4, q4, rfl, hc4, hC4⟩ := hC3.cons
    obtain ⟨x4, rfl, hl4, hu4⟩ := hc4.int
    obtain ⟨c5, q5, rfl, hc5, hC5⟩ := hC4.cons
    obtain ⟨x5, rfl, hl5, hu5⟩ := hc5.int
    obtain ⟨c6, q6, rfl, hc6, hC6⟩ := hC5.cons
    obtain ⟨x6, rfl, hl6, hu6⟩ := hc6.int
    obtain ⟨c7, q7, rfl, hc7, hC7⟩ := hC6.cons
    obtain ⟨x7, rfl, hl7, hu7⟩ := hc7.int
    obtain ⟨c8, q8, rfl, hc8, hC8⟩ := hC7.cons
    obtain ⟨x8, rfl, hl8, hu8⟩ := hc8.int
    have hq : q8 = [] := hC8.nil
    subst hq
    have hF : Ev.inForm { Ev.zero 7 with a := x0, l0 := x1, l1 := x2, l2 := x3, l3 := x4, l4 := x5, l5 := x6, l6 := x7, l7 := x8 } = true := by
      unfold Ev.inForm
      rw [if_neg (by simp [Ev.zero])]
      refine dec_all ?_ ?_
      · rw [show kindT (Ev.k { Ev.zero 7 with a := x0, l0 := x1, l1 := x2, l2 := x3, l3 := x4, l4 := x5, l5 := x6, l6 := x7, l7 := x8 }) = [.int 1, .look 22] from rfl]
        simp [okL, okT, okF, ok1, sub, lookL, clr, clrF, clr1, valI, Ev.cells, hl0, hl1, hl2, hl3, hl4, hl5, hl6, hl7, hl8, hu2]
      · simp [Ev.left, Ev.zero, Ev.empty, Ev.z_a, Ev.z_nb, Ev.z_nm, Ev.z_wh, Ev.z_cd, Ev.z_fr, Ev.z_op, Ev.z_en, Ev.z_lk, Ev.z_rc, Ev.z_rn, Ev.z_rk, Ev.z_sn, Ev.z_sa, Ev.z_dk]
    refine ⟨{ Ev.zero 7 with a := x0, l0 := x1, l1 := x2, l2 := x3, l3 := x4, l4 := x5, l5 := x6, l6 := x7, l7 := x8 }, [], [], ?_, rfl, hF, ?_, { Rg_zero 7 with a := hu0, l0 := hu1, l2 := hu3, l3 := hu4, l4 := hu5, l5 := hu6, l6 := hu7, l7 := hu8 }, rfl, rfl, by decide, ?_, Or.inr (Or.inr ⟨by simp [ownL, ownOf], rfl, rfl, rfl, rfl, rfl, rfl⟩)⟩
    · simp [putL, putC, Ev.cells, Ev.zero]
    · unfold Ev.err
      rw [if_neg (by rw [hF]; simp), show kindT (Ev.k { Ev.zero 7 with a := x0, l0 := x1, l1 := x2, l2 := x3, l3 := x4, l4 := x5, l5 := x6, l6 := x7, l7 := x8 }) = [.int 1, .look 22] from rfl]
      simp [ersL, er1]
    · rw [hK]
      simp [wdCs, wdC, wd1, valI, Ev.cells, sub, lookL]
  · have hK : kindT 8 = [.int 1] := rfl
    rw [hK] at hC hv ⊢
    simp only [List.flatMap_cons, List.flatMap_nil, sub, List.append_nil, List.length_cons, List.length_nil] at hC hv ⊢
    obtain ⟨v0, vs0, rfl, hv0⟩ := vs_cons hv
    have hnil : vs0 = [] := len_nil hv0
    subst hnil
    obtain ⟨c0, q0, rfl, hc0, hC0⟩ := hC.cons
    obtain ⟨x0, rfl, hl0, hu0⟩ := hc0.int
    have hq : q0 = [] := hC0.nil
    subst hq
    have hF : Ev.inForm { Ev.zero 8 with a := x0 } = true := by
      unfold Ev.inForm
      rw [if_neg (by simp [Ev.zero])]
      refine dec_all ?_ ?_
      · rw [show kindT (Ev.k { Ev.zero 8 with a := x0 }) = [.int 1] from rfl]
        simp [okL, okT, okF, ok1, sub, valI, Ev.cells, hl0]
      · simp [Ev.left, Ev.zero, Ev.empty, Ev.z_a, Ev.z_nb, Ev.z_nm, Ev.z_wh, Ev.z_cd, Ev.z_fr, Ev.z_op, Ev.z_en, Ev.z_lk, Ev.z_rc, Ev.z_rn, Ev.z_rk, Ev.z_sn, Ev.z_sa, Ev.z_dk]
    refine ⟨{ Ev.zero 8 with a := x0 }, [], [], ?_, rfl, hF, ?_, { Rg_zero 8 with a := hu0 }, rfl, rfl, by decide, ?_, Or.inr (Or.inr ⟨by simp [ownL, ownOf], rfl, rfl, rfl, rfl, rfl, rfl⟩)⟩
    · simp [putL, putC, Ev.cells, Ev.zero]
    · unfold Ev.err
      rw [if_neg (by rw [hF]; simp), show kindT (Ev.k { Ev.zero 8 with a := x0 }) = [.int 1] from rfl]
      simp [ersL, er1]
    · rw [hK]
      simp [wdCs, wdC, wd1, valI, Ev.cells, sub]
  · have hK : kindT 9 = [.int 1] := rfl
    rw [hK] at hC hv ⊢
    simp only [List.flatMap_cons, List.flatMap_nil, sub, List.append_nil, List.length_cons, List.length_nil] at hC hv ⊢
    obtain ⟨v0, vs0, rfl, hv0⟩ := vs_cons hv
    have hnil : vs0 = [] := len_nil hv0
    subst hnil
    obtain ⟨c0, q0, rfl, hc0, hC0⟩ := hC.cons
    obtain ⟨x0, rfl, hl0, hu0⟩ := hc0.int
    have hq : q0 = [] := hC0.nil
    subst hq
    have hF : Ev.inForm { Ev.zero 9 with a := x0 } = true := by
      unfold Ev.inForm
      rw [if_neg (by simp [Ev.zero])]
      refine dec_all ?_ ?_
      · rw [show kindT (Ev.k { Ev.zero 9 with a := x0 }) = [.int 1] from rfl]
        simp [okL, okT, okF, ok1, sub, valI, Ev.cells, hl0]
      · simp [Ev.left, Ev.zero, Ev.empty, Ev.z_a, Ev.z_nb, Ev.z_nm, Ev.z_wh, Ev.z_cd, Ev.z_fr, Ev.z_op, Ev.z_en, Ev.z_lk, Ev.z_rc, Ev.z_rn, Ev.z_rk, Ev.z_sn, Ev.z_sa, Ev.z_dk]
    refine ⟨{ Ev.zero 9 with a := x0 }, [], [], ?_, rfl, hF, ?_, { Rg_zero 9 with a := hu0 }, rfl, rfl, by decide, ?_, Or.inr (Or.inr ⟨by simp [ownL, ownOf], rfl, rfl, rfl, rfl, rfl, rfl⟩)⟩
    · simp [putL, putC, Ev.cells, Ev.zero]
    · unfold Ev.err
      rw [if_neg (by rw [hF]; simp), show kindT (Ev.k { Ev.zero 9 with a := x0 }) = [.int 1] from rfl]
      simp [ersL, er1]
    · rw [hK]
      simp [wdCs, wdC, wd1, valI, Ev.cells, sub]
  · have hK : kindT 10 = [.int 1, .look 22] := rfl
    rw [hK] at hC hv ⊢
    simp only [List.flatMap_cons, List.flatMap_nil, sub, lookL, List.cons_append, List.nil_append, List.append_nil, List.length_cons, List.length_nil] at hC hv ⊢
    obtain ⟨v0, vs0, rfl, hv0⟩ := vs_cons hv
    obtain ⟨v1, vs1, rfl, hv1⟩ := vs_cons hv0
    obtain ⟨v2, vs2, rfl, hv2⟩ := vs_cons hv1
    obtain ⟨v3, vs3, rfl, hv3⟩ := vs_cons hv2
    obtain ⟨v4, vs4, rfl, hv4⟩ := vs_cons hv3
    obtain ⟨v5, vs5, rfl, hv5⟩ := vs_cons hv4
    obtain ⟨v6, vs6, rfl, hv6⟩ := vs_cons hv5
    obtain ⟨v7, vs7, rfl, hv7⟩ := vs_cons hv6
    obtain ⟨v8, vs8, rfl, hv8⟩ := vs_cons hv7
    have hnil : vs8 = [] := len_nil hv8
    subst hnil
    obtain ⟨c0, q0, rfl, hc0, hC0⟩ := hC.cons
    obtain ⟨x0, rfl, hl0, hu0⟩ := hc0.int
    obtain ⟨c1, q1, rfl, hc1, hC1⟩ := hC0.cons
    obtain ⟨x1, rfl, hl1, hu1⟩ := hc1.int
    obtain ⟨c2, q2, rfl, hc2, hC2⟩ := hC1.cons
    obtain ⟨x2, rfl, hl2, hu2⟩ := hc2.sta
    obtain ⟨c3, q3, rfl, hc3, hC3⟩ := hC2.cons
    obtain ⟨x3, rfl, hl3, hu3⟩ := hc3.int
    obtain ⟨c4, q4, rfl, hc4, hC4⟩ := hC3.cons
    obtain ⟨x4, rfl, hl4, hu4⟩ := hc4.int
    obtain ⟨c5, q5, rfl, hc5, hC5⟩ := hC4.cons
    obtain ⟨x5, rfl, hl5, hu5⟩ := hc5.int
    obtain ⟨c6, q6, rfl, hc6, hC6⟩ := hC5.cons
    obtain ⟨x6, rfl, hl6, hu6⟩ := hc6.int
    obtain ⟨c7, q7, rfl, hc7, hC7⟩ := hC6.cons
    obtain ⟨x7, rfl, hl7, hu7⟩ := hc7.int
    obtain ⟨c8, q8, rfl, hc8, hC8⟩ := hC7.cons
    obtain ⟨x8, rfl, hl8, hu8⟩ := hc8.int
    have hq : q8 = [] := hC8.nil
    subst hq
    have hF : Ev.inForm { Ev.zero 10 with a := x0, l0 := x1, l1 := x2, l2 := x3, l3 := x4, l4 := x5, l5 := x6, l6 := x7, l7 := x8 } = true := by
      unfold Ev.inForm
      rw [if_neg (by simp [Ev.zero])]
      refine dec_all ?_ ?_
      · rw [show kindT (Ev.k { Ev.zero 10 with a := x0, l0 := x1, l1 := x2, l2 := x3, l3 := x4, l4 := x5, l5 := x6, l6 := x7, l7 := x8 }) = [.int 1, .look 22] from rfl]
        simp [okL, okT, okF, ok1, sub, lookL, clr, clrF, clr1, valI, Ev.cells, hl0, hl1, hl2, hl3, hl4, hl5, hl6, hl7, hl8, hu2]
      · simp [Ev.left, Ev.zero, Ev.empty, Ev.z_a, Ev.z_nb, Ev.z_nm, Ev.z_wh, Ev.z_cd, Ev.z_fr, Ev.z_op, Ev.z_en, Ev.z_lk, Ev.z_rc, Ev.z_rn, Ev.z_rk, Ev.z_sn, Ev.z_sa, Ev.z_dk]
    refine ⟨{ Ev.zero 10 with a := x0, l0 := x1, l1 := x2, l2 := x3, l3 := x4, l4 := x5, l5 := x6, l6 := x7, l7 := x8 }, [], [], ?_, rfl, hF, ?_, { Rg_zero 10 with a := hu0, l0 := hu1, l2 := hu3, l3 := hu4, l4 := hu5, l5 := hu6, l6 := hu7, l7 := hu8 }, rfl, rfl, by decide, ?_, Or.inr (Or.inr ⟨by simp [ownL, ownOf], rfl, rfl, rfl, rfl, rfl, rfl⟩)⟩
    · simp [putL, putC, Ev.cells, Ev.zero]
    · unfold Ev.err
      rw [if_neg (by rw [hF]; simp), show kindT (Ev.k { Ev.zero 10 with a := x0, l0 := x1, l1 := x2, l2 := x3, l3 := x4, l4 := x5, l5 := x6, l6 := x7, l7 := x8 }) = [.int 1, .look 22] from rfl]
      simp [ersL, er1]
    · rw [hK]
      simp [wdCs, wdC, wd1, valI, Ev.cells, sub, lookL]
  · have hK : kindT 11 = [.int 1, .sht 30] := rfl
    rw [hK] at hC hv ⊢
    simp only [List.flatMap_cons, List.flatMap_nil, sub, shtL, List.cons_append, List.nil_append, List.append_nil, List.length_cons, List.length_nil] at hC hv ⊢
    obtain ⟨v0, vs0, rfl, hv0⟩ := vs_cons hv
    obtain ⟨v1, vs1, rfl, hv1⟩ := vs_cons hv0
    obtain ⟨v2, vs2, rfl, hv2⟩ := vs_cons hv1
    obtain ⟨v3, vs3, rfl, hv3⟩ := vs_cons hv2
    have hnil : vs3 = [] := len_nil hv3
    subst hnil
    obtain ⟨c0, q0, rfl, hc0, hC0⟩ := hC.cons
    obtain ⟨x0, rfl, hl0, hu0⟩ := hc0.int
    obtain ⟨c1, q1, rfl, hc1, hC1⟩ := hC0.cons
    obtain ⟨x1, rfl, hl1, hu1⟩ := hc1.int
    obtain ⟨c2, q2, rfl, hc2, hC2⟩ := hC1.cons
    obtain ⟨x2, rfl, hl2, hu2⟩ := hc2.int
    obtain ⟨c3, q3, rfl, hc3, hC3⟩ := hC2.cons
    obtain ⟨x3, rfl, hu3⟩ := hc3.dat
    have hq : q3 = [] := hC3.nil
    subst hq
    obtain ⟨sa, sc, hs⟩ : ∃ a c, v3 = .slice a x3.length c := by simpa [SlL, SlOf] using hS
    subst hs
    have hF : Ev.inForm { Ev.zero 11 with a := x0, sn := x1, sa := x2, dia := sa, dik := x3.length, dic := sc } = true := by
      unfold Ev.inForm
      rw [if_neg (by simp [Ev.zero])]
      refine dec_all ?_ ?_
      · rw [show kindT (Ev.k { Ev.zero 11 with a := x0, sn := x1, sa := x2, dia := sa, dik := x3.length, dic := sc }) = [.int 1, .sht 30] from rfl]
        simp [okL, okT, okF, ok1, sub, shtL, clr, clrF, clr1, valI, lenS, Ev.cells, hl0, hl1, hl2, hu3]
      · simp [Ev.left, Ev.zero, Ev.empty, Ev.z_a, Ev.z_nb, Ev.z_nm, Ev.z_wh, Ev.z_cd, Ev.z_fr, Ev.z_op, Ev.z_en, Ev.z_lk, Ev.z_rc, Ev.z_rn, Ev.z_rk, Ev.z_sn, Ev.z_sa, Ev.z_dk]
    refine ⟨{ Ev.zero 11 with a := x0, sn := x1, sa := x2, dia := sa, dik := x3.length, dic := sc }, [], x3, ?_, rfl, hF, ?_, { Rg_zero 11 with a := hu0, sn := hu1, sa := hu2 }, rfl, rfl, by decide, ?_, Or.inr (Or.inl ⟨by simp [ownL, ownOf], rfl, rfl, rfl⟩)⟩
    · simp [putL, putC, Ev.cells, Ev.zero]
    · unfold Ev.err
      rw [if_neg (by rw [hF]; simp), show kindT (Ev.k { Ev.zero 11 with a := x0, sn := x1, sa := x2, dia := sa, dik := x3.length, dic := sc }) = [.int 1, .sht 30] from rfl]
      simp [ersL, er1]
    · rw [hK]
      simp [wdCs, wdC, wd1, valI, Ev.cells, sub, shtL]
end Go.Proofs.YtfeppannfcbakaaGreatDoor

namespace Go.Proofs.YtfeppannfcbakaaGreatDoor
open Go.RowKit
set_option linter.unusedVariables false
set_option maxRecDepth 100000

def St.wl : St → Nat
  | .bare w => w.length
  | .quote _ w => w.length
  | .esc _ w _ => w.length
  | .high _ w _ => w.length
  | .low _ w _ _ => w.length
  | _ => 0
theorem ws_snoc {ws : Ws} {w : List UInt8} {n : Nat} (h : ∀ y ∈ ws, y.length ≤ n) (hw : w.length ≤ n) : ∀ y ∈ ws ++ [w], y.length ≤ n := by
  intro y hy
  rcases List.mem_append.1 hy with hy | hy
  · exact h y hy
  · have : y = w := by simpa using hy
    subst this
    exact hw
theorem step_wl {s s' : St} {ws ws' : Ws} {k : Nat} {b : UInt8} (hs : s.wl ≤ k) (hw : ∀ y ∈ ws, y.length ≤ k) (h : stepW s ws k b = .go s' ws') : s'.wl ≤ k + 1 ∧ ∀ y ∈ ws', y.length ≤ k + 1 := by
  have hw1 : ∀ y ∈ ws, y.length ≤ k + 1 := fun y hy => Nat.le_succ_of_le (hw y hy)
  cases s
  all_goals
    simp only [stepW] at h
    simp only [St.wl] at hs
    repeat' split at h
  all_goals first
    | (cases h; done)
    | (simp only [Out.go.injEq] at h
       obtain ⟨rfl, rfl⟩ := h
       refine ⟨by simp only [St.wl, List.length_append, List.length_cons, List.length_nil]; omega, ?_⟩
       first
       | exact hw1
       | exact ws_snoc hw1 (by omega))
theorem fin_wl {s : St} {ws : Ws} {k : Nat} (hs : s.wl ≤ k) (hw : ∀ y ∈ ws, y.length ≤ k) : ∀ y ∈ (finW s ws k).ws, y.length ≤ k := by
  cases s <;> simp only [finW, Ans.ws]
  all_goals first
    | exact hw
    | exact ws_snoc hw hs
    | simp
theorem run_wl : ∀ {t : List UInt8} {s : St} {ws : Ws} {k : Nat}, s.wl ≤ k → (∀ y ∈ ws, y.length ≤ k) → ∀ y ∈ (runW s ws k t).ws, y.length ≤ k + t.length
  | [], s, ws, k, hs, hw => fin_wl hs hw
  | b :: t, s, ws, k, hs, hw => by
    rw [runW]
    cases h : stepW s ws k b with
    | bad j => simp [Ans.ws]
    | go s' ws' =>
      obtain ⟨h1, h2⟩ := step_wl hs hw h
      intro y hy
      have := run_wl (t := t) h1 h2 y hy
      simp only [List.length_cons]
      omega
theorem split_wl {l : List UInt8} : ∀ y ∈ (splitW l).ws, y.length ≤ 8192 := by
  unfold splitW
  split
  · simp [Ans.ws]
  · intro y hy
    have := run_wl (k := 0) (by simp [St.wl]) (by simp) y hy
    omega
theorem split_join {ws : Ws} (h : szW ws ≤ 8192) : splitW (joinW ws) = .ok ws := by
  unfold splitW
  rw [if_neg (by have := joinW_le ws; omega), run_join]
theorem run_err {t : List UInt8} : ∀ {s : St} {ws : Ws} {k : Nat}, (runW s ws k t).err = 0 → ∃ r, runW s ws k t = .ok r := by
  intro s ws k h
  cases e : runW s ws k t with
  | ok r => exact ⟨r, rfl⟩
  | byte k => rw [e] at h; simp [Ans.err] at h
  | stop n => rw [e] at h; simp [Ans.err] at h
  | long => rw [e] at h; simp [Ans.err] at h
theorem wdT_len (C : List Value) (items : Ws) (data : List UInt8) : ∀ t : Th, (wdT C items data t).length ≤ 100
  | .look o => by simp [wdT, lookL, wd1]
  | .sht o => by simp [wdT, shtL, wd1]
  | .int o => by simp [wdT, wd1]
  | .cod o => by simp [wdT, wd1]
  | .fre o => by simp [wdT, wd1]
  | .sta o => by simp [wdT, wd1]
  | .dat o => by simp [wdT, wd1]
  | .op o => Nat.le_trans (opA_len _ _ _ _ _) (by decide)
  | .res o => Nat.le_trans (resA_len _ _ _) (by decide)
theorem kd_len (k : Nat) : (kdN.getD k []).length ≤ 10 := by
  by_cases h : k < 12
  · have key : ∀ a : Fin 12, (kdN.getD a.val []).length ≤ 10 := by decide
    exact key ⟨k, h⟩
  · rw [List.getD, List.getElem?_eq_none (by simp [kdN]; omega)]
    simp
theorem sz_words {e : Ev} {items : Ws} {data : List UInt8} (hF : e.inForm = true) (hX : ersL (er1 e.cells items) (kindT e.k) = 0) (hR : e.Rg) (hd : data.length = e.dik) : szW (e.words items data) ≤ 8000 := by
  have h1 := szL (fit_of hF hX hR hd)
  have h2 := bdL e.k
  have h3 := wrtW_le (kdN.getD e.k.toNat [])
  have h4 := kd_len e.k.toNat
  rw [words_sub]
  simp only [szW, List.map_cons, List.sum_cons] at h1 ⊢
  omega
theorem err_zero {e : Ev} {items : Ws} (h : e.err items = 0) : e.inForm = true ∧ ersL (er1 e.cells items) (kindT e.k) = 0 := by
  unfold Ev.err at h
  split at h
  · simp at h
  · rename_i h1
    exact ⟨by simpa using h1, h⟩
/-- THE PURE LAW: what is written is read back. -/
theorem re_back {e : Ev} {items : Ws} {data : List UInt8} (h : e.err items = 0) (hR : e.Rg) (hd : data.length = e.dik) :
    rlErr (e.line items data) = 0 ∧ (e.line items data).length ≤ 8192 ∧ (splitW (e.line items data)).ws = kdN.getD e.k.toNat [] :: ((kindT e.k).flatMap sub).flatMap (wd1 e.cells items data) ∧ evW (kdN.getD e.k.toNat []) = some e.k.toNat ∧ ((e.k.toNat : Nat) : Int) = e.k
    ∧ (rdsL ((kindT e.k).flatMap sub) (((kindT e.k).flatMap sub).flatMap (wd1 e.cells items data))).2.2 = ((kindT e.k).flatMap sub).map (ct1 e.cells items data) := by
  obtain ⟨hF, hX⟩ := err_zero h
  have hk := inForm_k hF
  have hs := sz_words hF hX hR hd
  have hl : e.line items data = joinW (e.words items data) := by unfold Ev.line; rw [if_neg (by simp [h])]
  have hsp := split_join (ws := e.words items data) (by omega)
  have hkk : ((e.k.toNat : Nat) : Int) = e.k := Int.toNat_of_nonneg (by omega)
  have hrd := rdsL_back (b := []) (fit_of hF hX hR hd)
  rw [List.append_nil] at hrd
  have hev := ev_back hk.1 hk.2
  rw [hl, hsp]
  refine ⟨?_, by have := joinW_le (e.words items data); omega, by rw [words_sub]; rfl, hev, hkk, by rw [hrd]⟩
  have h1 : rlErr (joinW (e.words items data)) = reErr (e.words items data) := by
    unfold rlErr
    rw [if_neg (by rw [hsp]; simp [Ans.err]), hsp]
    rfl
  rw [h1, words_sub]
  simp only [reErr, hev, hkk, hrd]
  simp
theorem lenJ_szW {ws : Ws} {n : Nat} (h : ∀ x ∈ ws, x.length ≤ n) : lenJ ws ≤ ws.length * (4 * n + 16) := by
  induction ws with
  | nil => simp [lenJ]
  | cons x r ih =>
    have h1 := ih (fun y hy => h y (List.mem_cons_of_mem _ hy))
    have h3 := h x (List.mem_cons_self)
    simp only [lenJ, List.map_cons, List.sum_cons, List.length_cons] at h1 ⊢
    rw [Nat.add_mul]
    omega
theorem wd1_w {C : List Value} {items : Ws} {data : List UInt8} {t : Th} (h : Fit C items data t) : ∀ x ∈ wd1 C items data t, x.length ≤ 5000 := by
  intro x hx
  cases t with
  | int o =>
    have := itoa_len h.1 h.2
    simp only [wd1, List.mem_cons, List.not_mem_nil, or_false] at hx
    subst hx
    omega
  | cod o =>
    have := itoa_len h.1 h.2
    simp only [wd1, List.mem_cons, List.not_mem_nil, or_false] at hx
    subst hx
    omega
  | sta o =>
    have hk : ∀ k : Int, 1 ≤ k → k ≤ 3 → (stN.getD k.toNat []).length ≤ 10 := fun k h1 h3 => by
      obtain rfl | rfl | rfl : k = 1 ∨ k = 2 ∨ k = 3 := by omega
      all_goals decide
    have := hk _ h.1 h.2
    simp only [wd1, List.mem_cons, List.not_mem_nil, or_false] at hx
    subst hx
    omega
  | fre o =>
    simp only [wd1, List.mem_cons, List.not_mem_nil, or_false] at hx
    subst hx
    cases boolV C o <;> decide
  | dat o =>
    have h' : data.length ≤ 2304 := h
    simp only [wd1, List.mem_cons, List.not_mem_nil, or_false] at hx
    subst hx
    rw [hexW_len]
    omega
  | op o => exact Nat.le_trans (opA_w64 hx) (by decide)
  | res o => exact Nat.le_trans (resA_w64 hx) (by decide)
  | look o => exact absurd h (by simp [Fit])
  | sht o => exact absurd h (by simp [Fit])
theorem wdF_len (C : List Value) (items : Ws) (data : List UInt8) (l : List Th) (hl : l.length ≤ 100) : (l.flatMap (wdT C items data)).length ≤ 10000 := by
  have h : ∀ l : List Th, (l.flatMap (wdT C items data)).length ≤ 100 * l.length := by
    intro l
    induction l with
    | nil => simp
    | cons t r ih =>
      have := wdT_len C items data t
      simp only [List.flatMap_cons, List.length_append, List.length_cons]
      omega
  have := h l
  omega
theorem lenJ_words {e : Ev} {items : Ws} {data : List UInt8} (h : e.err items = 0) (hR : e.Rg) (hd : data.length = e.dik) : lenJ (e.words items data) ≤ 100000000000000 := by
  obtain ⟨hF, hX⟩ := err_zero h
  have hx : ∀ x ∈ e.words items data, x.length ≤ 5000 := by
    intro x hx
    rw [words_sub] at hx
    rcases List.mem_cons.1 hx with rfl | hx
    · have := kd_len e.k.toNat
      omega
    · obtain ⟨t, ht, hxt⟩ := List.mem_flatMap.1 hx
      exact wd1_w (fit_of hF hX hR hd t ht) x hxt
  have h1 := lenJ_szW hx
  have h2 : (e.words items data).length ≤ 10001 := by
    have : (kindT e.k).length ≤ 100 := by
      unfold kindT
      repeat' split
      all_goals decide
    have := wdF_len e.cells items data (kindT e.k) this
    simp only [Ev.words, List.length_cons]
    omega
  have h3 := Nat.mul_le_mul_right (4 * 5000 + 16) h2
  omega
end Go.Proofs.YtfeppannfcbakaaGreatDoor

namespace Go.Proofs.YtfeppannfcbakaaGreatDoor
open Go.RowKit
set_option linter.unusedVariables false
set_option maxRecDepth 100000

theorem rl_zero {l : List UInt8} (h : rlErr l = 0) : (splitW l).err = 0 ∧ reErr (splitW l).ws = 0 := by
  unfold rlErr at h
  split at h
  · rename_i h1
    exact absurd h (by omega)
  · rename_i h1
    exact ⟨by simpa using h1, h⟩
theorem re_zero {x : List UInt8} {r : Ws} {k : Nat} (h : reErr (x :: r) = 0) (hx : evW x = some k) : (rdsL ((kindT (k : Int)).flatMap sub) r).1 = 0 ∧ r.length ≤ (rdsL ((kindT (k : Int)).flatMap sub) r).2.1 := by
  simp only [reErr, hx] at h
  split at h
  · rename_i h1
    exact absurd h h1
  · rename_i h1
    split at h
    · simp at h
    · exact ⟨by simpa using h1, by omega⟩
set_option maxHeartbeats 3200000 in
/-- What an event in form needs to be written. -/
theorem tp_of {e : Ev} {items : Ws} {data : List UInt8} {cs : List Comp} (hF : e.inForm = true) (hR : e.Rg) (hd : data.length = e.dik) (hil : items.length ≤ 140737488355328) (hI : ∀ W, All cs W → Rt W (.slice e.ria e.rik e.ric) items) (hD : ∀ W, All cs W → BRd W (.slice e.dia e.dik e.dic) data) : ∀ t ∈ kindT e.k, TpWT e.cells items data cs t := by
  have hk := inForm_k hF
  have hO := (left_empty hF).1
  obtain hk | hk | hk | hk | hk | hk | hk | hk | hk | hk | hk : e.k = 1 ∨ e.k = 2 ∨ e.k = 3 ∨ e.k = 4 ∨ e.k = 5 ∨ e.k = 6 ∨ e.k = 7 ∨ e.k = 8 ∨ e.k = 9 ∨ e.k = 10 ∨ e.k = 11 := by omega
  · have hK : kindT e.k = [.int 1, .cod 5] := by rw [hk]; rfl
    rw [hK] at hO ⊢
    simp [okL, okT, okF, ok1, sub, clr, clrF, clr1, valI, Ev.cells] at hO
    intro t ht
    simp only [List.mem_cons, List.not_mem_nil, or_false] at ht
    rcases ht with rfl | rfl
    · exact ⟨e.a, rfl, by omega, hR.a⟩
    · exact ⟨e.cd, rfl, by omega, hR.cd⟩
  · have hK : kindT e.k = [.int 1, .int 2, .op 7] := by rw [hk]; rfl
    rw [hK] at hO ⊢
    simp [okL, okT, okF, ok1, sub, clr, clrF, clr1, valI, Ev.cells] at hO
    intro t ht
    simp only [List.mem_cons, List.not_mem_nil, or_false] at ht
    rcases ht with rfl | rfl | rfl
    · exact ⟨e.a, rfl, by omega, hR.a⟩
    · exact ⟨e.nb, rfl, by omega, hR.nb⟩
    · exact ⟨_, _, _, _, _, rfl, rfl, rfl, rfl, rfl⟩
  · have hK : kindT e.k = [.int 1, .int 2, .int 4, .op 7] := by rw [hk]; rfl
    rw [hK] at hO ⊢
    simp [okL, okT, okF, ok1, sub, clr, clrF, clr1, valI, Ev.cells] at hO
    intro t ht
    simp only [List.mem_cons, List.not_mem_nil, or_false] at ht
    rcases ht with rfl | rfl | rfl | rfl
    · exact ⟨e.a, rfl, by omega, hR.a⟩
    · exact ⟨e.nb, rfl, by omega, hR.nb⟩
    · exact ⟨e.wh, rfl, by omega, hR.wh⟩
    · exact ⟨_, _, _, _, _, rfl, rfl, rfl, rfl, rfl⟩
  · have hK : kindT e.k = [.int 1, .int 2, .int 3, .res 19] := by rw [hk]; rfl
    rw [hK] at hO ⊢
    simp [okL, okT, okF, ok1, sub, clr, clrF, clr1, valI, Ev.cells] at hO
    intro t ht
    simp only [List.mem_cons, List.not_mem_nil, or_false] at ht
    rcases ht with rfl | rfl | rfl | rfl
    · exact ⟨e.a, rfl, by omega, hR.a⟩
    · exact ⟨e.nb, rfl, by omega, hR.nb⟩
    · exact ⟨e.nm, rfl, by omega, hR.nm⟩
    · exact ⟨hil, e.rc, e.rn, e.ria, e.rik, e.ric, rfl, rfl, rfl, hI⟩
  · have hK : kindT e.k = [.int 1, .int 2, .int 3, .int 4, .res 19] := by rw [hk]; rfl
    rw [hK] at hO ⊢
    simp [okL, okT, okF, ok1, sub, clr, clrF, clr1, valI, Ev.cells] at hO
    intro t ht
    simp only [List.mem_cons, List.not_mem_nil, or_false] at ht
    rcases ht with rfl | rfl | rfl | rfl | rfl
    · exact ⟨e.a, rfl, by omega, hR.a⟩
    · exact ⟨e.nb, rfl, by omega, hR.nb⟩
    · exact ⟨e.nm, rfl, by omega, hR.nm⟩
    · exact ⟨e.wh, rfl, by omega, hR.wh⟩
    · exact ⟨hil, e.rc, e.rn, e.ria, e.rik, e.ric, rfl, rfl, rfl, hI⟩
  · have hK : kindT e.k = [.int 1, .int 3, .fre 6, .int 12, .int 13, .op 14, .res 19] := by rw [hk]; rfl
    rw [hK] at hO ⊢
    simp [okL, okT, okF, ok1, sub, clr, clrF, clr1, valI, Ev.cells] at hO
    intro t ht
    simp only [List.mem_cons, List.not_mem_nil, or_false] at ht
    rcases ht with rfl | rfl | rfl | rfl | rfl | rfl | rfl
    · exact ⟨e.a, rfl, by omega, hR.a⟩
    · exact ⟨e.nm, rfl, by omega, hR.nm⟩
    · exact ⟨e.fr, rfl⟩
    · exact ⟨e.ec, rfl, by omega, hR.ec⟩
    · exact ⟨e.en, rfl, by omega, hR.en⟩
    · exact ⟨_, _, _, _, _, rfl, rfl, rfl, rfl, rfl⟩
    · exact ⟨hil, e.rc, e.rn, e.ria, e.rik, e.ric, rfl, rfl, rfl, hI⟩
  · have hK : kindT e.k = [.int 1, .look 22] := by rw [hk]; rfl
    rw [hK] at hO ⊢
    simp [okL, okT, okF, ok1, sub, lookL, clr, clrF, clr1, valI, Ev.cells] at hO
    intro t ht
    simp only [List.mem_cons, List.not_mem_nil, or_false] at ht
    rcases ht with rfl | rfl
    · exact ⟨e.a, rfl, by omega, hR.a⟩
    · intro x hx
      simp only [lookL, List.mem_cons, List.not_mem_nil, or_false] at hx
      rcases hx with rfl | rfl | rfl | rfl | rfl | rfl | rfl | rfl
      · exact ⟨e.l0, rfl, by omega, hR.l0⟩
      · exact ⟨e.l1.toNat, by rw [Int.toNat_of_nonneg (by omega)]; rfl, by omega⟩
      · exact ⟨e.l2, rfl, by omega, hR.l2⟩
      · exact ⟨e.l3, rfl, by omega, hR.l3⟩
      · exact ⟨e.l4, rfl, by omega, hR.l4⟩
      · exact ⟨e.l5, rfl, by omega, hR.l5⟩
      · exact ⟨e.l6, rfl, by omega, hR.l6⟩
      · exact ⟨e.l7, rfl, by omega, hR.l7⟩
  · have hK : kindT e.k = [.int 1] := by rw [hk]; rfl
    rw [hK] at hO ⊢
    simp [okL, okT, okF, ok1, sub, valI, Ev.cells] at hO
    intro t ht
    simp only [List.mem_cons, List.not_mem_nil, or_false] at ht
    subst ht
    · exact ⟨e.a, rfl, by omega, hR.a⟩
  · have hK : kindT e.k = [.int 1] := by rw [hk]; rfl
    rw [hK] at hO ⊢
    simp [okL, okT, okF, ok1, sub, valI, Ev.cells] at hO
    intro t ht
    simp only [List.mem_cons, List.not_mem_nil, or_false] at ht
    subst ht
    · exact ⟨e.a, rfl, by omega, hR.a⟩
  · have hK : kindT e.k = [.int 1, .look 22] := by rw [hk]; rfl
    rw [hK] at hO ⊢
    simp [okL, okT, okF, ok1, sub, lookL, clr, clrF, clr1, valI, Ev.cells] at hO
    intro t ht
    simp only [List.mem_cons, List.not_mem_nil, or_false] at ht
    rcases ht with rfl | rfl
    · exact ⟨e.a, rfl, by omega, hR.a⟩
    · intro x hx
      simp only [lookL, List.mem_cons, List.not_mem_nil, or_false] at hx
      rcases hx with rfl | rfl | rfl | rfl | rfl | rfl | rfl | rfl
      · exact ⟨e.l0, rfl, by omega, hR.l0⟩
      · exact ⟨e.l1.toNat, by rw [Int.toNat_of_nonneg (by omega)]; rfl, by omega⟩
      · exact ⟨e.l2, rfl, by omega, hR.l2⟩
      · exact ⟨e.l3, rfl, by omega, hR.l3⟩
      · exact ⟨e.l4, rfl, by omega, hR.l4⟩
      · exact ⟨e.l5, rfl, by omega, hR.l5⟩
      · exact ⟨e.l6, rfl, by omega, hR.l6⟩
      · exact ⟨e.l7, rfl, by omega, hR.l7⟩
  · have hK : kindT e.k = [.int 1, .sht 30] := by rw [hk]; rfl
    rw [hK] at hO ⊢
    simp [okL, okT, okF, ok1, sub, shtL, clr, clrF, clr1, valI, lenS, Ev.cells] at hO
    intro t ht
    simp only [List.mem_cons, List.not_mem_nil, or_false] at ht
    rcases ht with rfl | rfl
    · exact ⟨e.a, rfl, by omega, hR.a⟩
    · intro x hx
      simp only [shtL, List.mem_cons, List.not_mem_nil, or_false] at hx
      rcases hx with rfl | rfl | rfl
      · exact ⟨e.sn, rfl, by omega, hR.sn⟩
      · exact ⟨e.sa, rfl, by omega, hR.sa⟩
      · exact ⟨by omega, e.dia, e.dik, e.dic, rfl, hD⟩
end Go.Proofs.YtfeppannfcbakaaGreatDoor

namespace Go.Proofs.YtfeppannfcbakaaGreatDoor
open Go.RowKit
set_option linter.unusedVariables false
set_option maxRecDepth 100000

set_option maxHeartbeats 3200000 in
set_option maxRecDepth 1000000 in
theorem sameOp_true (k n m : Int) (nm tx : ByteArray) {cs : List Comp} {w : World} (A : All cs w) : Calls Tryz.prog 31 #[.agg #[.int .i64 k, .string nm, .string tx, .int .i64 n, .int .i64 m], .agg #[.int .i64 k, .string nm, .string tx, .int .i64 n, .int .i64 m]] w fun e w' => e = .returned (.bool true) ∧ All cs w' := by
  have A0 := hid ((A.addBlk [.int .i64 k, .string nm, .string tx, .int .i64 n, .int .i64 m] 24).addBlk [.int .i64 k, .string nm, .string tx, .int .i64 n, .int .i64 m] 24)
  rw [alloc_size] at A0
  have c0_0 := cell_in (P := w.heap.size) (o := 0) (v := .int .i64 k) A0.out (t := 24) (List.mem_cons_of_mem _ (List.mem_cons_self)) rfl
  have c0_1 := cell_in (P := w.heap.size) (o := 1) (v := .string nm) A0.out (t := 24) (List.mem_cons_of_mem _ (List.mem_cons_self)) rfl
  have c0_2 := cell_in (P := w.heap.size) (o := 2) (v := .string tx) A0.out (t := 24) (List.mem_cons_of_mem _ (List.mem_cons_self)) rfl
  have c0_3 := cell_in (P := w.heap.size) (o := 3) (v := .int .i64 n) A0.out (t := 24) (List.mem_cons_of_mem _ (List.mem_cons_self)) rfl
  have c0_4 := cell_in (P := w.heap.size) (o := 4) (v := .int .i64 m) A0.out (t := 24) (List.mem_cons_of_mem _ (List.mem_cons_self)) rfl
  have c1_0 := cell_in (P := (w.heap.size + 1)) (o := 0) (v := .int .i64 k) A0.out (t := 24) (List.mem_cons_self) rfl
  have c1_1 := cell_in (P := (w.heap.size + 1)) (o := 1) (v := .string nm) A0.out (t := 24) (List.mem_cons_self) rfl
  have c1_2 := cell_in (P := (w.heap.size + 1)) (o := 2) (v := .string tx) A0.out (t := 24) (List.mem_cons_self) rfl
  have c1_3 := cell_in (P := (w.heap.size + 1)) (o := 3) (v := .int .i64 n) A0.out (t := 24) (List.mem_cons_self) rfl
  have c1_4 := cell_in (P := (w.heap.size + 1)) (o := 4) (v := .int .i64 m) A0.out (t := 24) (List.mem_cons_self) rfl
  have KK := hid A0.out.tail.tail
  clear A A0
  go_enter Tryz.func31, Tryz.ntmps31
  go_wp2
  go_ret
  exact ⟨by first | rfl | simp, KK.out⟩
set_option maxHeartbeats 3200000 in
set_option maxRecDepth 1000000 in
theorem sameLook_true (l0 l1 l2 l3 l4 l5 l6 l7 : Int) {cs : List Comp} {w : World} (A : All cs w) : Calls Tryz.prog 32 #[.agg #[.int .i64 l0, .int .i64 l1, .int .i64 l2, .int .i64 l3, .int .i64 l4, .int .i64 l5, .int .i64 l6, .int .i64 l7], .agg #[.int .i64 l0, .int .i64 l1, .int .i64 l2, .int .i64 l3, .int .i64 l4, .int .i64 l5, .int .i64 l6, .int .i64 l7]] w fun e w' => e = .returned (.bool true) ∧ All cs w' := by
  have A0 := hid ((A.addBlk [.int .i64 l0, .int .i64 l1, .int .i64 l2, .int .i64 l3, .int .i64 l4, .int .i64 l5, .int .i64 l6, .int .i64 l7] 31).addBlk [.int .i64 l0, .int .i64 l1, .int .i64 l2, .int .i64 l3, .int .i64 l4, .int .i64 l5, .int .i64 l6, .int .i64 l7] 31)
  rw [alloc_size] at A0
  have c0_0 := cell_in (P := w.heap.size) (o := 0) (v := .int .i64 l0) A0.out (t := 31) (List.mem_cons_of_mem _ (List.mem_cons_self)) rfl
  have c0_1 := cell_in (P := w.heap.size) (o := 1) (v := .int .i64 l1) A0.out (t := 31) (List.mem_cons_of_mem _ (List.mem_cons_self)) rfl
  have c0_2 := cell_in (P := w.heap.size) (o := 2) (v := .int .i64 l2) A0.out (t := 31) (List.mem_cons_of_mem _ (List.mem_cons_self)) rfl
  have c0_3 := cell_in (P := w.heap.size) (o := 3) (v := .int .i64 l3) A0.out (t := 31) (List.mem_cons_of_mem _ (List.mem_cons_self)) rfl
  have c0_4 := cell_in (P := w.heap.size) (o := 4) (v := .int .i64 l4) A0.out (t := 31) (List.mem_cons_of_mem _ (List.mem_cons_self)) rfl
  have c0_5 := cell_in (P := w.heap.size) (o := 5) (v := .int .i64 l5) A0.out (t := 31) (List.mem_cons_of_mem _ (List.mem_cons_self)) rfl
  have c0_6 := cell_in (P := w.heap.size) (o := 6) (v := .int .i64 l6) A0.out (t := 31) (List.mem_cons_of_mem _ (List.mem_cons_self)) rfl
  have c0_7 := cell_in (P := w.heap.size) (o := 7) (v := .int .i64 l7) A0.out (t := 31) (List.mem_cons_of_mem _ (List.mem_cons_self)) rfl
  have c1_0 := cell_in (P := (w.heap.size + 1)) (o := 0) (v := .int .i64 l0) A0.out (t := 31) (List.mem_cons_self) rfl
  have c1_1 := cell_in (P := (w.heap.size + 1)) (o := 1) (v := .int .i64 l1) A0.out (t := 31) (List.mem_cons_self) rfl
  have c1_2 := cell_in (P := (w.heap.size + 1)) (o := 2) (v := .int .i64 l2) A0.out (t := 31) (List.mem_cons_self) rfl
  have c1_3 := cell_in (P := (w.heap.size + 1)) (o := 3) (v := .int .i64 l3) A0.out (t := 31) (List.mem_cons_self) rfl
  have c1_4 := cell_in (P := (w.heap.size + 1)) (o := 4) (v := .int .i64 l4) A0.out (t := 31) (List.mem_cons_self) rfl
  have c1_5 := cell_in (P := (w.heap.size + 1)) (o := 5) (v := .int .i64 l5) A0.out (t := 31) (List.mem_cons_self) rfl
  have c1_6 := cell_in (P := (w.heap.size + 1)) (o := 6) (v := .int .i64 l6) A0.out (t := 31) (List.mem_cons_self) rfl
  have c1_7 := cell_in (P := (w.heap.size + 1)) (o := 7) (v := .int .i64 l7) A0.out (t := 31) (List.mem_cons_self) rfl
  have KK := hid A0.out.tail.tail
  clear A A0
  go_enter Tryz.func32, Tryz.ntmps32
  go_wp2
  go_ret
  exact ⟨by first | rfl | simp, KK.out⟩
set_option maxHeartbeats 3200000 in
set_option maxRecDepth 1000000 in
theorem sameTexts_true {r s : Value} {l : Ws} {cs : List Comp} {w : World} (A : All cs w) (hr : ∀ W, All cs W → Rt W r l) (hs : ∀ W, All cs W → Rt W s l) (hl : l.length ≤ 140737488355328) : Calls Tryz.prog 33 #[r, s] w fun e w' => e = .returned (.bool true) ∧ All cs w' := by
  obtain ⟨a1, c1, rfl⟩ := (hr w A).form
  obtain ⟨a2, c2, rfl⟩ := (hs w A).form
  have GA : Hid (∀ W i, All cs W → i < l.length → ∃ g o, a1 = some ⟨g, o, none⟩ ∧ g < W.heap.size ∧ W.cell? ⟨g, o + i, none⟩ = some (.string ⟨(l.getD i []).toArray⟩)) := hid (fun W i h hi => (hr W h).at hi)
  have GB : Hid (∀ W i, All cs W → i < l.length → ∃ g o, a2 = some ⟨g, o, none⟩ ∧ g < W.heap.size ∧ W.cell? ⟨g, o + i, none⟩ = some (.string ⟨(l.getD i []).toArray⟩)) := hid (fun W i h hi => (hs W h).at hi)
  have KK := hid A
  clear A hr hs
  generalize hn : l.length = n at *
  clear hn
  go_enter Tryz.func33, Tryz.ntmps33
  go_wp2
  go_loopw [5] (fun iv wr => ∃ k q : Nat, k ≤ n ∧ iv = .int .i64 (k : Int) ∧ w.drewN q = wr) (fun iv _ => n - (intOf iv).toNat)
  case atStart => exact ⟨0, 0, by omega, rfl, rfl⟩
  case round =>
    obtain ⟨k, q, hk, rfl, rfl⟩ := hrel
    by_cases hlt : k < n
    · have hlt' : (k : Int) < (n : Int) := by omega
      obtain ⟨g1, o1, rfl, e1, f1⟩ := GA.out _ k KK.out hlt
      obtain ⟨g2, o2, rfl, e2, f2⟩ := GB.out _ k KK.out hlt
      generalize ByteArray.mk (l.getD k []).toArray = X at *
      have hb' : (X.toList != X.toList) = false := by simp
      go_wp2
      go_region
      go_wp2
      go_roundw
      case rel => exact ⟨k + 1, q + 1, by omega, by go_num, by rfl⟩
      case measure => simp [intOf]; omega
    · have hlt' : ¬ (k : Int) < (n : Int) := by omega
      go_wp2
      go_ret
      exact ⟨rfl, KK.out.later (bdN _ _)⟩
set_option maxHeartbeats 3200000 in
set_option maxRecDepth 1000000 in
theorem same_true {r s : Value} {l : List UInt8} {cs : List Comp} {w : World} (A : All cs w) (hr : ∀ W, All cs W → BRd W r l) (hs : ∀ W, All cs W → BRd W s l) (hl : l.length ≤ 140737488355328) : Calls Tryz.prog 34 #[r, s] w fun e w' => e = .returned (.bool true) ∧ All cs w' := by
  obtain ⟨a1, c1, rfl⟩ := (hr w A).form
  obtain ⟨a2, c2, rfl⟩ := (hs w A).form
  have GA : Hid (∀ W i, All cs W → i < l.length → ∃ g o b, a1 = some ⟨g, o, none⟩ ∧ l[i]? = some b ∧ W.cell? ⟨g, o + i, none⟩ = some (.int .u8 (b.toNat : Int))) := hid (fun W i h hi => (hr W h).at hi)
  have GB : Hid (∀ W i, All cs W → i < l.length → ∃ g o b, a2 = some ⟨g, o, none⟩ ∧ l[i]? = some b ∧ W.cell? ⟨g, o + i, none⟩ = some (.int .u8 (b.toNat : Int))) := hid (fun W i h hi => (hs W h).at hi)
  have KK := hid A
  clear A hr hs
  generalize hn : l.length = n at *
  clear hn
  go_enter Tryz.func34, Tryz.ntmps34
  go_wp2
  go_loopw [5] (fun iv wr => ∃ k q : Nat, k ≤ n ∧ iv = .int .i64 (k : Int) ∧ w.drewN q = wr) (fun iv _ => n - (intOf iv).toNat)
  case atStart => exact ⟨0, 0, by omega, rfl, rfl⟩
  case round =>
    obtain ⟨k, q, hk, rfl, rfl⟩ := hrel
    by_cases hlt : k < n
    · have hlt' : (k : Int) < (n : Int) := by omega
      obtain ⟨g1, o1, x1, rfl, e1, f1⟩ := GA.out _ k KK.out hlt
      obtain ⟨g2, o2, x2, rfl, e2, f2⟩ := GB.out _ k KK.out hlt
      have ex : x1 = x2 := by rw [e1] at e2; exact Option.some.inj e2
      subst ex
      generalize (x1.toNat : Int) = X at *
      have hb' : (X != X) = false := by simp
      clear e1 e2
      go_wp2
      go_region
      go_wp2
      go_roundw
      case rel => exact ⟨k + 1, q + 1, by omega, by go_num, by rfl⟩
      case measure => simp [intOf]; omega
    · have hlt' : ¬ (k : Int) < (n : Int) := by omega
      go_wp2
      go_ret
      exact ⟨rfl, KK.out.later (bdN _ _)⟩
end Go.Proofs.YtfeppannfcbakaaGreatDoor
