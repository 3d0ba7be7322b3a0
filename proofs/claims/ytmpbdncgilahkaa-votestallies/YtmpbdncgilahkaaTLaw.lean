import Derived.Test.YtmpbdncgilahkaaMs
import Derived.Test.YtmpbdncgilahkaaIn
import Derived.Test.YtmpbdncgilahkaaLastP
import Derived.Deep.DeepCutAuto
import Derived.Deep.CutBlock
namespace Go.Proofs.Ytmpbdncgilahkaa
open Go.RowKit
set_option linter.unusedVariables false

structure St where
  kind : Int
  on : Int
  who : Int
  v : Int
def St.cells (x : St) : List Value := [.int .i64 x.kind, .int .i64 x.on, .int .i64 x.who, .int .i64 x.v]
structure St.Ok (x : St) : Prop where
  on : -9223372036854775808 ≤ x.on ∧ x.on < 9223372036854775808
  who : -9223372036854775808 ≤ x.who ∧ x.who < 9223372036854775808
  v : -9223372036854775808 ≤ x.v ∧ x.v < 9223372036854775808
/-- A script that came in. -/
def StsAt (w : World) (v : Value) (xs : List St) : Prop := ∃ ao c, v = .slice ao xs.length c ∧ xs.length ≤ maxLen ∧ (xs = [] ∨ ∃ b off, ao = some ⟨b, off, none⟩ ∧ b < w.heap.size ∧ ∀ i x, xs[i]? = some x → ∀ j u, x.cells[j]? = some u → w.cell? ⟨b, off + i * 4 + j, none⟩ = some u)
theorem StsAt.at {w w' : World} {ao : Option Addr} {n c : Nat} {xs : List St} (h : StsAt w (.slice ao n c) xs) (hb : Below w.heap.size w w') {i : Nat} {x : St} (hi : xs[i]? = some x) :
    ∃ b off, ao = some ⟨b, off, none⟩ ∧ w'.cell? ⟨b, off + i * 4, none⟩ = some (.int .i64 x.kind) ∧ w'.cell? ⟨b, off + i * 4 + 1, none⟩ = some (.int .i64 x.on) ∧ w'.cell? ⟨b, off + i * 4 + 2, none⟩ = some (.int .i64 x.who) ∧ w'.cell? ⟨b, off + i * 4 + 3, none⟩ = some (.int .i64 x.v) := by
  obtain ⟨ao', c', e, _, hcase⟩ := h
  simp only [Value.slice.injEq] at e
  obtain ⟨rfl, rfl, rfl⟩ := e
  rcases hcase with rfl | ⟨b, off, rfl, hlt, hc⟩
  · simp at hi
  · exact ⟨b, off, rfl, cell_under hb hlt (hc i x hi 0 _ rfl), cell_under hb hlt (hc i x hi 1 _ rfl), cell_under hb hlt (hc i x hi 2 _ rfl), cell_under hb hlt (hc i x hi 3 _ rfl)⟩

theorem IntsAt.at {w w' : World} {ao : Option Addr} {n c : Nat} {xs : List Int} (h : IntsAt w (.slice ao n c) xs) (hb : Below w.heap.size w w') {i : Nat} {x : Int} (hi : xs[i]? = some x) :
    ∃ b off, ao = some ⟨b, off, none⟩ ∧ w'.cell? ⟨b, off + i, none⟩ = some (.int .i64 x) := by
  obtain ⟨ao', c', e, _, hcase⟩ := h
  simp only [Value.slice.injEq] at e
  obtain ⟨rfl, rfl, rfl⟩ := e
  rcases hcase with ⟨rfl, _⟩ | ⟨b, off, rfl, hlt, hc⟩
  · simp at hi
  · exact ⟨b, off, rfl, cell_under hb hlt (hc i _ (by rw [List.getElem?_map, hi]; rfl))⟩

theorem made_any {w : World} (n : Int) : Calls Try.prog 21 #[.int .i64 n] w fun e w' => ∃ x : Option Tg, e = .returned (.tuple #[.agg (cellsT x).toArray, .bool true]) ∧ Below w.heap.size w w' ∧ ∀ t, x = some t → Th w' t ∧ ∀ k ∈ blk5 t.a t.b t.f, w.heap.size ≤ k := by
  by_cases h : 1 ≤ n ∧ n ≤ 7
  · refine (made_ok h.1 h.2).mono ?_
    rintro e w' ⟨t, rfl, hb, ht, hk⟩
    exact ⟨some t, rfl, hb, fun t' e => by cases e; exact ⟨ht, hk⟩⟩
  · refine (made_bad (by omega)).mono ?_
    rintro e w' ⟨rfl, hb⟩
    exact ⟨none, rfl, hb, fun t' e => by cases e⟩

theorem MS.first {w0 W : World} (hb : Below w0.heap.size w0 W) : MS w0 W.heap.size [none, none, none] (W.alloc (.cells #[.pointer none, .pointer none, .pointer none, .pointer none, .pointer none, .pointer none, .pointer none, .pointer none, .pointer none] 43)) := by
  refine ⟨heap_alloc_new W _, rfl, ?_, ?_, hb.alloc hb.size _, hb.size⟩
  · intro i t hi
    match i, hi with
    | 0, h => simp at h
    | 1, h => simp at h
    | 2, h => simp at h
  · intro i j t u _ hi
    match i, hi with
    | 0, h => simp at h
    | 1, h => simp at h
    | 2, h => simp at h

theorem MS.three {w0 W : World} {L k : Nat} {ts : List (Option Tg)} (h : MS w0 L ts W) (hk : k < 3) : ∃ u0 u1 u2 : Value, W.cell? ⟨L, k * 3, none⟩ = some u0 ∧ W.cell? ⟨L, k * 3 + 1, none⟩ = some u1 ∧ W.cell? ⟨L, k * 3 + 2, none⟩ = some u2 := by
  obtain ⟨x, hx⟩ : ∃ x, ts[k]? = some x := ⟨_, List.getElem?_eq_getElem (by rw [h.len]; exact hk)⟩
  have e : ∃ u0 u1 u2, cellsT x = [u0, u1, u2] := by cases x <;> exact ⟨_, _, _, rfl⟩
  obtain ⟨u0, u1, u2, e⟩ := e
  exact ⟨u0, u1, u2, h.cell (j := 0) hx (by omega) (by rw [e]; rfl), h.cell (j := 1) hx (by omega) (by rw [e]; rfl), h.cell (j := 2) hx (by omega) (by rw [e]; rfl)⟩

theorem MS.lay {w0 W0 W : World} {L i : Nat} {ts : List (Option Tg)} {x : Option Tg} {v0 v1 v2 : Value} (h0 : MS w0 L ts W0) (h : MS w0 L ts W) (hx : cellsT x = [v0, v1, v2]) (hi : i < 3) (hy : ∀ t, x = some t → Th W t ∧ ∀ k ∈ blk5 t.a t.b t.f, W0.heap.size ≤ k) :
    MS w0 L (ts.set i x) (((W.setCell ⟨L, i * 3, none⟩ v0).setCell ⟨L, i * 3 + 1, none⟩ v1).setCell ⟨L, i * 3 + 2, none⟩ v2) := by
  refine h.put hx hi (fun t e => ⟨(hy t e).1, fun k hk => ?_⟩)
  have h1 := (hy t e).2 k hk
  have h2 := h0.be.size
  have h3 := h0.lt
  exact ⟨by omega, by omega, fun j u hu hku => by have := (h0.each j u hu).1.lt k hku; omega⟩

theorem cell_blk {w w' : World} {b j : Nat} (h : w'.heap[b]? = w.heap[b]?) : w'.cell? ⟨b, j, none⟩ = w.cell? ⟨b, j, none⟩ := by
  unfold World.cell?; rw [h]

theorem th_clone {wA wB wC : World} {t : Tg} {Qa Qb : Nat} {u : Rfs} (hTa : TalI wA Qa t.f.n (wsOf t.f)) (hBb : Below wA.heap.size wA wB) (hQb : wA.heap.size ≤ Qb) (hTb : TalS wB Qb t.f.n (wsT t.f)) (hBc : Below wB.heap.size wB wC) (hR : Rf wC u) (en : u.n = t.f.n) (es : u.said = t.f.said) (ep : u.spoke = t.f.spoke) (h1 : wB.heap.size ≤ u.r) (h2 : wB.heap.size ≤ u.s) (h3 : wB.heap.size ≤ u.p) : Th wC ⟨Qa, Qb, u⟩ := by
  have e1 : wsOf u = wsOf t.f := by unfold wsOf; rw [en, es, ep]
  have e2 : wsT u = wsT t.f := by unfold wsT; rw [e1]
  have la := hTa.lt
  have lb := hTb.lt
  have lab := hBb.size
  refine ⟨?_, ?_, hR, ?_, ?_, ?_, ?_, ?_, ?_, ?_⟩
  · show TalI wC Qa u.n (wsOf u)
    rw [en, e1]
    exact (hTa.keep (hBb.block _ la)).keep (hBc.block _ (by omega))
  · show TalS wC Qb u.n (wsT u)
    rw [en, e2]
    exact hTb.keep (hBc.block _ lb)
  all_goals (simp only; omega)

set_option maxHeartbeats 4000000 in
set_option maxRecDepth 1000000 in
theorem tal_walk {w : World} {v0 v1 : Value} {xs : List Int} {ss : List St} (hx : IntsAt w v0 xs) (hs : StsAt w v1 ss) (hok : ∀ s ∈ ss, s.Ok) :
    Calls Try.prog 7 #[v0, v1] w fun e w' => e = .returned (.bool true) ∧ Below w.heap.size w w' := by
  obtain ⟨ao, cap, rfl, hcap, _⟩ := id hx
  obtain ⟨so, sc, rfl, hsl, _⟩ := id hs
  unfold maxLen at hsl
  have X := hid hx
  have SS := hid hs
  have OK := hid hok
  have hcap := hid hcap
  obtain ⟨len, hlen⟩ : ∃ len, Hid (xs.length = len) := ⟨_, hid rfl⟩
  obtain ⟨sl, hsle⟩ : ∃ sl, Hid (ss.length = sl) := ⟨_, hid rfl⟩
  rw [hlen.out] at hcap ⊢
  rw [hsle.out] at hsl ⊢
  clear hx hs hok
  go_enter Try.func7, Try.ntmps7
  go_wp2_with fail
  refine shown_any.mono ?_
  rintro e w1 ⟨rfl, B1⟩
  have M1 := hid (MS.first B1)
  clear B1
  go_wp2_with fail
  generalize w1.alloc (.cells #[.pointer none, .pointer none, .pointer none, .pointer none, .pointer none, .pointer none, .pointer none, .pointer none, .pointer none] 43) = w2 at M1 ⊢
  generalize w1.heap.size = L at M1 ⊢
  go_loopw [7] (fun kv wr => ∃ k : Nat, k ≤ 3 ∧ kv = .int .i64 k ∧ ∃ ts, Hid (MS w L ts wr)) (fun kv _ => match kv with | .int _ i => ((3 : Int) - i).toNat | _ => 0)
  case atStart => exact ⟨0, by omega, rfl, _, M1⟩
  case round =>
    clear M1
    obtain ⟨k, hk, rfl, ts, M⟩ := hrel
    by_cases hk3 : k < 3
    · have hk3i : (k : Int) < 3 := by omega
      by_cases hlt : k < len
      · have hlti : (k : Int) < len := by omega
        obtain ⟨x, hx⟩ : ∃ x, xs[k]? = some x := ⟨_, List.getElem?_eq_getElem (by have := hlen.out; omega)⟩
        obtain ⟨sb, sof, hso, cx⟩ := X.out.at M.out.be hx
        subst hso
        clear hx
        go_wp2_with fail
        refine (made_any x).mono ?_
        rintro e wa ⟨y, rfl, hB, hy⟩
        have Ma := hid (M.out.later hB)
        have hy : Hid (∀ t, y = some t → Th wa t ∧ ∀ k ∈ blk5 t.a t.b t.f, wr.heap.size ≤ k) := hid hy
        clear hB
        rcases y with _ | t
        · simp only [cellsT]
          obtain ⟨z0, z1, z2, m0, m1, m2⟩ := Ma.out.three hk3
          have f0 := Ma.out.free (k * 3)
          have f1 := Ma.out.free (k * 3 + 1)
          have f2 := Ma.out.free (k * 3 + 2)
          have lL := Ma.out.lt
          go_wp2_with fail
          go_roundw
          case rel => exact ⟨k + 1, by omega, by go_num, _, hid ((M.out.lay (x := none) Ma.out rfl hk3 hy.out).later (ba _ _))⟩
          case measure => simp; omega
        · simp only [cellsT]
          obtain ⟨z0, z1, z2, m0, m1, m2⟩ := Ma.out.three hk3
          have f0 := Ma.out.free (k * 3)
          have f1 := Ma.out.free (k * 3 + 1)
          have f2 := Ma.out.free (k * 3 + 2)
          have lL := Ma.out.lt
          go_wp2_with fail
          go_roundw
          case rel => exact ⟨k + 1, by omega, by go_num, _, hid ((M.out.lay (x := some t) Ma.out rfl hk3 hy.out).later (ba _ _))⟩
          case measure => simp; omega
      · have hlti : decide ((k : Int) < len) = false := decide_eq_false (by omega)
        have hlti2 : decide (k < len) = false := decide_eq_false (by omega)
        go_wp2_with fail
        refine (made_any 3).mono ?_
        rintro e wa ⟨y, rfl, hB, hy⟩
        have Ma := hid (M.out.later hB)
        have hy : Hid (∀ t, y = some t → Th wa t ∧ ∀ k ∈ blk5 t.a t.b t.f, wr.heap.size ≤ k) := hid hy
        clear hB
        rcases y with _ | t
        · simp only [cellsT]
          obtain ⟨z0, z1, z2, m0, m1, m2⟩ := Ma.out.three hk3
          have f0 := Ma.out.free (k * 3)
          have f1 := Ma.out.free (k * 3 + 1)
          have f2 := Ma.out.free (k * 3 + 2)
          have lL := Ma.out.lt
          go_wp2_with fail
          go_roundw
          case rel => exact ⟨k + 1, by omega, by go_num, _, hid ((M.out.lay (x := none) Ma.out rfl hk3 hy.out).later (ba _ _))⟩
          case measure => simp; omega
        · simp only [cellsT]
          obtain ⟨z0, z1, z2, m0, m1, m2⟩ := Ma.out.three hk3
          have f0 := Ma.out.free (k * 3)
          have f1 := Ma.out.free (k * 3 + 1)
          have f2 := Ma.out.free (k * 3 + 2)
          have lL := Ma.out.lt
          go_wp2_with fail
          go_roundw
          case rel => exact ⟨k + 1, by omega, by go_num, _, hid ((M.out.lay (x := some t) Ma.out rfl hk3 hy.out).later (ba _ _))⟩
          case measure => simp; omega
    · have hk3i : decide ((k : Int) < 3) = false := decide_eq_false (by omega)
      clear X hlen hcap hk hk3
      go_wp2_with fail
      generalize hj : Value.int IntKind.i64 (k : Int) = junk
      clear hj hk3i
      go_loopw [11] (fun iv wr => ∃ i : Nat, i ≤ sl ∧ iv = .int .i64 i ∧ ∃ ts, Hid (MS w L ts wr)) (fun iv _ => match iv with | .int _ i => ((sl : Int) - i).toNat | _ => 0)
      case atStart => exact ⟨0, by omega, rfl, _, M⟩
      case round =>
        clear M
        obtain ⟨i, hi, rfl, ts, M⟩ := hrel
        by_cases hlt : i < sl
        · have hlti : (i : Int) < sl := by omega
          obtain ⟨x, hx⟩ : ∃ x, ss[i]? = some x := ⟨_, List.getElem?_eq_getElem (by have := hsle.out; omega)⟩
          obtain ⟨sb, sof, hso, x0, x1, x2, x3⟩ := SS.out.at M.out.be hx
          have hxo := hid (OK.out x (List.mem_of_getElem? hx))
          subst hso
          obtain ⟨kd, on, who, vv⟩ := x
          simp only at x0 x1 x2 x3
          obtain ⟨k, hkk, hk3⟩ : ∃ k : Nat, Hid (pk on 3 = k) ∧ k < 3 := by
            have h1 := pk_nn (c := on) (n := 3) (by omega)
            have h2 := pk_lt (c := on) (n := 3) (by omega)
            exact ⟨(pk on 3).toNat, hid (by omega), by omega⟩
          have hk3i : (k : Int) < 3 := by omega
          have MX := hid (M.out.later (ba _ (.cells #[.int .i64 kd, .int .i64 on, .int .i64 who, .int .i64 vv] 47)))
          have hX := hid (heap_alloc_new wr (.cells #[.int .i64 kd, .int .i64 on, .int .i64 who, .int .i64 vv] 47))
          have HXB := hid (fun (j : Nat) (t : Tg) (h : ts[j]? = some (some t)) (k : Nat) (hk : k ∈ blk5 t.a t.b t.f) => Nat.ne_of_lt ((M.out.each j t h).1.lt k hk))
          have hLX := M.out.lt
          clear hx M
          go_wp2_with fail
          refine (pick_any hxo.out.on.1 hxo.out.on.2 (by omega) (by omega)).mono ?_
          rintro e wx ⟨rfl, rfl⟩
          rw [hkk.out]
          generalize wr.alloc (.cells #[.int .i64 kd, .int .i64 on, .int .i64 who, .int .i64 vv] 47) = wx at MX hX ⊢
          generalize wr.heap.size = Xb at hX HXB hLX ⊢
          clear x0 x1 x2 x3
          have y0 := cell_at hX.out 0
          have y1 := cell_at hX.out 1
          have y2 := cell_at hX.out 2
          have y3 := cell_at hX.out 3
          simp only [List.getElem?_toArray, List.getElem?_cons_zero, List.getElem?_cons_succ] at y0 y1 y2 y3
          by_cases h9 : kd = 9
          · subst h9
            go_wp2_with fail
            refine (made_any vv).mono ?_
            rintro e wa ⟨y, rfl, hB, hy⟩
            have Ma := hid (MX.out.later hB)
            have hy : Hid (∀ t, y = some t → Th wa t ∧ ∀ k ∈ blk5 t.a t.b t.f, wx.heap.size ≤ k) := hid hy
            clear hB y0 y1 y2 y3
            rcases y with _ | t
            · simp only [cellsT]
              obtain ⟨z0, z1, z2, m0, m1, m2⟩ := Ma.out.three hk3
              have f0 := Ma.out.free (k * 3)
              have f1 := Ma.out.free (k * 3 + 1)
              have f2 := Ma.out.free (k * 3 + 2)
              have lL := Ma.out.lt
              go_wp2_with fail
              go_roundw
              case rel => exact ⟨i + 1, by omega, by go_num, _, hid ((MX.out.lay (x := none) Ma.out rfl hk3 hy.out).later (ba _ _))⟩
              case measure => simp; omega
            · simp only [cellsT]
              obtain ⟨z0, z1, z2, m0, m1, m2⟩ := Ma.out.three hk3
              have f0 := Ma.out.free (k * 3)
              have f1 := Ma.out.free (k * 3 + 1)
              have f2 := Ma.out.free (k * 3 + 2)
              have lL := Ma.out.lt
              go_wp2_with fail
              go_roundw
              case rel => exact ⟨i + 1, by omega, by go_num, _, hid ((MX.out.lay (x := some t) Ma.out rfl hk3 hy.out).later (ba _ _))⟩
              case measure => simp; omega
          · have h9b : (kd == 9) = false := by simp [h9]
            obtain ⟨y, hyk⟩ : ∃ y, ts[k]? = some y := ⟨_, List.getElem?_eq_getElem (by rw [MX.out.len]; exact hk3)⟩
            rcases y with _ | t
            · have m2 := MX.out.cell (j := 2) hyk (by omega) rfl
              have hyk := hid hyk
              go_wp2_with fail
              go_roundw
              case rel => exact ⟨i + 1, by omega, by go_num, _, MX⟩
              case measure => simp; omega
            · have m0 := MX.out.cell (j := 0) hyk (by omega) rfl
              have m1 := MX.out.cell (j := 1) hyk (by omega) rfl
              have m2 := MX.out.cell (j := 2) hyk (by omega) rfl
              have HYK := hid hyk
              clear hyk
              simp only [Nat.add_zero] at m0
              by_cases h7 : kd = 7
              · subst h7
                have hT := hid (MX.out.each k t HYK.out).1
                obtain ⟨j, hj, hj3⟩ : ∃ j : Nat, Hid (pk vv 3 = j) ∧ j < 3 := by
                  have h1 := pk_nn (c := vv) (n := 3) (by omega)
                  have h2 := pk_lt (c := vv) (n := 3) (by omega)
                  exact ⟨(pk vv 3).toNat, hid (by omega), by omega⟩
                have hj3i : (j : Int) < 3 := by omega
                have hS : ∀ W', Below wx.drew.heap.size wx.drew W' → W'.cell? ⟨L, k * 3, none⟩ = some (.pointer (some ⟨t.a, 0, none⟩)) ∧ W'.cell? ⟨L, k * 3 + 1, none⟩ = some (.pointer (some ⟨t.b, 0, none⟩)) ∧ W'.cell? ⟨L, k * 3 + 2, none⟩ = some (.pointer (some ⟨t.f.r, 0, none⟩)) ∧ W'.cell? ⟨Xb, 3, none⟩ = some (.int .i64 vv) := fun W' hb =>
                  ⟨cell_under hb MX.out.lt m0, cell_under hb MX.out.lt m1, cell_under hb MX.out.lt m2, cell_under hb (Array.getElem?_eq_some_iff.1 hX.out).1 y3⟩
                have HSS := hid hS
                clear hS
                go_wp2_with fail
                refine last_held (S := fun W => W.cell? ⟨L, k * 3, none⟩ = some (.pointer (some ⟨t.a, 0, none⟩)) ∧ W.cell? ⟨L, k * 3 + 1, none⟩ = some (.pointer (some ⟨t.b, 0, none⟩)) ∧ W.cell? ⟨L, k * 3 + 2, none⟩ = some (.pointer (some ⟨t.f.r, 0, none⟩)) ∧ W.cell? ⟨Xb, 3, none⟩ = some (.int .i64 vv)) rfl (by kernel_rfl) (by kernel_rfl) rfl ?_
                simp only [nopLast, nopOf, List.getLast_cons_cons, List.getLast_singleton]
                refine wpAnyH_take (i := 0) (v := ?_) rfl (by kernel_rfl) (by kernel_rfl) (by kernel_rfl) (fun _ _ _ h => h) (Or.inl ⟨by rfl, by intro w hSw; (try dsimp only at hSw); go_simp; first | done | with_reducible rfl⟩) ⟨m0, m1, m2, y3⟩ ?_
                try simp only [Act.put, List.setIfInBounds_toArray]
                refine wpAnyH_take (i := 1) (v := ?_) rfl (by kernel_rfl) (by kernel_rfl) (by kernel_rfl) (fun _ _ _ h => h) (Or.inl ⟨by rfl, by intro w hSw; (try dsimp only at hSw); go_simp; first | done | with_reducible rfl⟩) ⟨m0, m1, m2, y3⟩ ?_
                try simp only [Act.put]
                refine wpAnyH_take (i := 3) (v := ?_) rfl (by kernel_rfl) (by kernel_rfl) (by kernel_rfl) (fun _ _ _ h => h) (Or.inl ⟨by rfl, by intro w hSw; (try dsimp only at hSw); go_simp; first | done | with_reducible rfl⟩) ⟨m0, m1, m2, y3⟩ ?_
                try simp only [Act.put]
                refine wpAnyH_take (i := 4) (v := ?_) rfl (by kernel_rfl) (by kernel_rfl) (by kernel_rfl) (fun _ _ _ h => h) (Or.inl ⟨by rfl, by intro w hSw; (try dsimp only at hSw); go_simp; first | done | with_reducible rfl⟩) ⟨m0, m1, m2, y3⟩ ?_
                try simp only [Act.put]
                refine wpAnyH_take (i := 5) (v := ?_) rfl (by kernel_rfl) (by kernel_rfl) (by kernel_rfl) (fun _ _ _ h => h) (Or.inl ⟨by rfl, by intro w hSw; (try dsimp only at hSw); go_simp; first | done | with_reducible rfl⟩) ⟨m0, m1, m2, y3⟩ ?_
                try simp only [Act.put]
                refine wpAnyH_take (i := 6) (v := ?_) rfl (by kernel_rfl) (by kernel_rfl) (by kernel_rfl) (fun _ _ _ h => h) (Or.inl ⟨by rfl, by intro w hSw; (try dsimp only at hSw); go_simp; first | done | with_reducible rfl⟩) ⟨m0, m1, m2, y3⟩ ?_
                try simp only [Act.put]
                refine wpAnyH_take (i := 8) (v := ?_) rfl (by kernel_rfl) (by kernel_rfl) (by kernel_rfl) (fun _ _ _ h => h) (Or.inl ⟨by rfl, by intro w hSw; (try dsimp only at hSw); go_simp; first | done | with_reducible rfl⟩) ⟨m0, m1, m2, y3⟩ ?_
                try simp only [Act.put]
                refine wpAnyH_take (i := 9) (v := ?_) rfl (by kernel_rfl) (by kernel_rfl) (by kernel_rfl) (fun _ _ _ h => h) (Or.inl ⟨by rfl, by intro w hSw; (try dsimp only at hSw); go_simp; first | done | with_reducible rfl⟩) ⟨m0, m1, m2, y3⟩ ?_
                try simp only [Act.put]
                refine wpAnyH_take (i := 10) (v := ?_) rfl (by kernel_rfl) (by kernel_rfl) (by kernel_rfl) (fun _ _ _ h => h) (Or.inl ⟨by rfl, by intro w hSw; (try dsimp only at hSw); go_simp; first | done | with_reducible rfl⟩) ⟨m0, m1, m2, y3⟩ ?_
                try simp only [Act.put]
                refine wpAnyH_take (i := 11) (v := ?_) rfl (by kernel_rfl) (by kernel_rfl) (by kernel_rfl) (fun _ _ _ h => h) (Or.inl ⟨by rfl, by intro w hSw; (try dsimp only at hSw); go_simp; first | done | with_reducible rfl⟩) ⟨m0, m1, m2, y3⟩ ?_
                try simp only [Act.put]
                refine wpAnyH_take (i := 13) (v := ?_) rfl (by kernel_rfl) (by kernel_rfl) (by kernel_rfl) (fun _ _ _ h => h) (Or.inl ⟨by rfl, by intro w hSw; (try dsimp only at hSw); go_simp; first | done | with_reducible rfl⟩) ⟨m0, m1, m2, y3⟩ ?_
                try simp only [Act.put]
                refine wpAnyH_take (i := 14) (v := ?_) rfl (by kernel_rfl) (by kernel_rfl) (by kernel_rfl) (fun _ _ _ h => h) (Or.inl ⟨by rfl, by intro w hSw; (try dsimp only at hSw); go_simp; first | done | with_reducible rfl⟩) ⟨m0, m1, m2, y3⟩ ?_
                try simp only [Act.put]
                refine wpAnyH_take (i := 15) (v := ?_) rfl (by kernel_rfl) (by kernel_rfl) (by kernel_rfl) (fun _ _ _ h => h) (Or.inl ⟨by rfl, by intro w hSw; (try dsimp only at hSw); go_simp; first | done | with_reducible rfl⟩) ⟨m0, m1, m2, y3⟩ ?_
                try simp only [Act.put]
                refine wpAnyH_take (i := 16) (v := ?_) rfl (by kernel_rfl) (by kernel_rfl) (by kernel_rfl) (fun _ _ _ h => h) (Or.inl ⟨by rfl, by intro w hSw; (try dsimp only at hSw); go_simp; first | done | with_reducible rfl⟩) ⟨m0, m1, m2, y3⟩ ?_
                try simp only [Act.put]
                refine wpAnyH_ready (rs := [2]) (by kernel_rfl) (by simp) ?_
                refine AllReadyH.cons rfl (fun K hK => ?_) AllReadyH.nil
                go_simp
                refine (pick_any hxo.out.v.1 hxo.out.v.2 (by omega) (by omega)).mono ?_
                rintro e wt ⟨rfl, rfl⟩
                rw [hj.out]
                refine hK.out _ _ ⟨m0, m1, m2, y3⟩ (fun _ => ?_)
                clear hK K
                try simp only [Act.put, List.setIfInBounds_toArray, List.set_cons_zero, List.set_cons_succ]
                refine wpAnyH_ready (rs := [7]) (by kernel_rfl) (by simp) ?_
                refine AllReadyH.cons rfl (fun K hK => ?_) AllReadyH.nil
                go_simp
                refine (CloneI (show TalI wx.drew t.a t.f.n (wsOf t.f) from hT.out.ta)).mono ?_
                rintro e wA ⟨Qa, rfl, hBa, hQa, hTa⟩
                have sA := hid (HSS.out wA hBa)
                have hTA := hid hTa
                have HBA := hid hBa
                have HQA := hid hQa
                clear hBa hTa hQa
                refine hK.out _ _ sA.out (fun _ => ?_)
                clear hK K
                try simp only [Act.put, List.setIfInBounds_toArray, List.set_cons_zero, List.set_cons_succ]
                refine wpAnyH_ready (rs := [12]) (by kernel_rfl) (by simp) ?_
                refine AllReadyH.cons rfl (fun K hK => ?_) AllReadyH.nil
                go_simp
                refine (CloneS ((show TalS wx.drew t.b t.f.n (wsT t.f) from hT.out.tb).keep (HBA.out.block _ hT.out.tb.lt))).mono ?_
                rintro e wB ⟨Qb, rfl, hBb, hQb, hTb⟩
                have HBB := hid hBb
                have HCB := hid (HBA.out.trans (hBb.mono HBA.out.size))
                have sB := hid (HSS.out wB HCB.out)
                have hTB := hid hTb
                have HQB := hid hQb
                clear hBb hTb hQb
                refine hK.out _ _ sB.out (fun _ => ?_)
                clear hK K
                try simp only [Act.put, List.setIfInBounds_toArray, List.set_cons_zero, List.set_cons_succ]
                refine wpAnyH_ready (rs := [17]) (by kernel_rfl) (by simp) ?_
                refine AllReadyH.cons rfl (fun K hK => ?_) AllReadyH.nil
                go_simp
                refine (RClone ((show Rf wx.drew t.f from hT.out.rf.drew).later HCB.out)).mono ?_
                rintro e wC ⟨u, rfl, hBc, hR, en, es, ep, h1, h2, h3⟩
                have HDB := hid (HCB.out.trans (hBc.mono HCB.out.size))
                have sC := hid (HSS.out wC HDB.out)
                have MC := hid ((MX.out.drewN 1).later HDB.out)
                have TC := hid (th_clone hTA.out HBB.out HQB.out hTB.out hBc hR en es ep h1 h2 h3)
                obtain ⟨z0, z1, z2, n0, n1, n2⟩ := MC.out.three hj3
                have f0 := MC.out.free (j * 3)
                have f1 := MC.out.free (j * 3 + 1)
                have f2 := MC.out.free (j * 3 + 2)
                have hblk : ∀ x ∈ blk5 Qa Qb u, wx.drew.heap.size ≤ x := by
                  have s1 := HBA.out.size
                  have s2 := HBB.out.size
                  have s3 := HQA.out
                  have s4 := HQB.out
                  intro x hx
                  simp only [List.mem_cons, List.not_mem_nil, or_false] at hx
                  rcases hx with rfl | rfl | rfl | rfl | rfl <;> omega
                have HBK := hid hblk
                clear hBc hR en es ep h1 h2 h3 hblk
                refine hK.out _ _ sC.out (fun _ => ?_)
                clear hK K
                try simp only [Act.put, List.setIfInBounds_toArray, List.set_cons_zero, List.set_cons_succ]
                refine wpAnyH_take (i := 18) (v := ?_) rfl (by kernel_rfl) (by kernel_rfl) (by kernel_rfl) (fun _ _ _ h => h) (Or.inl ⟨by rfl, by intro w hSw; (try dsimp only at hSw); go_simp; first | done | with_reducible rfl⟩) sC.out ?_
                try simp only [Act.put, List.setIfInBounds_toArray]
                refine wpAnyH_take (i := 19) (v := ?_) rfl (by kernel_rfl) (by kernel_rfl) (by kernel_rfl) (fun _ _ _ h => h) (Or.inl ⟨by rfl, by intro w hSw; (try dsimp only at hSw); go_simp; first | done | with_reducible rfl⟩) sC.out ?_
                try simp only [Act.put]
                refine wpAnyH_take (i := 20) (v := ?_) rfl (by kernel_rfl) (by kernel_rfl) (by kernel_rfl) (fun _ _ _ h => h) (Or.inl ⟨by rfl, by intro w hSw; (try dsimp only at hSw); go_simp; first | done | with_reducible rfl⟩) sC.out ?_
                try simp only [Act.put]
                refine wpAnyH_done (by kernel_rfl) ?_ _
                simp only [postL]
                have ML := hid ((MX.out.drewN 1).lay (x := some ⟨Qa, Qb, u⟩) MC.out rfl hj3 (fun t' e => by cases e; exact ⟨TC.out, HBK.out⟩))
                have q3 := sC.out.2.2.2
                have nXL : Xb ≠ L := by omega
                clear m0 m1 m2 y0 y1 y2 y3
                have hjl : ts.length = 3 := MX.out.len
                have g0 := ML.out.cell (k := j) (j := 0) (x := some ⟨Qa, Qb, u⟩) (by rw [List.getElem?_set_self (by omega)]) (by omega) rfl
                have g1 := ML.out.cell (k := j) (j := 1) (x := some ⟨Qa, Qb, u⟩) (by rw [List.getElem?_set_self (by omega)]) (by omega) rfl
                have q4 := (cell_blk (j := 3) ((other_set _ (j * 3 + 2) (.pointer (some ⟨u.r, 0, none⟩)) nXL).trans ((other_set _ (j * 3 + 1) (.pointer (some ⟨Qb, 0, none⟩)) nXL).trans (other_set wC (j * 3) (.pointer (some ⟨Qa, 0, none⟩)) nXL)))).trans q3
                simp only [Nat.add_zero] at g0
                have G0 := hid g0
                have G1 := hid g1
                have Q4 := hid q4
                clear g0 g1 q4
                go_wp2_with fail
                generalize (((wC.setCell ⟨L, j * 3, none⟩ (.pointer (some ⟨Qa, 0, none⟩))).setCell ⟨L, j * 3 + 1, none⟩ (.pointer (some ⟨Qb, 0, none⟩))).setCell ⟨L, j * 3 + 2, none⟩ (.pointer (some ⟨u.r, 0, none⟩))) = w3 at ML G0 G1 Q4 ⊢
                refine (pick_any hxo.out.v.1 hxo.out.v.2 (by omega) (by omega)).mono ?_
                rintro e w4 ⟨rfl, rfl⟩
                rw [hj.out]
                have g0 := G0.out
                have g1 := G1.out
                have q4 := Q4.out
                clear q3 n0 n1 n2 f0 f1 f2
                go_wp2_with fail
                refine (pick_any hxo.out.v.1 hxo.out.v.2 (by omega) (by omega)).mono ?_
                rintro e w5 ⟨rfl, rfl⟩
                rw [hj.out]
                go_wp2_with fail
                go_roundw
                case rel => exact ⟨i + 1, by omega, by go_num, _, ML⟩
                case measure => simp; omega
              · have h7b : (kd == 7) = false := by simp [h7]
                have hT := hid (MX.out.each k t HYK.out).1
                have INOK : Hid InOK := hid (fun w t who v h h1 h2 => in_any h h1 h2)
                have hks : ∀ wt, Kept wx.drew t wt → wt.cell? ⟨L, k * 3, none⟩ = some (.pointer (some ⟨t.a, 0, none⟩)) ∧ wt.cell? ⟨L, k * 3 + 1, none⟩ = some (.pointer (some ⟨t.b, 0, none⟩)) ∧ wt.cell? ⟨L, k * 3 + 2, none⟩ = some (.pointer (some ⟨t.f.r, 0, none⟩)) ∧ wt.cell? ⟨Xb, 0, none⟩ = some (.int .i64 kd) ∧ wt.cell? ⟨Xb, 1, none⟩ = some (.int .i64 on) ∧ wt.cell? ⟨Xb, 2, none⟩ = some (.int .i64 who) ∧ wt.cell? ⟨Xb, 3, none⟩ = some (.int .i64 vv) := by
                  rintro wt ⟨f, _, _, _, _, _, hf⟩
                  have b1 : wt.heap[L]? = wx.heap[L]? := hf.block L MX.out.lt (fun e => ((MX.out.each k t HYK.out).2 L e).2 rfl)
                  have b2 : wt.heap[Xb]? = wx.heap[Xb]? := hf.block Xb (Array.getElem?_eq_some_iff.1 hX.out).1 (fun e => HXB.out k t HYK.out Xb e rfl)
                  exact ⟨(cell_blk b1).trans m0, (cell_blk b1).trans m1, (cell_blk b1).trans m2, (cell_blk b2).trans y0, (cell_blk b2).trans y1, (cell_blk b2).trans y2, (cell_blk b2).trans y3⟩
                have HKS := hid hks
                clear hks
                go_wp2_with fail
                go_region_held3 (fun W => W.cell? ⟨L, k * 3, none⟩ = some (.pointer (some ⟨t.a, 0, none⟩)) ∧ W.cell? ⟨L, k * 3 + 1, none⟩ = some (.pointer (some ⟨t.b, 0, none⟩)) ∧ W.cell? ⟨L, k * 3 + 2, none⟩ = some (.pointer (some ⟨t.f.r, 0, none⟩)) ∧ W.cell? ⟨Xb, 0, none⟩ = some (.int .i64 kd) ∧ W.cell? ⟨Xb, 1, none⟩ = some (.int .i64 on) ∧ W.cell? ⟨Xb, 2, none⟩ = some (.int .i64 who) ∧ W.cell? ⟨Xb, 3, none⟩ = some (.int .i64 vv))
                  (first | exact ⟨m0, m1, m2, y0, y1, y2, y3⟩ | exact HKS.out _ HK.out)
                  (first | (go_at_call 25; refine (step_any INOK.out (t := t) (show Th wx.drew t from hT.out.keep (fun _ _ => rfl)) hxo.out.who.1 hxo.out.who.2 hxo.out.v.1 hxo.out.v.2).mono ?_; rintro e wt ⟨rfl, hK⟩; have HK := hid hK; clear hK))
                all_goals
                  clear m0 m1 m2 y0 y1 y2 y3
                  go_wp2_with fail
                  go_roundw
                  case rel =>
                    obtain ⟨f, hT', e1, e2, e3, e4, hf⟩ := HK.out
                    exact ⟨i + 1, by omega, by go_num, _, hid ((MX.out.drewN 1).turn HYK.out hT' e1 e2 e3 hf)⟩
                  case measure => simp; omega
        · have hlti : decide ((i : Int) < sl) = false := decide_eq_false (by omega)
          have hlti2 : decide (i < sl) = false := decide_eq_false (by omega)
          clear SS OK hsle hsl hi hlt
          go_wp2_with fail
          generalize hj : Value.int IntKind.i64 (i : Int) = junk2
          generalize hj2 : Value.int IntKind.i64 (sl : Int) = junk3
          clear hj hj2 hlti hlti2
          go_loopw [17] (fun kv wr => ∃ k : Nat, k ≤ 3 ∧ kv = .int .i64 k ∧ ∃ ts, Hid (MS w L ts wr)) (fun kv _ => match kv with | .int _ i => ((3 : Int) - i).toNat | _ => 0)
          case atStart => exact ⟨0, by omega, rfl, _, M⟩
          case round =>
            clear M
            obtain ⟨k, hk, rfl, ts, M⟩ := hrel
            by_cases hk3 : k < 3
            · have hk3i : (k : Int) < 3 := by omega
              obtain ⟨y, hyk⟩ : ∃ y, ts[k]? = some y := ⟨_, List.getElem?_eq_getElem (by rw [M.out.len]; exact hk3)⟩
              rcases y with _ | t
              · have m2 := M.out.cell (j := 2) hyk (by omega) rfl
                have hyk := hid hyk
                go_wp2_with fail
                go_roundw
                case rel => exact ⟨k + 1, by omega, by go_num, _, M⟩
                case measure => simp; omega
              · have m0 := M.out.cell (j := 0) hyk (by omega) rfl
                have m1 := M.out.cell (j := 1) hyk (by omega) rfl
                have m2 := M.out.cell (j := 2) hyk (by omega) rfl
                simp only [Nat.add_zero] at m0
                have hT := hid (M.out.each k t hyk).1
                clear hyk
                go_wp2_with fail
                refine (all_any hT.out (by omega) (by omega)).mono ?_
                rintro e wa ⟨rfl, hB⟩
                have Ma := hid (M.out.later hB)
                clear hB m0 m1 m2
                go_wp2_with fail
                go_roundw
                case rel => exact ⟨k + 1, by omega, by go_num, _, Ma⟩
                case measure => simp; omega
            · have hk3i : decide ((k : Int) < 3) = false := decide_eq_false (by omega)
              go_wp2_with fail
              go_ret
              exact ⟨rfl, M.out.be⟩
end Go.Proofs.Ytmpbdncgilahkaa
