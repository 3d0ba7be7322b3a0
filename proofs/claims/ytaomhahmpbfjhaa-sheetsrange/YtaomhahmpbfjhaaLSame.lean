import Derived.Test.YtaomhahmpbfjhaaRSince
namespace Go.Proofs.Ytaomhahmpbfjhaa
open Go.RowKit Go.Sort Go.Shelf
set_option linter.unusedVariables false

/-- Sheets that are read from a place on. -/
def ShAt (w : World) (ao : Option Addr) (xs : List Xs) : Prop :=
  ∀ (i : Nat) (x : Xs), xs[i]? = some x → ∃ g o, ao = some ⟨g, o, none⟩ ∧ w.cell? ⟨g, o + i * 3, none⟩ = some (.int .i64 (x.num : Int)) ∧ w.cell? ⟨g, o + i * 3 + 1, none⟩ = some (.int .i64 (x.at_ : Int)) ∧ w.cell? ⟨g, o + i * 3 + 2, none⟩ = some (.slice x.ao x.len x.cap) ∧ Reads w (.slice x.ao x.len x.cap) x.bs

theorem drewN_drewN (w : World) (a b : Nat) : (w.drewN a).drewN b = w.drewN (a + b) := by
  simp [World.drewN, Nat.add_assoc]

set_option maxRecDepth 100000 in
set_option maxHeartbeats 4000000 in
theorem lsame_eq {w : World} {ao bo : Option Addr} {k ca cb : Nat} {xs ys : List Xs} (hx : ShAt w ao xs) (hy : ShAt w bo ys) (hk : xs.map Xs.key = ys.map Xs.key) (hlk : k = xs.length) (hlen : k ≤ 1000) (hb : ∀ x ∈ xs, x.bs.length ≤ 2304) :
    Calls Try.prog 16 #[.slice ao k ca, .slice bo k cb] w fun e w' => e = .returned (.bool true) ∧ ∃ q, w' = w.drewN q := by
  have HX := hid hx
  have HY := hid hy
  have HK := hid hk
  have HB := hid hb
  have HL := hid hlen
  have HLK := hid hlk
  clear hx hy hk hb hlen hlk
  have hne : ((k : Int) != (k : Int)) = false := by simp
  refine (callsIn_wide (n := 9)).1 (callsIn_of_wp Try.func16 rfl trivial ?_ rfl)
  simp only [Try.ntmps16, List.size_toArray, List.length_cons, List.length_nil, Nat.reduceAdd, Nat.reduceSub, Array.replicate_succ, Array.replicate_zero, List.push_toArray, List.append_toArray, List.nil_append, List.cons_append]
  gi_wp2
  gi_loopw [5, 13, 14, 15, 16, 17, 18, 19, 20, 21, 22, 23, 24, 25, 26, 27, 28, 29, 30, 31, 32, 33, 34, 35, 36, 37, 38, 39, 40, 41, 42, 43, 44, 45, 46, 47, 48, 49, 50, 51, 52, 53, 54] (fun p5 p13 p14 p15 p16 p17 p18 p19 p20 p21 p22 p23 p24 p25 p26 p27 p28 p29 p30 p31 p32 p33 p34 p35 p36 p37 p38 p39 p40 p41 p42 p43 p44 p45 p46 p47 p48 p49 p50 p51 p52 p53 p54 wr => ∃ i q : Nat, p13 = .int .i64 i ∧ i ≤ k ∧ w.drewN q = wr)
    (fun p5 p13 p14 p15 p16 p17 p18 p19 p20 p21 p22 p23 p24 p25 p26 p27 p28 p29 p30 p31 p32 p33 p34 p35 p36 p37 p38 p39 p40 p41 p42 p43 p44 p45 p46 p47 p48 p49 p50 p51 p52 p53 p54 _ => match p13 with | .int _ i => (k - i).toNat | _ => 0)
  case atStart => exact ⟨0, 0, rfl, by omega, rfl⟩
  case round =>
    obtain ⟨i, q, rfl, hi, rfl⟩ := hrel
    by_cases hc : (i : Int) < (k : Int)
    · have hik : i < k := by omega
      have hix : i < xs.length := by rw [← HLK.out]; exact hik
      obtain ⟨x, hxi⟩ : ∃ x, xs[i]? = some x := ⟨_, List.getElem?_eq_getElem hix⟩
      have hkk : (ys.map Xs.key)[i]? = some x.key := by rw [← HK.out, List.getElem?_map, hxi]; rfl
      obtain ⟨y, hyi, hye⟩ : ∃ y, ys[i]? = some y ∧ y.key = x.key := by
        rw [List.getElem?_map] at hkk
        cases e : ys[i]? with
        | none => rw [e] at hkk; cases hkk
        | some y => rw [e] at hkk; exact ⟨y, rfl, Option.some.inj hkk⟩
      simp only [Xs.key, Prod.mk.injEq] at hye
      obtain ⟨ye1, ye2, ye3⟩ := hye
      obtain ⟨g, o, rfl, c0, c1, c2, r1⟩ := HX.out i x hxi
      obtain ⟨g', o', rfl, e0, e1, e2, r2⟩ := HY.out i y hyi
      rw [ye1] at e0
      rw [ye2] at e1
      rw [ye3] at r2
      have LF := hid (fun m => (callsIn_wide (n := 8)).2 ((same_eq ((r1.drewN q).drewN m) ((r2.drewN q).drewN m) (by have := HB.out x (List.mem_of_getElem? hxi); omega)).mono (fun e w' (h : _ ∧ _) => (⟨h.1, by
        obtain ⟨q', hq'⟩ := h.2
        exact ⟨m + q', by rw [hq', drewN_drewN]⟩⟩ : _ ∧ ∃ m', w' = (w.drewN q).drewN m'))))
      have f0 : (w.drewN q).cell? ⟨g, o + i * 3, none⟩ = some (.int .i64 (x.num : Int)) := c0
      have f1 : (w.drewN q).cell? ⟨g, o + i * 3 + 1, none⟩ = some (.int .i64 (x.at_ : Int)) := c1
      have f2 : (w.drewN q).cell? ⟨g, o + i * 3 + 2, none⟩ = some (.slice x.ao x.len x.cap) := c2
      have h0 : (w.drewN q).cell? ⟨g', o' + i * 3, none⟩ = some (.int .i64 (x.num : Int)) := e0
      have h1 : (w.drewN q).cell? ⟨g', o' + i * 3 + 1, none⟩ = some (.int .i64 (x.at_ : Int)) := e1
      have h2 : (w.drewN q).cell? ⟨g', o' + i * 3 + 2, none⟩ = some (.slice y.ao y.len y.cap) := e2
      have wi : IntKind.i64.wrap ((i : Int) + 1) = ((i + 1 : Nat) : Int) := by have := HL.out; rw [IntKind.wrap_i64]; omega
      have fin : Hid (∀ nq, w.drewN (q + nq) = (w.drewN q).drewN nq) := hid (fun nq => (drewN_drewN w q nq).symm)
      generalize hW : w.drewN q = W at *
      have HW := hid hW
      have hi0 : (0 : Int) ≤ (i : Int) := by omega
      clear hW r1 r2 c0 c1 c2 e0 e1 e2 hxi hkk hyi ye1 ye2 ye3 hix
      have wfa : ∀ f, Fence.wide.fn f = True := fun _ => rfl
      gi_wp2
      refine wpIn_region_quiet_lit rfl (by kernel_rfl) (by kernel_rfl) ?_
      repeat (quiet_step_in (first | with_reducible exact LF.out _ ))
      refine wpQuietIn_nil ?_
      rintro w2 ⟨nq, rfl⟩
      clear wfa LF f0 f1 f2 h0 h1 h2 HX HY
      gi_wp2
      first
        | exact ⟨⟨i + 1, q + nq, rfl, by omega, fin.out nq⟩, by simp only; omega⟩
        | (go_roundw
           case rel => exact ⟨i + 1, q + nq, rfl, by omega, fin.out nq⟩
           case measure => simp only; omega)
    · gi_wp2
      go_ret
      exact ⟨rfl, q, rfl⟩

end Go.Proofs.Ytaomhahmpbfjhaa
