import Derived.Test.YtphcfkfdkaphbaaNumS
import Derived.Deep.RegionHeld3
import Derived.Deep.DeepCutAuto
import Derived.Deep.QuietTactic
import Derived.BigQuiet
namespace Go.Proofs.Ytphcfkfdkaphbaa
open Go.RowKit Go.Maps
set_option linter.unusedVariables false

theorem NS.start {w W : World} {P0 b0 P1 b1 : Nat} (h : All [tabI P1 b1 0 (.map []), tabI P0 b0 0 (.map []), inC w] W) :
    NS w W.heap.size (W.heap.size + 1 + 1 + 1) ((((W.alloc (.cells #[.pointer (some ⟨P0, 0, none⟩), .pointer (some ⟨P1, 0, none⟩)] 46)).alloc (.cells #[.slice none 0 0] 30)).alloc (.cells #[.slice none 0 0] 30)).alloc (.cells #[.pointer (some ⟨W.heap.size + 1, 0, none⟩), .pointer (some ⟨W.heap.size + 1 + 1, 0, none⟩)] 47)) := by
  have a1 := h.addBlk [.pointer (some ⟨P0, 0, none⟩), .pointer (some ⟨P1, 0, none⟩)] 46
  have a2 := a1.addBlk [.slice none 0 0] 30
  have a3 := a2.addBlk [.slice none 0 0] 30
  simp only [World.size_alloc] at a2 a3
  have a4 := a3.addBlk [.pointer (some ⟨W.heap.size + 1, 0, none⟩), .pointer (some ⟨W.heap.size + 1 + 1, 0, none⟩)] 47
  simp only [World.size_alloc] at a4
  have toRef : ∀ {R : Nat} {cs : List Comp} {V : World}, All (blkC R [.slice none 0 0] 30 :: cs) V → All (refC R (.slice none 0 0) [] :: cs) V := by
    intro R cs V hh
    obtain ⟨⟨g, hb, hl⟩, hd, hr⟩ := hh
    exact ⟨⟨refC_good _ _ _, ⟨hb, ⟨by simp [flatT], Or.inl ⟨rfl, rfl⟩⟩⟩, fun k hk => hl k (by simpa [refC, blkC, Value.ownBlock] using hk)⟩, fun d hd' k hk => hd d hd' k (by simpa [refC, blkC, Value.ownBlock] using hk), hr⟩
  have p1 : ∀ (a b c d e f g : Comp), [a, b, c, d, e, f, g].Perm [c, b, f, e, d, a, g] := by
    intro a b c d e f g
    have q : [a, b, c, d, e, f].Perm [c, b, f, e, d, a] := by
      refine (List.reverse_perm [a, b, c, d, e, f]).symm.trans ?_
      show [f, e, d, c, b, a].Perm [c, b, f, e, d, a]
      exact List.Perm.append_right [a] (List.perm_append_comm (l₁ := [f, e, d]) (l₂ := [c, b]))
    exact List.Perm.append_right [g] q
  have a5 := toRef (a4.perm (p1 _ _ _ _ _ _ _))
  have a6 := toRef (a5.perm (.swap _ _ _))
  have p2 : ∀ (b c f e d a g : Comp), [b, c, f, e, d, a, g].Perm [f, c, e, b, d, a, g] := by
    intro b c f e d a g
    have q : [b, c, f, e].Perm [f, c, e, b] := by
      refine (List.perm_append_comm (l₁ := [b]) (l₂ := [c, f, e])).trans ?_
      exact .swap _ _ _
    exact List.Perm.append_right [d, a, g] q
  exact ⟨P0, b0, W.heap.size + 1, P1, b1, W.heap.size + 1 + 1, .map [], .map [], [], [], .slice none 0 0, .slice none 0 0, a6.perm (p2 _ _ _ _ _ _ _), Cp.start, Cp.start, by simp, by simp⟩

theorem mem_at {l : List Comp} {c : Comp} (i : Nat) (h : l[i]? = some c) : c ∈ l := List.mem_of_getElem? h
theorem All.cellAt {cs : List Comp} {W : World} {g j : Nat} {vs : List Value} {t : TypeId} {u : Value} (h : All cs W) (hm : blkC g vs t ∈ cs) (hu : vs[j]? = some u) : W.cell? ⟨g, j, none⟩ = some u := by
  rw [cell_at (h.blk hm), List.getElem?_toArray, hu]
/-- Both tables, and what a round of the script has laid. -/
abbrev rowN (P b n : Nat) (D : DataW Unit) (R : Nat) (v : Value) (ts : List Tm) (A B X K : Nat) (qa qb : List Value) (x : Ac) (rest : List Comp) : List Comp :=
  tabI P b n D :: refC R v ts :: blkC A qa 46 :: blkC B qb 47 :: blkC K [.string e0, .int .i64 x.num] 50 :: blkC X x.cells 40 :: rest
theorem rowN_cells {L : List Comp} {W : World} {A B X K k P R : Nat} {qa qb : List Value} {x : Ac} (h : All L W) (ha : blkC A qa 46 ∈ L) (hb : blkC B qb 47 ∈ L) (hk : blkC K [.string e0, .int .i64 x.num] 50 ∈ L) (hx : blkC X x.cells 40 ∈ L) (e1 : qa[k]? = some (.pointer (some ⟨P, 0, none⟩))) (e2 : qb[k]? = some (.pointer (some ⟨R, 0, none⟩))) :
    W.cell? ⟨A, k, none⟩ = some (.pointer (some ⟨P, 0, none⟩)) ∧ W.cell? ⟨B, k, none⟩ = some (.pointer (some ⟨R, 0, none⟩)) ∧ W.cell? ⟨K, 0, none⟩ = some (.string e0) ∧ W.cell? ⟨K, 1, none⟩ = some (.int .i64 x.num) ∧ W.cell? ⟨X, 3, none⟩ = some (.int .i64 x.num) ∧ W.cell? ⟨X, 4, none⟩ = some (.int .i64 x.ticks) :=
  ⟨h.cellAt ha e1, h.cellAt hb e2, h.cellAt hk rfl, h.cellAt hk rfl, h.cellAt hx rfl, h.cellAt hx rfl⟩

theorem flatN_len (ts : List Tm) : (flatN ts).length = ts.length * 2 := by
  induction ts with
  | nil => rfl
  | cons a r ih => simp only [flatN, List.flatMap_cons, List.length_append, List.length_cons] at ih ⊢; rw [ih]; simp [Tm.name]; omega
theorem flatN_at {ts : List Tm} {i : Nat} {x : Tm} (h : ts[i]? = some x) {j : Nat} (hj : j < 2) : (flatN ts)[i * 2 + j]? = x.name[j]? := by
  induction ts generalizing i with
  | nil => simp at h
  | cons a r ih =>
    simp only [flatN, List.flatMap_cons] at ih ⊢
    cases i with
    | zero =>
      simp at h
      subst h
      rw [List.getElem?_append_left (by simp [Tm.name]; omega)]
      simp
    | succ i =>
      simp only [List.getElem?_cons_succ] at h
      have e : (i + 1) * 2 + j = (a.name).length + (i * 2 + j) := by simp [Tm.name]; omega
      rw [e, List.getElem?_append_right (by omega), Nat.add_sub_cancel_left]
      exact ih h
theorem name_cells {w : World} {base : Nat} {ao : Option Addr} {n c : Nat} {ts : List Tm} (h : w.ownsRow base 50 2 (.slice ao n c) ts.length (flatN ts)) {i : Nat} {x : Tm} (hx : ts[i]? = some x) : ∃ g, ao = some ⟨g, 0, none⟩ ∧ w.cell? ⟨g, i * 2, none⟩ = some (.string x.t) ∧ w.cell? ⟨g, i * 2 + 1, none⟩ = some (.int .i64 x.k) := by
  have hi := (List.getElem?_eq_some_iff.1 hx).1
  rcases h.2 with ⟨e, e2⟩ | ⟨g, cap, cur, e, _, hg, hn, hm, hcs, ht⟩
  · omega
  · simp only [Value.slice.injEq] at e
    have key : ∀ j, j < 2 → w.cell? ⟨g, i * 2 + j, none⟩ = x.name[j]? := fun j hj => by
      rw [cell_at hg, ← Array.getElem?_toList, ← flatN_at hx hj, ← ht, List.getElem?_take, if_pos (by first | omega | (rw [flatN_len]; omega))]
    exact ⟨g, e.1, key 0 (by omega), key 1 (by omega)⟩

theorem ArmedP {P b n : Nat} {D : DataW Unit} {cs : List Comp} {w : World} {ts : List Tm} (h : All (tabI P b n D :: cs) w) (hc : Cp D ts) (hl : ts.length ≤ 32) : Calls Try.prog 22 #[.pointer (some ⟨P, 0, none⟩)] w fun e w' => ∃ ao cap, e = .returned (.slice ao ts.length cap) ∧ Below w.heap.size w w' := by
  have hz := h.tabI_size hc
  obtain ⟨es, hD, hp, hk⟩ := h.1.2.1.2.entries lawI
  refine (ArmedI h.tabI_fit (by omega)).mono ?_
  rintro e w' ⟨v, ss, rfl, hperm, hown, hb⟩
  have hlen : ss.length = ts.length := by
    have h1 := hperm.length_eq
    rw [h1, ← hz, hD]
    simp [intKeys, Maps.size_eq]
  obtain ⟨ao, cap, rfl⟩ := owns_form hown
  rw [hlen]
  exact ⟨ao, cap, rfl, hb⟩

set_option maxHeartbeats 6400000 in
set_option maxRecDepth 1000000 in
theorem num_walk {w : World} {v : Value} {xs : List Ac} {tk : Int} (hs : ActsAt w v xs) (hok : ∀ x ∈ xs, (lI x.num).wf = true) : Calls Try.prog 4 #[v, .int .i64 tk] w fun e w' => e = .returned (.bool true) ∧ Below w.heap.size w w' := by
  obtain ⟨so, sc, rfl⟩ := hs.form
  have HS := hid hs
  have hxl : xs.length ≤ maxLen := hs.len
  unfold maxLen at hxl
  have OK := hid hok
  obtain ⟨len, hlen⟩ : ∃ len, Hid (xs.length = len) := ⟨_, hid rfl⟩
  rw [hlen.out] at hxl ⊢
  clear hs hok
  go_enter Try.func4, Try.ntmps4
  go_wp2_with fail
  refine (NewI (All.came w)).mono ?_
  rintro e w1 ⟨P0, b0, rfl, hA1⟩
  have A1 := hid hA1
  clear hA1
  go_wp2_with fail
  refine (NewI A1.out).mono ?_
  rintro e w2 ⟨P1, b1, rfl, hA2⟩
  have N0 := hid (NS.start hA2)
  clear A1 hA2
  go_wp2_with fail
  generalize (((w2.alloc (.cells #[.pointer (some ⟨P0, 0, none⟩), .pointer (some ⟨P1, 0, none⟩)] 46)).alloc (.cells #[.slice none 0 0] 30)).alloc (.cells #[.slice none 0 0] 30)).alloc (.cells #[.pointer (some ⟨w2.heap.size + 1, 0, none⟩), .pointer (some ⟨w2.heap.size + 1 + 1, 0, none⟩)] 47) = w3 at N0 ⊢
  generalize w2.heap.size + 1 + 1 + 1 = B at N0 ⊢
  generalize w2.heap.size + 1 + 1 = j1
  generalize w2.heap.size + 1 = j2
  generalize w2.heap.size = A at N0 ⊢
  go_loopw [33] (fun iv wr => ∃ i : Nat, i ≤ len ∧ iv = .int .i64 (i : Int) ∧ Hid (NS w A B wr)) (fun iv _ => len - (intOf iv).toNat)
  case atStart => exact ⟨0, by omega, rfl, N0⟩
  case round =>
    clear N0
    obtain ⟨i, hi, rfl, HN⟩ := hrel
    by_cases hlt : i < len
    · have hlti : (i : Int) < len := by omega
      obtain ⟨x, hx⟩ : ∃ x, xs[i]? = some x := ⟨_, List.getElem?_eq_getElem (by have := hlen.out; omega)⟩
      obtain ⟨sb, sof, hso, x0, x1, x2, x3, x4⟩ := HS.out.at HN.out.into hx
      have hwf := hid (OK.out x (List.mem_of_getElem? hx))
      subst hso
      clear hx
      go_wp2_with fail
      refine (among_any x.at_ 2 (by omega) (by omega)).mono ?_
      rintro e w5 ⟨k, hk2, rfl, rfl⟩
      have hk2i : (k : Int) < 2 := by omega
      obtain ⟨P, b, R, D, ts, v, qa, qb, rest, hA, hc, hl, e1, e2, back⟩ := HN.out.pick hk2
      have A1 := (hA.addBlk x.cells 40).addBlk [.string e0, .int .i64 x.num] 50
      simp only [World.size_alloc] at A1
      have A2 : All (rowN P b (Maps.size D) D R v ts A B wr.heap.size (wr.heap.size + 1) qa qb x rest) ((wr.alloc (.cells x.cells.toArray 40)).alloc (.cells #[.string e0, .int .i64 x.num] 50)) := A1.perm (by
        have p1 : ∀ (k x t r a b : Comp) (l : List Comp), (k :: x :: t :: r :: a :: b :: l).Perm (t :: r :: a :: b :: k :: x :: l) := fun k x t r a b l => List.Perm.append_right l (List.perm_append_comm (l₁ := [k, x]) (l₂ := [t, r, a, b]))
        exact p1 _ _ _ _ _ _ _)
      have drop : ∀ (n' : Nat) (D' : DataW Unit) (v' : Value) (ts' : List Tm) (W' : World), All (rowN P b n' D' R v' ts' A B wr.heap.size (wr.heap.size + 1) qa qb x rest) W' → Cp D' ts' → ts'.length ≤ 32 → NS w A B W' := by
        intro n' D' v' ts' W' h' c' l'
        have p1 : ∀ (k x t r a b : Comp) (l : List Comp), (t :: r :: a :: b :: k :: x :: l).Perm (k :: x :: t :: r :: a :: b :: l) := fun k x t r a b l => (List.Perm.append_right l (List.perm_append_comm (l₁ := [k, x]) (l₂ := [t, r, a, b]))).symm
        exact back W' D' ts' v' ((h'.perm (p1 _ _ _ _ _ _ _)).tail.tail).tabI_fit c' l'
      have hsz := hid (A2.tabI_size hc)
      have hM := hid (A2.1.2.1.2.isMap)
      have HA := hid A2
      have HC := hid hc
      have HD := hid drop
      have E1 := hid e1
      have E2 := hid e2
      clear hA hc e1 e2 back A1 A2 drop HN x0 x1 x2
      go_wp2_with fail
      refine (among_any x.kind 3 (by omega) (by omega)).mono ?_
      rintro e w5 ⟨kk, hkk, rfl, rfl⟩
      have HA : Hid (All (rowN P b (Maps.size D) D R v ts A B wr.heap.size (wr.heap.size + 1) qa qb x rest) ((wr.alloc (.cells #[.int .i64 x.kind, .int .i64 x.at_, .string x.name, .int .i64 x.num, .int .i64 x.ticks] 40)).alloc (.cells #[.string ⟨#[]⟩, .int .i64 x.num] 50))) := HA
      generalize (wr.alloc (.cells #[.int .i64 x.kind, .int .i64 x.at_, .string x.name, .int .i64 x.num, .int .i64 x.ticks] 40)).alloc (.cells #[.string ⟨#[]⟩, .int .i64 x.num] 50) = wz at HA ⊢
      generalize wr.heap.size + 1 = K at HA HD ⊢
      generalize wr.heap.size = X at HA HD ⊢
      obtain ⟨s1, s2, s3, s4, s5, s6⟩ := rowN_cells HA.out (mem_at 2 rfl) (mem_at 3 rfl) (mem_at 4 rfl) (mem_at 5 rfl) E1.out E2.out
      unfold e0 at s3
      by_cases hk0 : kk = 0
      · subst hk0
        go_wp2_with fail
        go_region_held3 (fun W => W.cell? ⟨A, k, none⟩ = some (.pointer (some ⟨P, 0, none⟩)) ∧ W.cell? ⟨B, k, none⟩ = some (.pointer (some ⟨R, 0, none⟩)) ∧ W.cell? ⟨K, 0, none⟩ = some (.string ⟨#[]⟩) ∧ W.cell? ⟨K, 1, none⟩ = some (.int .i64 x.num) ∧ W.cell? ⟨X, 3, none⟩ = some (.int .i64 x.num) ∧ W.cell? ⟨X, 4, none⟩ = some (.int .i64 x.ticks))
          (first | exact ⟨s1, s2, s3, s4, s5, s6⟩ | exact q1.out | exact q2.out)
          (first
            | (go_at_call 16; refine (CancelI HA.out.drew x.num hwf.out).mono ?_; rintro e w6 ⟨rfl, hA6⟩; have A6 := hid hA6.swap; have q1 := hid (rowN_cells hA6 (mem_at 2 rfl) (mem_at 3 rfl) (mem_at 4 rfl) (mem_at 5 rfl) E1.out E2.out); clear hA6)
            | (go_at_call 17; refine (RCancelP A6.out HC.out hl x.num).mono ?_; rintro e w7 ⟨v7, ts7, rfl, hA7, hc7, hl7⟩; have A7 := hid hA7.swap; have q2 := hid (rowN_cells A7.out (mem_at 2 rfl) (mem_at 3 rfl) (mem_at 4 rfl) (mem_at 5 rfl) E1.out E2.out); have C7 := hid hc7; clear hA7 hc7))
        all_goals
          clear s1 s2 s3 s4 s5 s6
          go_wp2_with fail
          go_roundw
          case rel => exact ⟨i + 1, by omega, by go_num, hid (HD.out _ _ _ _ _ A7.out C7.out hl7)⟩
          case measure => simp [intOf]; omega
      · have hk0b : ((kk : Int) == 0) = false := by simp; omega
        go_wp2_with fail
        go_region_held3 (fun W => W.cell? ⟨A, k, none⟩ = some (.pointer (some ⟨P, 0, none⟩)) ∧ W.cell? ⟨B, k, none⟩ = some (.pointer (some ⟨R, 0, none⟩)) ∧ W.cell? ⟨K, 0, none⟩ = some (.string ⟨#[]⟩) ∧ W.cell? ⟨K, 1, none⟩ = some (.int .i64 x.num) ∧ W.cell? ⟨X, 3, none⟩ = some (.int .i64 x.num) ∧ W.cell? ⟨X, 4, none⟩ = some (.int .i64 x.ticks))
          (first | exact ⟨s1, s2, s3, s4, s5, s6⟩ | exact q1.out | exact q2.out)
          (first
            | (go_at_call 18; refine (ArmIP HA.out.drew (by rw [hsz.out]; exact hl) x.num hwf.out x.ticks).mono ?_; rintro e w6 ⟨rfl, hA6⟩; have A6 := hid hA6.swap; have q1 := hid (rowN_cells hA6 (mem_at 2 rfl) (mem_at 3 rfl) (mem_at 4 rfl) (mem_at 5 rfl) E1.out E2.out); clear hA6)
            | (go_at_call 19; refine (RArmP A6.out HC.out hM.out hsz.out hl x.num hwf.out x.ticks).mono ?_; rintro e w7 ⟨v7, ts7, rfl, hA7, hc7, hl7⟩; have A7 := hid hA7.swap; have q2 := hid (rowN_cells A7.out (mem_at 2 rfl) (mem_at 3 rfl) (mem_at 4 rfl) (mem_at 5 rfl) E1.out E2.out); have C7 := hid hc7; clear hA7 hc7))
        all_goals
          clear s1 s2 s3 s4 s5 s6
          go_wp2_with fail
          go_roundw
          case rel => exact ⟨i + 1, by omega, by go_num, hid (HD.out _ _ _ _ _ A7.out C7.out hl7)⟩
          case measure => simp [intOf]; omega
    · have hlti : decide ((i : Int) < len) = false := decide_eq_false (by omega)
      have hlti2 : decide (i < len) = false := decide_eq_false (by omega)
      clear HS OK hlen hxl hi hlt
      go_wp2_with fail
      refine (among_any tk 1100 (by omega) (by omega)).mono ?_
      rintro e w5 ⟨m, hm, rfl, rfl⟩
      have hmi : (m : Int) < 1100 := by omega
      go_wp2_with fail
      generalize hj3 : Value.int IntKind.i64 (i : Int) = j3
      generalize hj4 : Value.int IntKind.i64 (len : Int) = j4
      clear hj3 hj4 hlti hlti2
      go_loopw [79] (fun iv wr => ∃ i : Nat, i ≤ 1 + m ∧ iv = .int .i64 (i : Int) ∧ Hid (NS w A B wr)) (fun iv _ => 1 + m - (intOf iv).toNat)
      case atStart => exact ⟨0, by omega, rfl, HN⟩
      case round =>
        clear HN
        obtain ⟨i2, hi2, rfl, HN⟩ := hrel
        by_cases hlt2 : i2 < 1 + m
        · have hlt2i : (i2 : Int) < 1 + m := by omega
          go_wp2_with fail
          go_loopw [81] (fun kv wr => ∃ k : Nat, k ≤ 2 ∧ kv = .int .i64 (k : Int) ∧ Hid (NS w A B wr)) (fun kv _ => 2 - (intOf kv).toNat)
          case atStart => exact ⟨0, by omega, rfl, HN⟩
          case round =>
            clear HN
            obtain ⟨k, hk, rfl, HN⟩ := hrel
            by_cases hk2 : k < 2
            · have hk2i : (k : Int) < 2 := by omega
              obtain ⟨P, b, R, D, ts, v, qa, qb, rest, hA, hc, hl, e1, e2, back⟩ := HN.out.pick hk2
              have s1 := hA.cellAt (mem_at 2 rfl) e1
              have s2 := hA.cellAt (mem_at 3 rfl) e2
              have hsz := hid (hA.tabI_size hc)
              have HA := hid hA
              have HC := hid hc
              have E1 := hid e1
              have E2 := hid e2
              have BK := hid back
              clear hA hc e1 e2 back HN
              go_wp2_with fail
              go_region_held3 (fun W => W.cell? ⟨A, k, none⟩ = some (.pointer (some ⟨P, 0, none⟩)) ∧ W.cell? ⟨B, k, none⟩ = some (.pointer (some ⟨R, 0, none⟩)))
                (first | exact ⟨s1, s2⟩ | exact q1.out | exact q2.out)
                (first
                  | (go_at_call 20; refine (TickI HA.out.drew (by rw [hsz.out]; omega)).mono ?_; rintro e w6 ⟨lv, ss, D6, rfl, hT, hA6⟩; have HCT := hid (HC.out.tick hT); have q1 := hid (show w6.cell? ⟨A, k, none⟩ = some (.pointer (some ⟨P, 0, none⟩)) ∧ w6.cell? ⟨B, k, none⟩ = some (.pointer (some ⟨R, 0, none⟩)) from ⟨hA6.cellAt (mem_at 3 rfl) E1.out, hA6.cellAt (mem_at 4 rfl) E2.out⟩); rw [HCT.out.2] at hA6; have A6 := hid hA6; clear hA6 hT)
                  | (go_at_call 21; refine (RTick (A6.out.perm (ds := refC R v ts :: ownC 3 lv (((goneT ts).map fun x : Tm => x.k).map encZ) :: tabI P b (Maps.size D) D6 :: blkC A qa 46 :: blkC B qb 47 :: rest) ((List.Perm.cons _ (List.Perm.swap _ _ _)).trans (List.Perm.swap _ _ _))) (by omega) HC.out.lft).mono ?_; rintro e w7 ⟨v7, gv, rfl, hA7⟩; have q2 := hid (show w7.cell? ⟨A, k, none⟩ = some (.pointer (some ⟨P, 0, none⟩)) ∧ w7.cell? ⟨B, k, none⟩ = some (.pointer (some ⟨R, 0, none⟩)) from ⟨hA7.cellAt (mem_at 4 rfl) E1.out, hA7.cellAt (mem_at 5 rfl) E2.out⟩); have A7 := hid hA7; clear hA7))
              all_goals
                obtain ⟨go, gc, hgv⟩ := owns_form A7.out.1.2.1
                subst hgv
                obtain ⟨lo, lc, hlv⟩ := owns_form (A7.out.mem (c := ownC 3 lv (((goneT ts).map fun x : Tm => x.k).map encZ)) (mem_at 2 rfl)).2.1
                subst hlv
                have hgl : (((goneT ts).map fun x : Tm => x.k).map encZ).length = (goneT ts).length := by simp
                have hg32 : (goneT ts).length ≤ 32 := by have := gone_len ts; omega
                rw [hgl] at A7 ⊢
                clear A6 hgl
                obtain ⟨G, hG⟩ : ∃ G, goneT ts = G := ⟨_, rfl⟩
                rw [hG] at A7 hg32 ⊢
                have hgi : (G.length : Int) ≤ 32 := by omega
                have C7 := hid HCT.out.1
                have hl7 : (stayT ts).length ≤ 32 := by have := stay_len ts; omega
                obtain ⟨gl, hgl⟩ : ∃ gl, Hid (G.length = gl) := ⟨_, hid rfl⟩
                rw [hgl.out] at hgi hg32 ⊢
                clear HCT HC hG s1 s2 HA q1 q2
                go_wp2_with fail
                go_loopw [99] (fun iv wr => ∃ i : Nat, i ≤ gl ∧ iv = .int .i64 (i : Int) ∧ Hid (All (rowC 50 2 (.slice go G.length gc) G.length (flatN G) :: refC R v7 (stayT ts) :: ownC 3 (.slice lo G.length lc) ((G.map fun x : Tm => x.k).map encZ) :: tabI P b (Maps.size D) D6 :: blkC A qa 46 :: blkC B qb 47 :: rest) wr)) (fun iv _ => gl - (intOf iv).toNat)
                case atStart => exact ⟨0, by omega, rfl, A7⟩
                case round =>
                  clear A7
                  obtain ⟨i4, hi4, rfl, A7⟩ := hrel
                  by_cases hlt4 : i4 < gl
                  · have hlt4i : (i4 : Int) < gl := by omega
                    obtain ⟨x, hx⟩ : ∃ x, G[i4]? = some x := ⟨_, List.getElem?_eq_getElem (by have := hgl.out; omega)⟩
                    obtain ⟨g1, hg1, y0, y1⟩ := name_cells A7.out.1.2.1 hx
                    have hown : wr.ownsRow 0 3 1 (.slice lo G.length lc) ((G.map fun x : Tm => x.k).map encZ).length ((G.map fun x : Tm => x.k).map encZ) := (A7.out.mem (c := ownC 3 (.slice lo G.length lc) ((G.map fun x : Tm => x.k).map encZ)) (mem_at 2 rfl)).2.1
                    obtain ⟨g2, hg2, z0, _⟩ := owns_at hown (k := i4) (u := .int .i64 x.k) (by rw [List.getElem?_map, List.getElem?_map, hx]; rfl)
                    subst hg1 hg2
                    have hxx : (x.k != x.k) = false := by simp
                    clear hx hown y0
                    go_wp2_with fail
                    go_quiet (fail)
                    go_wp2_with fail
                    go_roundw
                    case rel => exact ⟨i4 + 1, by omega, by go_num, hid (A7.out.drewN _)⟩
                    case measure => simp [intOf]; omega
                  · have hlt4i : decide ((i4 : Int) < gl) = false := decide_eq_false (by omega)
                    have hlt4j : decide (i4 < gl) = false := decide_eq_false (by omega)
                    have p1 : ∀ (r f o t a b : Comp) (l : List Comp), (r :: f :: o :: t :: a :: b :: l).Perm (r :: o :: t :: f :: a :: b :: l) := fun r f o t a b l => .cons _ ((List.Perm.swap _ _ _).trans (.cons _ (.swap _ _ _)))
                    have N7 := hid (BK.out wr D6 (stayT ts) v7 ((A7.out.perm (p1 _ _ _ _ _ _ _)).tail.tail).tabI_fit C7.out hl7)
                    clear A7 C7
                    go_wp2_with fail
                    go_roundw
                    case rel => exact ⟨k + 1, by omega, by go_num, N7⟩
                    case measure => simp [intOf]; omega
            · have hk2i : decide ((k : Int) < 2) = false := decide_eq_false (by omega)
              have hk2j : decide (k < 2) = false := decide_eq_false (by omega)
              go_wp2_with fail
              go_roundw
              case rel => exact ⟨i2 + 1, by omega, by go_num, HN⟩
              case measure => simp [intOf]; omega
        · have hlt2i : decide ((i2 : Int) < 1 + m) = false := decide_eq_false (by omega)
          clear hi2 hlt2
          go_wp2_with fail
          obtain ⟨p0, d0, r0, p1, d1, r1, D0, D1, t0, t1, v0, v1, hA, k0, k1, l0, l1⟩ := HN.out
          obtain ⟨a0, c0, hv0⟩ := owns_form (hA.mem (c := refC r0 v0 t0) (mem_at 1 rfl)).2.1.2
          obtain ⟨a1, c1, hv1⟩ := owns_form (hA.mem (c := refC r1 v1 t1) (mem_at 3 rfl)).2.1.2
          subst hv0 hv1
          have hSb : ∀ W, Below wr.drew.heap.size wr.drew W → All [tabI p0 d0 (Maps.size D0) D0, refC r0 (.slice a0 t0.length c0) t0, tabI p1 d1 (Maps.size D1) D1, refC r1 (.slice a1 t1.length c1) t1, blkC A [.pointer (some ⟨p0, 0, none⟩), .pointer (some ⟨p1, 0, none⟩)] 46, blkC B [.pointer (some ⟨r0, 0, none⟩), .pointer (some ⟨r1, 0, none⟩)] 47, inC w] W ∧ (W.cell? ⟨A, 0, none⟩ = some (.pointer (some ⟨p0, 0, none⟩)) ∧ W.cell? ⟨A, 1, none⟩ = some (.pointer (some ⟨p1, 0, none⟩)) ∧ W.cell? ⟨B, 0, none⟩ = some (.pointer (some ⟨r0, 0, none⟩)) ∧ W.cell? ⟨B, 1, none⟩ = some (.pointer (some ⟨r1, 0, none⟩)) ∧ W.cell? ⟨r0, 0, none⟩ = some (.slice a0 t0.length c0) ∧ W.cell? ⟨r1, 0, none⟩ = some (.slice a1 t1.length c1)) := by
            intro W hb
            have hW := hA.drew.later hb
            have e0 := (hW.mem (c := refC r0 (.slice a0 t0.length c0) t0) (mem_at 1 rfl)).2.1.1
            have e1 := (hW.mem (c := refC r1 (.slice a1 t1.length c1) t1) (mem_at 3 rfl)).2.1.1
            exact ⟨hW, hW.cellAt (mem_at 4 rfl) rfl, hW.cellAt (mem_at 4 rfl) rfl, hW.cellAt (mem_at 5 rfl) rfl, hW.cellAt (mem_at 5 rfl) rfl, by rw [cell_at e0]; rfl, by rw [cell_at e1]; rfl⟩
          have HSB := hid hSb
          have h0 := hid (hSb wr.drew (Below.refl _ _)).1
          obtain ⟨s1, s2, s3, s4, s5, s6⟩ := (hSb wr.drew (Below.refl _ _)).2
          have K0 := hid k0
          have K1 := hid k1
          have n1 : ((t0.length : Int) == t0.length) = true := by simp
          have n2 : ((t1.length : Int) == t1.length) = true := by simp
          clear hSb hA HN k0 k1
          go_region_held3 (fun W => W.cell? ⟨A, 0, none⟩ = some (.pointer (some ⟨p0, 0, none⟩)) ∧ W.cell? ⟨A, 1, none⟩ = some (.pointer (some ⟨p1, 0, none⟩)) ∧ W.cell? ⟨B, 0, none⟩ = some (.pointer (some ⟨r0, 0, none⟩)) ∧ W.cell? ⟨B, 1, none⟩ = some (.pointer (some ⟨r1, 0, none⟩)) ∧ W.cell? ⟨r0, 0, none⟩ = some (.slice a0 t0.length c0) ∧ W.cell? ⟨r1, 0, none⟩ = some (.slice a1 t1.length c1))
            (first | exact ⟨s1, s2, s3, s4, s5, s6⟩ | exact (HSB.out _ b1.out).2 | exact (HSB.out _ b2.out).2)
            (first
              | (go_at_call 22; refine (ArmedP h0.out K0.out l0).mono ?_; rintro e w6 ⟨ao6, cap6, rfl, hb6⟩; have b1 := hid hb6; have h1 := hid ((HSB.out w6 hb6).1.perm (ds := tabI p1 d1 (Maps.size D1) D1 :: tabI p0 d0 (Maps.size D0) D0 :: refC r0 (.slice a0 t0.length c0) t0 :: refC r1 (.slice a1 t1.length c1) t1 :: blkC A [.pointer (some ⟨p0, 0, none⟩), .pointer (some ⟨p1, 0, none⟩)] 46 :: blkC B [.pointer (some ⟨r0, 0, none⟩), .pointer (some ⟨r1, 0, none⟩)] 47 :: [inC w]) ((List.Perm.cons _ (List.Perm.swap _ _ _)).trans (List.Perm.swap _ _ _))); clear hb6 h0)
              | (go_at_call 22; refine (ArmedP h1.out K1.out l1).mono ?_; rintro e w7 ⟨ao7, cap7, rfl, hb7⟩; have b2 := hid (b1.out.trans (hb7.mono b1.out.size)); clear hb7))
          all_goals
            clear s1 s2 s3 s4 s5 s6
            go_wp2_with fail
            go_ret
            exact ⟨rfl, ((HSB.out _ b2.out).1).into (by simp)⟩
end Go.Proofs.Ytphcfkfdkaphbaa
