import Derived.Test.YtaomhahmpbfjhaaSeeN
import Derived.Deep.MidRow
namespace Go.Proofs.Ytaomhahmpbfjhaa
open Go.RowKit Go.Shelf Go.Sort
set_option linter.unusedVariables false

/-- A sheet that is handed out. -/
structure Xs where
  num : Nat
  at_ : Nat
  ao : Option Addr
  len : Nat
  cap : Nat
  bs : List UInt8

def Xs.v (x : Xs) : Value := .slice x.ao x.len x.cap
def Xs.enc (x : Xs) : Value := .agg #[.int .i64 (x.num : Int), .int .i64 (x.at_ : Int), .slice x.ao x.len x.cap]
def Xs.key (x : Xs) : Nat × Nat × List UInt8 := (x.num, x.at_, x.bs)
/-- Its bytes lie in a row that was made just now. -/
def Xs.Fresh (x : Xs) (W0 W1 : World) : Prop := Below W0.heap.size W0 W1 ∧ W1.ownsRow W0.heap.size 5 1 x.v x.bs.length (cellsB x.bs)

/-- Of the nodes that were looked at: the sheets that are newer. -/
def sel (N : Nodes) (lv a : Nat) (l : List Nat) : List (Nat × Nat × List UInt8) := l.filterMap fun k => if lv ≤ k ∧ a < (N k).1 then some (k - lv, (N k).1, (N k).2.2) else none
theorem sel_append (N : Nodes) (lv a : Nat) (l m : List Nat) : sel N lv a (l ++ m) = sel N lv a l ++ sel N lv a m := by simp [sel]
theorem sel_len (N : Nodes) (lv a : Nat) (l : List Nat) : (sel N lv a l).length ≤ l.length := List.length_filterMap_le _ _

/-- What the iterator has for itself. -/
structure Kept (W : World) (T By Ba lv : Nat) (ps : List Nat) (P : Pool) (l a : Nat) : Prop where
  tb : W.heap[T]? = some (.cells (treeL [] lv ps).toArray 67 (0, 0))
  yb : W.heap[By]? = some (.cells #[.func (.yield l) #[] #[]] 87 (0, 0))
  ab : W.cell? ⟨Ba, 0, none⟩ = some (.int .i64 (a : Int))
  pl : ∀ x ∈ P, W.heap[x.1]? = some x.2

/-- The blocks of the iterator stay. -/
structure KeepT (Ba : Nat) (W W' : World) : Prop where
  size : W.heap.size ≤ W'.heap.size
  ty : ∀ (k : Nat) (cs : Array Value) (t : TypeId) (fr : Nat × Nat), W.heap[k]? = some (Obj.cells cs t fr) → (t = 67 ∨ t = 87 ∨ t = 90 ∨ t = 5) → W'.heap[k]? = some (Obj.cells cs t fr)
  ab : ∀ v, W.cell? ⟨Ba, 0, none⟩ = some v → W'.cell? ⟨Ba, 0, none⟩ = some v

/-- A pool of pieces and bytes. -/
def PB (P : Pool) : Prop := ∀ x ∈ P, ∃ cs t, x.2 = .cells cs t (0, 0) ∧ (t = 90 ∨ t = 5)

theorem Kept.keep {W W' : World} {T By Ba lv : Nat} {ps : List Nat} {P : Pool} {l a : Nat} (h : Kept W T By Ba lv ps P l a) (hP : PB P) (hk : KeepT Ba W W') : Kept W' T By Ba lv ps P l a :=
  ⟨hk.ty _ _ _ _ h.tb (by simp), hk.ty _ _ _ _ h.yb (by simp), hk.ab _ h.ab, fun x hx => by
    obtain ⟨cs, t, e, ht⟩ := hP x hx
    have := h.pl x hx
    rw [e] at this ⊢
    exact hk.ty _ _ _ _ this (by rcases ht with rfl | rfl <;> simp)⟩

theorem Kept.below {W W' : World} {T By Ba lv : Nat} {ps : List Nat} {P : Pool} {l a : Nat} (h : Kept W T By Ba lv ps P l a) (hb : Below W.heap.size W W') : Kept W' T By Ba lv ps P l a :=
  ⟨(hb.block _ (Array.getElem?_eq_some_iff.1 h.tb).1).trans h.tb, (hb.block _ (Array.getElem?_eq_some_iff.1 h.yb).1).trans h.yb, cell_under hb (lt_of_cell h.ab) h.ab, fun x hx => (hb.block _ (Array.getElem?_eq_some_iff.1 (h.pl x hx)).1).trans (h.pl x hx)⟩

/-- The part of a pool that a tree needs. -/
def pbOf (P : Pool) : Pool := P.filter fun x => match x.2 with | .cells _ t fr => (t == 90 || t == 5) && fr == (0, 0) | _ => false
theorem pbOf_PB (P : Pool) : PB (pbOf P) := by
  intro x hx
  have h := (List.mem_filter.1 hx).2
  cases e : x.2 with
  | cells cs t fr =>
    rw [e] at h
    simp only [Bool.and_eq_true, Bool.or_eq_true, beq_iff_eq] at h
    obtain ⟨ht, rfl⟩ := h
    exact ⟨cs, t, rfl, ht⟩
  | _ => rw [e] at h; simp at h
theorem pbOf_sub (P : Pool) : ∀ x ∈ pbOf P, x ∈ P := fun x hx => (List.mem_filter.1 hx).1
theorem Tr.pb {P : Pool} {ps : List Nat} {N : Nodes} (h : Tr P ps N) : Tr (pbOf P) ps N := by
  refine ⟨h.len, fun j p hj => ?_, fun k hk => ?_⟩
  · obtain ⟨vs, hm, r⟩ := h.pc j p hj
    exact ⟨vs, List.mem_filter.2 ⟨hm, by simp⟩, r⟩
  · rcases h.dat k hk with h | ⟨g, cap, cur, e, hc, hm, ht⟩
    · exact Or.inl h
    · exact Or.inr ⟨g, cap, cur, e, hc, List.mem_filter.2 ⟨hm, by simp⟩, ht⟩

/-- The closure that look is handed. -/
theorem see_inv {l m lv a T By Ba : Nat} {ps : List Nat} {N : Nodes} {P : Pool} {V : List Nat} (J Jx : List Xs → World → Prop) (Kp : World → World → Prop) (hT : Tr P ps N) (hKp : ∀ A B, Kept A T By Ba lv ps P l a → Kp A B → Kept B T By Ba lv ps P l a) (hlv : lv ≤ 64) (hlen : ∀ k, lv ≤ k → k < 2 * lv → (N k).2.2.length ≤ 2304) (hV128 : V.length ≤ 127)
    (hJ : ∀ pre W W', J pre W → Below W.heap.size W W' → J pre W')
    (hY : ∀ pre x W0 W1, J pre W0 → x.Fresh W0 W1 → (pre ++ [x]).map Xs.key <+: sel N lv a V → pre.length < 128 → YieldAt Fence.wide m Try.prog l #[x.enc] W1 fun e W' => (e = .returned (.bool true) ∧ J (pre ++ [x]) W' ∧ Kp W1 W') ∨ (e = .returned (.bool false) ∧ Jx (pre ++ [x]) W'))
    (lst : List Nat) (k : Nat) (rest : List Nat) (w : World) (hV : lst ++ k :: rest = V) (hk2 : k < 2 * lv)
    (hI : (∃ pre, J pre w ∧ pre.map Xs.key = sel N lv a lst) ∧ Kept w T By Ba lv ps P l a) :
    Calls Try.prog 41 #[.int .i64 (k : Int), .pointer (some ⟨T, 0, none⟩), .pointer (some ⟨Ba, 0, none⟩), .pointer (some ⟨By, 0, none⟩)] w fun e w' =>
      (e = .returned (.bool true) ∧ (∃ pre, J pre w' ∧ pre.map Xs.key = sel N lv a (lst ++ [k])) ∧ Kept w' T By Ba lv ps P l a) ∨ (e = .returned (.bool false) ∧ ∃ pre, Jx pre w' ∧ pre.map Xs.key = sel N lv a (lst ++ [k])) := by
  obtain ⟨⟨pre, hj, hpre⟩, hK⟩ := hI
  have hk : k < 128 := by omega
  have view := hT.view (pre := []) (w := w) (g := T) (t := 67) hK.pl hK.tb
  by_cases hc : lv ≤ k ∧ a < (N k).1
  · have hs : sel N lv a (lst ++ [k]) = sel N lv a lst ++ [(k - lv, (N k).1, (N k).2.2)] := by
      rw [sel_append]; simp [sel, hc]
    have hpl : pre.length < 128 := by
      have h1 : pre.length = (sel N lv a lst).length := by rw [← hpre]; simp
      have h2 := sel_len N lv a lst
      have h3 : (lst ++ k :: rest).length = V.length := by rw [hV]
      simp at h3
      omega
    refine (callsIn_wide (n := m + 1)).1 ((see41 (n := m) (l := l) (Rb := fun b w' => if b then ((∃ pre, J pre w' ∧ pre.map Xs.key = sel N lv a (lst ++ [k])) ∧ Kept w' T By Ba lv ps P l a) else ∃ pre, Jx pre w' ∧ pre.map Xs.key = sel N lv a (lst ++ [k])) view hK.ab (by rw [cell_at hK.yb]; rfl) hk hc.1 hc.2 (hlen k hc.1 hk2) ?_).mono ?_)
    · intro v W1 ho hb
      obtain ⟨ao, c, rfl⟩ := owns_form ho
      have hy := hY pre ⟨k - lv, (N k).1, ao, (N k).2.2.length, c, (N k).2.2⟩ w W1 hj ⟨hb, ho⟩ (by rw [List.map_append, hpre, ← hV, show lst ++ k :: rest = (lst ++ [k]) ++ rest by simp, sel_append, hs]; exact ⟨_, rfl⟩) hpl
      obtain ⟨fn, tmps, assign, body, h1, h2⟩ := hy
      refine ⟨fn, tmps, assign, body, h1, h2.mono ?_⟩
      rintro e W' (⟨rfl, hj', hkp⟩ | ⟨rfl, hjx⟩)
      · refine ⟨true, rfl, ?_⟩
        rw [if_pos rfl]
        have hK1 := hK.below hb
        exact ⟨⟨_, hj', by rw [hs]; simp [hpre, Xs.key]⟩, hKp _ _ hK1 hkp⟩
      · refine ⟨false, rfl, ?_⟩
        rw [if_neg (by simp)]
        exact ⟨_, hjx, by rw [hs]; simp [hpre, Xs.key]⟩
    · rintro e w' ⟨b, rfl, hb⟩
      cases b with
      | true => rw [if_pos rfl] at hb; exact Or.inl ⟨rfl, hb⟩
      | false => rw [if_neg (by simp)] at hb; exact Or.inr ⟨rfl, hb⟩
  · have hs : sel N lv a (lst ++ [k]) = sel N lv a lst := by
      rw [sel_append]; simp [sel, hc]
    refine (see41_not view hK.ab hk (by omega)).mono ?_
    rintro e w' ⟨rfl, q, rfl⟩
    exact Or.inl ⟨rfl, ⟨pre, hJ _ _ _ hj (bdN w q), by rw [hs]; exact hpre⟩, hK.below (bdN w q)⟩

theorem bookL_tree (n lv : Nat) (ps : List Nat) : bookL n lv ps = .int .i64 (n : Int) :: treeL [] lv ps := rfl

set_option maxRecDepth 100000 in
set_option maxHeartbeats 4000000 in
/-- The iterator: Since's function. -/
theorem since39 {l m g n h a Bb Ba : Nat} {ps : List Nat} {N : Nodes} {P : Pool} {S : Sheets} {W : World} (J Jx : List Xs → World → Prop) (Kp : World → World → Prop) (hKp : ∀ T By A B, Kept A T By Ba (2 ^ h) ps (pbOf P) l a → Kp A B → Kept B T By Ba (2 ^ h) ps (pbOf P) l a)
    (hBb : W.cell? ⟨Bb, 0, none⟩ = some (.pointer (some ⟨g, 0, none⟩))) (hBa : W.cell? ⟨Ba, 0, none⟩ = some (.int .i64 (a : Int))) (hg : W.heap[g]? = some (.cells (bookL n (2 ^ h) ps).toArray 70 (0, 0))) (hp : ∀ x ∈ P, W.heap[x.1]? = some x.2) (hB : Bk P n (2 ^ h) ps N S) (hh : h ≤ 6)
    (hJ : ∀ pre W W', J pre W → Below W.heap.size W W' → J pre W')
    (hY : ∀ pre x W0 W1, J pre W0 → x.Fresh W0 W1 → (pre ++ [x]).map Xs.key <+: sel N (2 ^ h) a (vis N a h 1) → pre.length < 128 → YieldAt Fence.wide m Try.prog l #[x.enc] W1 fun e W' => (e = .returned (.bool true) ∧ J (pre ++ [x]) W' ∧ Kp W1 W') ∨ (e = .returned (.bool false) ∧ Jx (pre ++ [x]) W'))
    (h0 : J [] W) :
    Calls Try.prog 39 #[.func (.yield l) #[] #[], .pointer (some ⟨Bb, 0, none⟩), .pointer (some ⟨Ba, 0, none⟩)] W fun e W' => (∃ v, e = .returned v) ∧
      ((∃ ys, ys.map Xs.key = sel N (2 ^ h) a (vis N a h 1) ∧ J ys W') ∨ (∃ pre, pre.map Xs.key <+: sel N (2 ^ h) a (vis N a h 1) ∧ Jx pre W')) := by
  have hlv := hB.lv64
  have hlen : ∀ k, 2 ^ h ≤ k → k < 2 * 2 ^ h → (N k).2.2.length ≤ 2304 := fun k h1 h2 => by
    have := hB.sh (k - 2 ^ h) (by omega)
    rw [show 2 ^ h + (k - 2 ^ h) = k by omega] at this
    have h3 := (hB.cap (k - 2 ^ h)).2
    rw [← this] at h3
    exact h3
  obtain ⟨C, hC⟩ : ∃ C, Hid (C = (treeL [] (2 ^ h) ps).toArray) := ⟨_, hid rfl⟩
  obtain ⟨Z, hZ⟩ : ∃ Z : Array Value, Hid (Z = (midL 0 0 0).toArray) := ⟨_, hid rfl⟩
  have hps := hB.tr.len
  have hCs : C.size = 17 := by rw [hC.out]; simp [treeL, hps]
  have hZs : Z.size = 17 := by rw [hZ.out]; rfl
  have hC1 : C.all (·.oneCell') = true := by
    rw [hC.out]
    simp [treeL, Value.oneCell', ptr]
  have hgw := (Array.getElem?_eq_some_iff.1 hg).1
  have hi67 : (Try.prog.info? 67).map (·.size) = some C.size := by rw [hCs]; kernel_rfl
  have hi67' : (Try.prog.info? 67).map (·.size) = some C.toList.length := by simpa using hi67
  -- the world behind the pin
  have hrange : World.rangeAt (W.alloc (.cells #[.func (.yield l) #[] #[]] 87)) g 1 C.toList := fun j v hj => by
    rw [hC.out] at hj
    refine cell_under (ba W _) hgw ?_
    rw [cell_at hg, bookL_tree, List.getElem?_toArray, Nat.add_comm 1 j, List.getElem?_cons_succ]
    simpa using hj
  generalize hW2 : (W.alloc (.cells #[.func (.yield l) #[] #[]] 87)).alloc (.cells Z 67) = W2
  have hTz : W2.heap[W.heap.size + 1]? = some (.cells Z 67 (0, 0)) := by
    rw [← hW2]; have := heap_alloc_new (W.alloc (.cells #[.func (.yield l) #[] #[]] 87)) (.cells Z 67); simpa using this
  have hb2 : Below W.heap.size W W2 := by rw [← hW2]; exact ((Below.refl _ W).alloc (Nat.le_refl _) _).alloc (by simp) _
  have hy2 : W2.heap[W.heap.size]? = some (.cells #[.func (.yield l) #[] #[]] 87 (0, 0)) := by
    rw [← hW2]; exact (Below.heap_alloc _ _ _ (by simp)).trans (heap_alloc_new W _)
  have hT3 := setRow_heap W2 (W.heap.size + 1) _ C 67 (0, 0) hTz
  have hb3 : Below W.heap.size W (W2.setRow (W.heap.size + 1) C) := ⟨hb2.os, hb2.tape, hb2.output, by simpa using hb2.size, fun k hk => (setRow_other W2 (W.heap.size + 1) k _ (by omega)).trans (hb2.block k hk)⟩
  have hy3 : (W2.setRow (W.heap.size + 1) C).heap[W.heap.size]? = some (.cells #[.func (.yield l) #[] #[]] 87 (0, 0)) := (setRow_other W2 (W.heap.size + 1) _ _ (by omega)).trans hy2
  have key := look41 (g := W.heap.size + 1) (o := 0) (lv := 2 ^ h) (a := a) (m1 := W.heap.size + 1) (m2 := Ba) (m3 := W.heap.size) (N := N)
    (fun lst w => (∃ pre, J pre w ∧ pre.map Xs.key = sel N (2 ^ h) a lst) ∧ Kept w (W.heap.size + 1) W.heap.size Ba (2 ^ h) ps (pbOf P) l a)
    (fun lst w => ∃ pre, Jx pre w ∧ pre.map Xs.key = sel N (2 ^ h) a lst) hlv
    (fun lst w hI => hB.tr.pb.view (pre := []) (t := 67) hI.2.pl hI.2.tb) (vis N a h 1)
    (fun lst k rest w hV hk hI => see_inv J Jx Kp hB.tr.pb (hKp _ _) hlv hlen (vis_127 N a hh 1) hJ hY lst k rest w hV hk hI)
    h 1 [] [] (W2.setRow (W.heap.size + 1) C) (Ht.root h) (by simp) ⟨⟨[], hJ _ _ _ h0 hb3, rfl⟩, ⟨by rw [hT3, hC.out], hy3, cell_under hb3 (lt_of_cell hBa) hBa, fun x hx => (hb3.block _ (Array.getElem?_eq_some_iff.1 (hp x (pbOf_sub P x hx))).1).trans (hp x (pbOf_sub P x hx))⟩⟩
  have K : Hid (Calls Try.prog 40 #[.pointer (some ⟨W.heap.size + 1, 0, none⟩), .int .i64 1, .int .i64 (a : Int), .func (.func 41) #[] #[.pointer (some ⟨W.heap.size + 1, 0, none⟩), .pointer (some ⟨Ba, 0, none⟩), .pointer (some ⟨W.heap.size, 0, none⟩)]] (W2.setRow (W.heap.size + 1) C) fun r w' => (∃ b, r = .returned (.bool b)) ∧ ((∃ ys, ys.map Xs.key = sel N (2 ^ h) a (vis N a h 1) ∧ J ys w') ∨ (∃ pre, pre.map Xs.key <+: sel N (2 ^ h) a (vis N a h 1) ∧ Jx pre w'))) := hid (key.mono (fun r w' hr => by
    rcases hr with ⟨rfl, ⟨pre, hj, hp⟩, _⟩ | ⟨rfl, pv, hpv, pre, hj, hp⟩
    · exact ⟨⟨_, rfl⟩, Or.inl ⟨pre, by simpa using hp, hj⟩⟩
    · refine ⟨⟨_, rfl⟩, Or.inr ⟨pre, ?_, hj⟩⟩
      obtain ⟨tl, htl⟩ := hpv
      rw [hp, ← htl, List.nil_append, sel_append]
      exact ⟨_, rfl⟩))
  have HH := hid (show _ ∧ _ ∧ _ ∧ _ ∧ _ ∧ _ from ⟨hrange, hi67', hTz, hi67, hZs.trans hCs.symm, hC1⟩)
  have HA := hid (cell_under hb3 (lt_of_cell hBa) hBa)
  have HW : Hid ((W.alloc (.cells #[.func (.yield l) #[] #[]] 87)).alloc (.cells #[.int .i64 0, .pointer none, .pointer none, .pointer none, .pointer none, .pointer none, .pointer none, .pointer none, .pointer none, .pointer none, .pointer none, .pointer none, .pointer none, .pointer none, .pointer none, .pointer none, .pointer none] 67) = W2) := hid (by rw [← hW2, hZ.out]; rfl)
  have HT0 : Hid (((W.alloc (.cells #[.func (.yield l) #[] #[]] 87)).alloc (.cells #[.int .i64 0, .pointer none, .pointer none, .pointer none, .pointer none, .pointer none, .pointer none, .pointer none, .pointer none, .pointer none, .pointer none, .pointer none, .pointer none, .pointer none, .pointer none, .pointer none, .pointer none] 67)).heap[W.heap.size + 1]? = some (.cells Z 67 (0, 0))) := hid (by rw [HW.out]; exact hTz)
  have lb : Bb < W.heap.size := lt_of_cell hBb
  clear key hT3 hb3 hy3 hTz hb2 hy2 hrange hi67 hi67' hC1 hZs hCs hps hlen hlv hJ hY h0 hp hg hB hW2
  go_enter Try.func39, Try.ntmps39
  go_wp2_with (first | (refine wpList_load_mid rfl 67 _ rfl g 1 rfl C.toList _ HH.out.1 Try.underlying67 rfl HH.out.2.1 ?_) | (refine wpList_store_row rfl 67 _ _ rfl (W.heap.size + 1) C rfl rfl 67 _ HT0.out HH.out.2.2.2.1 HH.out.2.2.2.2.1 HH.out.2.2.2.2.2 ?_; rw [HW.out]; have HA := HA.out))
  go_at_call 40
  refine K.out.mono ?_
  rintro r w3 ⟨⟨b, rfl⟩, h3⟩
  have h3 := hid h3
  go_wp2
  go_end0
  exact ⟨⟨_, rfl⟩, h3.out⟩

end Go.Proofs.Ytaomhahmpbfjhaa
