import Derived.Test.YtafickhhdemjnaaGreatDoorJ21
import Derived.Deep.MidRow
import Derived.Maps.AppendAt
import Derived.Maps.OwnIn
namespace Go.Proofs.YtafickhhdemjnaaGreatDoor
open Go.RowKit Go.Shelf Go.Sort
set_option linter.unusedVariables false

/-- A sheet that is handed out. -/
structure Xs where
  num : Nat
  at_ : Nat
  ao : Option Addr
  len : Nat
  cap : Nat
  bs : List UInt8

def Xs.v (x : Xs) : Value := .slice x.ao x.len x.cap
def Xs.enc (x : Xs) : Value := .agg #[.int .i64 (x.num : Int), .int .i64 (x.at_ : Int), .slice x.ao x.len x.cap]
def Xs.key (x : Xs) : Nat × Nat × List UInt8 := (x.num, x.at_, x.bs)
/-- Its bytes lie in a row that was made just now. -/
def Xs.Fresh (x : Xs) (W0 W1 : World) : Prop := Below W0.heap.size W0 W1 ∧ W1.ownsRow W0.heap.size 5 1 x.v x.bs.length (cellsB x.bs)

/-- Of the nodes that were looked at: the sheets that are newer. -/
def sel (N : Nodes) (lv a : Nat) (l : List Nat) : List (Nat × Nat × List UInt8) := l.filterMap fun k => if lv ≤ k ∧ a < (N k).1 then some (k - lv, (N k).1, (N k).2.2) else none
theorem sel_append (N : Nodes) (lv a : Nat) (l m : List Nat) : sel N lv a (l ++ m) = sel N lv a l ++ sel N lv a m := by simp [sel]
theorem sel_len (N : Nodes) (lv a : Nat) (l : List Nat) : (sel N lv a l).length ≤ l.length := List.length_filterMap_le _ _

/-- What the iterator has for itself. -/
structure Kept (W : World) (T By Ba lv : Nat) (ps : List Nat) (P : Pool) (l a : Nat) : Prop where
  tb : W.heap[T]? = some (.cells (treeL [] lv ps).toArray 177 (0, 0))
  yb : W.heap[By]? = some (.cells #[.func (.yield l) #[] #[]] 181 (0, 0))
  ab : W.cell? ⟨Ba, 0, none⟩ = some (.int .i64 (a : Int))
  pl : ∀ x ∈ P, W.heap[x.1]? = some x.2

/-- The blocks of the iterator stay. -/
structure KeepT (Ba : Nat) (W W' : World) : Prop where
  size : W.heap.size ≤ W'.heap.size
  ty : ∀ (k : Nat) (cs : Array Value) (t : TypeId) (fr : Nat × Nat), W.heap[k]? = some (Obj.cells cs t fr) → (t = 177 ∨ t = 181 ∨ t = 222 ∨ t = 5) → W'.heap[k]? = some (Obj.cells cs t fr)
  ab : ∀ v, W.cell? ⟨Ba, 0, none⟩ = some v → W'.cell? ⟨Ba, 0, none⟩ = some v

/-- A pool of pieces and bytes. -/
def PB (P : Pool) : Prop := ∀ x ∈ P, ∃ cs t, x.2 = .cells cs t (0, 0) ∧ (t = 222 ∨ t = 5)

theorem Kept.keep {W W' : World} {T By Ba lv : Nat} {ps : List Nat} {P : Pool} {l a : Nat} (h : Kept W T By Ba lv ps P l a) (hP : PB P) (hk : KeepT Ba W W') : Kept W' T By Ba lv ps P l a :=
  ⟨hk.ty _ _ _ _ h.tb (by simp), hk.ty _ _ _ _ h.yb (by simp), hk.ab _ h.ab, fun x hx => by
    obtain ⟨cs, t, e, ht⟩ := hP x hx
    have := h.pl x hx
    rw [e] at this ⊢
    exact hk.ty _ _ _ _ this (by rcases ht with rfl | rfl <;> simp)⟩

theorem Kept.below {W W' : World} {T By Ba lv : Nat} {ps : List Nat} {P : Pool} {l a : Nat} (h : Kept W T By Ba lv ps P l a) (hb : Below W.heap.size W W') : Kept W' T By Ba lv ps P l a :=
  ⟨(hb.block _ (Array.getElem?_eq_some_iff.1 h.tb).1).trans h.tb, (hb.block _ (Array.getElem?_eq_some_iff.1 h.yb).1).trans h.yb, cell_under hb (lt_of_cell h.ab) h.ab, fun x hx => (hb.block _ (Array.getElem?_eq_some_iff.1 (h.pl x hx)).1).trans (h.pl x hx)⟩

/-- The part of a pool that a tree needs. -/
def pbOf (P : Pool) : Pool := P.filter fun x => match x.2 with | .cells _ t fr => (t == 222 || t == 5) && fr == (0, 0) | _ => false
theorem pbOf_PB (P : Pool) : PB (pbOf P) := by
  intro x hx
  have h := (List.mem_filter.1 hx).2
  cases e : x.2 with
  | cells cs t fr =>
    rw [e] at h
    simp only [Bool.and_eq_true, Bool.or_eq_true, beq_iff_eq] at h
    obtain ⟨ht, rfl⟩ := h
    exact ⟨cs, t, rfl, ht⟩
  | _ => rw [e] at h; simp at h
theorem pbOf_sub (P : Pool) : ∀ x ∈ pbOf P, x ∈ P := fun x hx => (List.mem_filter.1 hx).1
theorem Tr.pb {P : Pool} {ps : List Nat} {N : Nodes} (h : Tr P ps N) : Tr (pbOf P) ps N := by
  refine ⟨h.len, fun j p hj => ?_, fun k hk => ?_⟩
  · obtain ⟨vs, hm, r⟩ := h.pc j p hj
    exact ⟨vs, List.mem_filter.2 ⟨hm, by simp⟩, r⟩
  · rcases h.dat k hk with h | ⟨g, cap, cur, e, hc, hm, ht⟩
    · exact Or.inl h
    · exact Or.inr ⟨g, cap, cur, e, hc, List.mem_filter.2 ⟨hm, by simp⟩, ht⟩

/-- The closure that look is handed. -/
theorem see_inv {l m lv a T By Ba : Nat} {ps : List Nat} {N : Nodes} {P : Pool} {V : List Nat} (J Jx : List Xs → World → Prop) (Kp : World → World → Prop) (hT : Tr P ps N) (hKp : ∀ A B, Kept A T By Ba lv ps P l a → Kp A B → Kept B T By Ba lv ps P l a) (hlv : lv ≤ 64) (hlen : ∀ k, lv ≤ k → k < 2 * lv → (N k).2.2.length ≤ 2304) (hV128 : V.length ≤ 127)
    (hJ : ∀ pre W W', J pre W → Below W.heap.size W W' → J pre W')
    (hY : ∀ pre x W0 W1, J pre W0 → x.Fresh W0 W1 → (pre ++ [x]).map Xs.key <+: sel N lv a V → pre.length < 128 → YieldAt Fence.wide m Tryz.prog l #[x.enc] W1 fun e W' => (e = .returned (.bool true) ∧ J (pre ++ [x]) W' ∧ Kp W1 W') ∨ (e = .returned (.bool false) ∧ Jx (pre ++ [x]) W'))
    (lst : List Nat) (k : Nat) (rest : List Nat) (w : World) (hV : lst ++ k :: rest = V) (hk2 : k < 2 * lv)
    (hI : (∃ pre, J pre w ∧ pre.map Xs.key = sel N lv a lst) ∧ Kept w T By Ba lv ps P l a) :
    Calls Tryz.prog 112 #[.int .i64 (k : Int), .pointer (some ⟨T, 0, none⟩), .pointer (some ⟨Ba, 0, none⟩), .pointer (some ⟨By, 0, none⟩)] w fun e w' =>
      (e = .returned (.bool true) ∧ (∃ pre, J pre w' ∧ pre.map Xs.key = sel N lv a (lst ++ [k])) ∧ Kept w' T By Ba lv ps P l a) ∨ (e = .returned (.bool false) ∧ ∃ pre, Jx pre w' ∧ pre.map Xs.key = sel N lv a (lst ++ [k])) := by
  obtain ⟨⟨pre, hj, hpre⟩, hK⟩ := hI
  have hk : k < 128 := by omega
  have view := hT.view (pre := []) (w := w) (g := T) (t := 177) hK.pl hK.tb
  by_cases hc : lv ≤ k ∧ a < (N k).1
  · have hs : sel N lv a (lst ++ [k]) = sel N lv a lst ++ [(k - lv, (N k).1, (N k).2.2)] := by
      rw [sel_append]; simp [sel, hc]
    have hpl : pre.length < 128 := by
      have h1 : pre.length = (sel N lv a lst).length := by rw [← hpre]; simp
      have h2 := sel_len N lv a lst
      have h3 : (lst ++ k :: rest).length = V.length := by rw [hV]
      simp at h3
      omega
    refine (callsIn_wide (n := m + 1)).1 ((see41 (n := m) (l := l) (Rb := fun b w' => if b then ((∃ pre, J pre w' ∧ pre.map Xs.key = sel N lv a (lst ++ [k])) ∧ Kept w' T By Ba lv ps P l a) else ∃ pre, Jx pre w' ∧ pre.map Xs.key = sel N lv a (lst ++ [k])) view hK.ab (by rw [cell_at hK.yb]; rfl) hk hc.1 hc.2 (hlen k hc.1 hk2) ?_).mono ?_)
    · intro v W1 ho hb
      obtain ⟨ao, c, rfl⟩ := owns_form ho
      have hy := hY pre ⟨k - lv, (N k).1, ao, (N k).2.2.length, c, (N k).2.2⟩ w W1 hj ⟨hb, ho⟩ (by rw [List.map_append, hpre, ← hV, show lst ++ k :: rest = (lst ++ [k]) ++ rest by simp, sel_append, hs]; exact ⟨_, rfl⟩) hpl
      obtain ⟨fn, tmps, assign, body, h1, h2⟩ := hy
      refine ⟨fn, tmps, assign, body, h1, h2.mono ?_⟩
      rintro e W' (⟨rfl, hj', hkp⟩ | ⟨rfl, hjx⟩)
      · refine ⟨true, rfl, ?_⟩
        rw [if_pos rfl]
        have hK1 := hK.below hb
        exact ⟨⟨_, hj', by rw [hs]; simp [hpre, Xs.key]⟩, hKp _ _ hK1 hkp⟩
      · refine ⟨false, rfl, ?_⟩
        rw [if_neg (by simp)]
        exact ⟨_, hjx, by rw [hs]; simp [hpre, Xs.key]⟩
    · rintro e w' ⟨b, rfl, hb⟩
      cases b with
      | true => rw [if_pos rfl] at hb; exact Or.inl ⟨rfl, hb⟩
      | false => rw [if_neg (by simp)] at hb; exact Or.inr ⟨rfl, hb⟩
  · have hs : sel N lv a (lst ++ [k]) = sel N lv a lst := by
      rw [sel_append]; simp [sel, hc]
    refine (see41_not view hK.ab hk (by omega)).mono ?_
    rintro e w' ⟨rfl, q, rfl⟩
    exact Or.inl ⟨rfl, ⟨pre, hJ _ _ _ hj (bdN w q), by rw [hs]; exact hpre⟩, hK.below (bdN w q)⟩

theorem bookL_tree (n lv : Nat) (ps : List Nat) : bookL n lv ps = .int .i64 (n : Int) :: treeL [] lv ps := rfl

set_option maxRecDepth 100000 in
set_option maxHeartbeats 4000000 in
/-- The iterator: Since's function. -/
theorem since39 {l m g n h a Bb Ba : Nat} {ps : List Nat} {N : Nodes} {P : Pool} {S : Sheets} {W : World} (J Jx : List Xs → World → Prop) (Kp : World → World → Prop) (hKp : ∀ T By A B, Kept A T By Ba (2 ^ h) ps (pbOf P) l a → Kp A B → Kept B T By Ba (2 ^ h) ps (pbOf P) l a)
    (hBb : W.cell? ⟨Bb, 0, none⟩ = some (.pointer (some ⟨g, 0, none⟩))) (hBa : W.cell? ⟨Ba, 0, none⟩ = some (.int .i64 (a : Int))) (hg : W.heap[g]? = some (.cells (bookL n (2 ^ h) ps).toArray 180 (0, 0))) (hp : ∀ x ∈ P, W.heap[x.1]? = some x.2) (hB : Bk P n (2 ^ h) ps N S) (hh : h ≤ 6)
    (hJ : ∀ pre W W', J pre W → Below W.heap.size W W' → J pre W')
    (hY : ∀ pre x W0 W1, J pre W0 → x.Fresh W0 W1 → (pre ++ [x]).map Xs.key <+: sel N (2 ^ h) a (vis N a h 1) → pre.length < 128 → YieldAt Fence.wide m Tryz.prog l #[x.enc] W1 fun e W' => (e = .returned (.bool true) ∧ J (pre ++ [x]) W' ∧ Kp W1 W') ∨ (e = .returned (.bool false) ∧ Jx (pre ++ [x]) W'))
    (h0 : J [] W) :
    Calls Tryz.prog 110 #[.func (.yield l) #[] #[], .pointer (some ⟨Bb, 0, none⟩), .pointer (some ⟨Ba, 0, none⟩)] W fun e W' => (∃ v, e = .returned v) ∧
      ((∃ ys, ys.map Xs.key = sel N (2 ^ h) a (vis N a h 1) ∧ J ys W') ∨ (∃ pre, pre.map Xs.key <+: sel N (2 ^ h) a (vis N a h 1) ∧ Jx pre W')) := by
  have hlv := hB.lv64
  have hlen : ∀ k, 2 ^ h ≤ k → k < 2 * 2 ^ h → (N k).2.2.length ≤ 2304 := fun k h1 h2 => by
    have := hB.sh (k - 2 ^ h) (by omega)
    rw [show 2 ^ h + (k - 2 ^ h) = k by omega] at this
    have h3 := (hB.cap (k - 2 ^ h)).2
    rw [← this] at h3
    exact h3
  obtain ⟨C, hC⟩ : ∃ C, Hid (C = (treeL [] (2 ^ h) ps).toArray) := ⟨_, hid rfl⟩
  obtain ⟨Z, hZ⟩ : ∃ Z : Array Value, Hid (Z = (midL 0 0 0).toArray) := ⟨_, hid rfl⟩
  have hps := hB.tr.len
  have hCs : C.size = 17 := by rw [hC.out]; simp [treeL, hps]
  have hZs : Z.size = 17 := by rw [hZ.out]; rfl
  have hC1 : C.all (·.oneCell') = true := by
    rw [hC.out]
    simp [treeL, Value.oneCell', ptr]
  have hgw := (Array.getElem?_eq_some_iff.1 hg).1
  have hi67 : (Tryz.prog.info? 177).map (·.size) = some C.size := by rw [hCs]; kernel_rfl
  have hi67' : (Tryz.prog.info? 177).map (·.size) = some C.toList.length := by simpa using hi67
  -- the world behind the pin
  have hrange : World.rangeAt (W.alloc (.cells #[.func (.yield l) #[] #[]] 181)) g 1 C.toList := fun j v hj => by
    rw [hC.out] at hj
    refine cell_under (ba W _) hgw ?_
    rw [cell_at hg, bookL_tree, List.getElem?_toArray, Nat.add_comm 1 j, List.getElem?_cons_succ]
    simpa using hj
  generalize hW2 : (W.alloc (.cells #[.func (.yield l) #[] #[]] 181)).alloc (.cells Z 177) = W2
  have hTz : W2.heap[W.heap.size + 1]? = some (.cells Z 177 (0, 0)) := by
    rw [← hW2]; have := heap_alloc_new (W.alloc (.cells #[.func (.yield l) #[] #[]] 181)) (.cells Z 177); simpa using this
  have hb2 : Below W.heap.size W W2 := by rw [← hW2]; exact ((Below.refl _ W).alloc (Nat.le_refl _) _).alloc (by simp) _
  have hy2 : W2.heap[W.heap.size]? = some (.cells #[.func (.yield l) #[] #[]] 181 (0, 0)) := by
    rw [← hW2]; exact (Below.heap_alloc _ _ _ (by simp)).trans (heap_alloc_new W _)
  have hT3 := setRow_heap W2 (W.heap.size + 1) _ C 177 (0, 0) hTz
  have hb3 : Below W.heap.size W (W2.setRow (W.heap.size + 1) C) := ⟨hb2.os, hb2.tape, hb2.output, by simpa using hb2.size, fun k hk => (setRow_other W2 (W.heap.size + 1) k _ (by omega)).trans (hb2.block k hk)⟩
  have hy3 : (W2.setRow (W.heap.size + 1) C).heap[W.heap.size]? = some (.cells #[.func (.yield l) #[] #[]] 181 (0, 0)) := (setRow_other W2 (W.heap.size + 1) _ _ (by omega)).trans hy2
  have key := look41 (g := W.heap.size + 1) (o := 0) (lv := 2 ^ h) (a := a) (m1 := W.heap.size + 1) (m2 := Ba) (m3 := W.heap.size) (N := N)
    (fun lst w => (∃ pre, J pre w ∧ pre.map Xs.key = sel N (2 ^ h) a lst) ∧ Kept w (W.heap.size + 1) W.heap.size Ba (2 ^ h) ps (pbOf P) l a)
    (fun lst w => ∃ pre, Jx pre w ∧ pre.map Xs.key = sel N (2 ^ h) a lst) hlv
    (fun lst w hI => hB.tr.pb.view (pre := []) (t := 177) hI.2.pl hI.2.tb) (vis N a h 1)
    (fun lst k rest w hV hk hI => see_inv J Jx Kp hB.tr.pb (hKp _ _) hlv hlen (vis_127 N a hh 1) hJ hY lst k rest w hV hk hI)
    h 1 [] [] (W2.setRow (W.heap.size + 1) C) (Ht.root h) (by simp) ⟨⟨[], hJ _ _ _ h0 hb3, rfl⟩, ⟨by rw [hT3, hC.out], hy3, cell_under hb3 (lt_of_cell hBa) hBa, fun x hx => (hb3.block _ (Array.getElem?_eq_some_iff.1 (hp x (pbOf_sub P x hx))).1).trans (hp x (pbOf_sub P x hx))⟩⟩
  have K : Hid (Calls Tryz.prog 111 #[.pointer (some ⟨W.heap.size + 1, 0, none⟩), .int .i64 1, .int .i64 (a : Int), .func (.func 112) #[] #[.pointer (some ⟨W.heap.size + 1, 0, none⟩), .pointer (some ⟨Ba, 0, none⟩), .pointer (some ⟨W.heap.size, 0, none⟩)]] (W2.setRow (W.heap.size + 1) C) fun r w' => (∃ b, r = .returned (.bool b)) ∧ ((∃ ys, ys.map Xs.key = sel N (2 ^ h) a (vis N a h 1) ∧ J ys w') ∨ (∃ pre, pre.map Xs.key <+: sel N (2 ^ h) a (vis N a h 1) ∧ Jx pre w'))) := hid (key.mono (fun r w' hr => by
    rcases hr with ⟨rfl, ⟨pre, hj, hp⟩, _⟩ | ⟨rfl, pv, hpv, pre, hj, hp⟩
    · exact ⟨⟨_, rfl⟩, Or.inl ⟨pre, by simpa using hp, hj⟩⟩
    · refine ⟨⟨_, rfl⟩, Or.inr ⟨pre, ?_, hj⟩⟩
      obtain ⟨tl, htl⟩ := hpv
      rw [hp, ← htl, List.nil_append, sel_append]
      exact ⟨_, rfl⟩))
  have HH := hid (show _ ∧ _ ∧ _ ∧ _ ∧ _ ∧ _ from ⟨hrange, hi67', hTz, hi67, hZs.trans hCs.symm, hC1⟩)
  have HA := hid (cell_under hb3 (lt_of_cell hBa) hBa)
  have HW : Hid ((W.alloc (.cells #[.func (.yield l) #[] #[]] 181)).alloc (.cells #[.int .i64 0, .pointer none, .pointer none, .pointer none, .pointer none, .pointer none, .pointer none, .pointer none, .pointer none, .pointer none, .pointer none, .pointer none, .pointer none, .pointer none, .pointer none, .pointer none, .pointer none] 177) = W2) := hid (by rw [← hW2, hZ.out]; rfl)
  have HT0 : Hid (((W.alloc (.cells #[.func (.yield l) #[] #[]] 181)).alloc (.cells #[.int .i64 0, .pointer none, .pointer none, .pointer none, .pointer none, .pointer none, .pointer none, .pointer none, .pointer none, .pointer none, .pointer none, .pointer none, .pointer none, .pointer none, .pointer none, .pointer none, .pointer none] 177)).heap[W.heap.size + 1]? = some (.cells Z 177 (0, 0))) := hid (by rw [HW.out]; exact hTz)
  have lb : Bb < W.heap.size := lt_of_cell hBb
  clear key hT3 hb3 hy3 hTz hb2 hy2 hrange hi67 hi67' hC1 hZs hCs hps hlen hlv hJ hY h0 hp hg hB hW2
  go_enter Tryz.func110, Tryz.ntmps110
  go_wp2_with (first | (refine wpList_load_mid rfl 177 _ rfl g 1 rfl C.toList _ HH.out.1 Tryz.underlying177 rfl HH.out.2.1 ?_) | (refine wpList_store_row rfl 177 _ _ rfl (W.heap.size + 1) C rfl rfl 177 _ HT0.out HH.out.2.2.2.1 HH.out.2.2.2.2.1 HH.out.2.2.2.2.2 ?_; rw [HW.out]; have HA := HA.out))
  go_at_call 111
  refine K.out.mono ?_
  rintro r w3 ⟨⟨b, rfl⟩, h3⟩
  have h3 := hid h3
  go_wp2
  go_end0
  exact ⟨⟨_, rfl⟩, h3.out⟩

end Go.Proofs.YtafickhhdemjnaaGreatDoor

namespace Go.Proofs.YtafickhhdemjnaaGreatDoor
open Go.RowKit Go.Shelf Go.Sort
set_option linter.unusedVariables false

theorem grown_of_below {A B : World} (h : Below A.heap.size A B) (row : Option Nat) : A.grownBy B row := ⟨h.os, h.tape, h.output, h.size, fun k hk _ => h.block k hk⟩

/-- A range over a function whose rounds are told of the world in which they are handed what they are handed. -/
theorem range_good {P : Program} {α : Type} {g : Operand} {ps : Array Tmp} {assign body : Code} {Q : Exit → Act → World → Prop} {a : Act} {w : World} {n : Nat} (h1 : 1 ≤ n)
    {gf : Nat} {lb : Array Value} (hg : a.eval g = .func (.func gf) #[] lb) (eg : ∀ args w, (callFunc gf args).run P w = .ok (.enter gf args) w)
    {encs : α → Array Value} {Kp : World → World → Prop} {Fresh : List α → α → World → World → Prop} {S Sp : List α → Prop} {Nm : Nat}
    (hseq : ∀ (l : Nat) (J Jx : List α → World → Prop) (W : World), Below w.heap.size w W → (∀ s A B, J s A → Below A.heap.size A B → J s B) →
      (∀ pre x W0 W1, J pre W0 → Fresh pre x W0 W1 → pre.length < Nm → YieldAt Fence.wide (n - 1 - 1) P l (encs x) W1 fun e W' => (e = .returned (.bool true) ∧ J (pre ++ [x]) W' ∧ Kp W1 W') ∨ (e = .returned (.bool false) ∧ Jx (pre ++ [x]) W')) → J [] W →
      CallsIn Fence.wide (n - 1) P gf (#[.func (.yield l) #[] #[]] ++ lb) W fun e W' => (∃ v, e = .returned v) ∧ ((∃ ys, S ys ∧ J ys W') ∨ (∃ pre, Sp pre ∧ Jx pre W')))
    (hKt : ∀ {A B C : World}, Kp A B → Kp B C → Kp A C) (hKb : ∀ (W : World) (l : Nat) (o o' : Obj), W.heap[l]? = some o → o.isCells = false → Kp W (W.putObj l o')) (hps : ∀ x, (encs x).size = ps.size)
    (I : List α → World → Prop) (Ix : Code → List α → World → Prop) (I2 : List α → α → World → Prop) (hI : OwnFrom w.heap.size I) (hIx : ∀ c, OwnFrom w.heap.size (Ix c)) (hI2 : ∀ pre, OwnFrom w.heap.size (I2 pre)) (hfb : ∀ pre x W0 W1, Fresh pre x W0 W1 → Below W0.heap.size W0 W1) (hfr : ∀ pre x W0 W1, I pre W0 → Fresh pre x W0 W1 → I2 pre x W1) (h0 : I [] w)
    (Ax : α → Act → World → Prop) (hAx : ∀ a', OwnFrom w.heap.size (fun x W => Ax x a' W))
    (hassign : ∀ (l : Nat) (pre : List α) (x : α) (W : World) (K : Act → World → Prop), I2 pre x W → (∀ a' W', KeepsFrom w.heap.size W W' → Kp W W' → I2 pre x W' → Ax x a' W' → K a' W') →
      assign.wpIn (Fence.wide.inRound l) (n - 1 - 1) P (Exit.then K (fun _ _ _ => False)) { tmps := (ps.zip (encs x)).foldl (fun t (p, v) => t.setIfInBounds p v) a.tmps, defers := [] } W)
    (hbody : ∀ (l : Nat) (pre : List α) (x : α) (a' : Act) (W : World), w.heap.size ≤ l → (∃ r, W.heap[l]? = some (.loop r)) → I2 pre x W → Ax x a' W → pre.length < Nm → body.wpIn (Fence.wide.inRound l) (n - 1 - 1) P (ownPostG w.heap.size Kp I Ix (pre ++ [x]) W) a' W)
    (hdone : ∀ (D : Nat) (xs : List α) (W : World), w.heap.size ≤ D → S xs → I xs W → W.heap[D]? = some (.deferred (some [])) → Q .normal { a with defers := { target := .collected D, args := #[] } :: a.defers } W)
    (hstop : ∀ (D : Nat) (c : Code) (pre : List α) (W : World), w.heap.size ≤ D → Sp pre → Ix c pre W → W.heap[D]? = some (.deferred (some [])) → c.wpIn Fence.wide n P Q { a with defers := { target := .collected D, args := #[] } :: a.defers } W) :
    (Code.rangeFunc g ps assign body).wpIn Fence.wide n P Q a w := by
  refine wpIn_rangeFunc ?_
  intro fn hfn
  -- D: the block of the deferred calls; L: the loop's record
  obtain ⟨D, hD⟩ : ∃ D, D = w.heap.size := ⟨_, rfl⟩
  obtain ⟨R, hR⟩ : ∃ R : LoopState → Option Code → Loop, R = fun st pe => { state := st, pending := pe, fn, tmps := a.tmps, params := ps, assign, body, defers := D } := ⟨_, rfl⟩
  obtain ⟨W1, hW1⟩ : ∃ W1, W1 = (w.alloc (.deferred (some []))).alloc (.loop (R .ready none)) := ⟨_, rfl⟩
  have bL : W1.heap[D + 1]? = some (.loop (R .ready none)) := by
    have := heap_alloc_new (w.alloc (.deferred (some []))) (.loop (R .ready none))
    rw [hW1, hD]; simpa using this
  have bD : W1.heap[D]? = some (.deferred (some [])) := by
    rw [hW1, hD]; exact (Below.heap_alloc _ _ _ (by simp)).trans (heap_alloc_new w _)
  have bW : Below w.heap.size w W1 := by rw [hW1]; exact ((Below.refl _ w).alloc (Nat.le_refl _) _).alloc (by simp) _
  -- what stands between two rounds, and behind the last one
  let Jn : List α → World → Prop := fun pre W => I pre W ∧ W.heap[D + 1]? = some (.loop (R .ready none)) ∧ W.heap[D]? = some (.deferred (some []))
  let Jx : List α → World → Prop := fun pre W => ∃ c, Ix c pre W ∧ W.heap[D + 1]? = some (.loop (R .done (some c))) ∧ W.heap[D]? = some (.deferred (some []))
  have kept : ∀ {A B : World} {k : Nat} {o : Obj}, Below A.heap.size A B → A.heap[k]? = some o → B.heap[k]? = some o := fun h hk => (h.block _ (Array.getElem?_eq_some_iff.1 hk).1).trans hk
  refine ⟨D + 1, [{ target := .collected D, args := #[] }], W1, { target := .fn (.func gf) lb, args := #[.func (.yield (D + 1)) #[] #[]] }, W1, gf, #[.func (.yield (D + 1)) #[] #[]] ++ lb, W1, ?_, ?_, fun f' _ => trivial, ?_, fun _ => h1, ?_⟩
  · rw [hW1, hR, hD]; exact run_enterLoop_outer _ _ _ _ _
  · simp only [resolve, hg]
    simp [go_sem]
  · simp [invoke, go_sem, eg]
  refine (hseq (D + 1) Jn Jx W1 bW (fun s A B h hb => ⟨hI s A B none h.1 (grown_of_below hb none) (fun r e => by cases e), kept hb h.2.1, kept hb h.2.2⟩) ?round ⟨hI [] w W1 none h0 (grown_of_below bW none) (fun r e => by cases e), bL, bD⟩).mono ?behind
  case behind =>
    rintro e W2 ⟨⟨v, rfl⟩, (⟨xs, hS, hi, hl, hk⟩ | ⟨pre, hSp, c, hi, hl, hk⟩)⟩
    · refine ⟨none, _, by have := run_endLoop (P := P) hl (by rw [hR]; simp); rw [hR] at this; exact this, hdone D xs _ (by omega) hS (hI.putObj _ hi (by omega) hl rfl) ((World.putObj_heap_other (by omega)).trans hk)⟩
    · refine ⟨some c, _, by have := run_endLoop (P := P) hl (by rw [hR]; simp); rw [hR] at this; exact this, hstop D c pre _ (by omega) hSp ((hIx c).putObj _ hi (by omega) hl rfl) ((World.putObj_heap_other (by omega)).trans hk)⟩
  case round =>
    rintro pre x W0 W ⟨hi0, hl, hk⟩ hfx hlen
    have hbx := hfb _ _ _ _ hfx
    have hi := hfr _ _ _ _ hi0 hfx
    have hl := kept hbx hl
    have hk := kept hbx hk
    have hy := run_yield (P := P) (args := encs x) hl (by rw [hR]; exact hps x)
    rw [hR] at hy
    refine ⟨fn, _, assign, body, hy, roundIn_of_wpIn hfn (hassign _ pre x W _ hi ?_)⟩
    clear hy
    intro a' Wa hka hkp hia hax
    have hl' := hka.same _ _ (by omega) hl rfl
    have hk' := hka.same _ _ (by omega) hk rfl
    have hlt : D + 1 < Wa.heap.size := (Array.getElem?_eq_some_iff.1 hl').1
    refine ⟨_, run_beginRound hl' (by rw [hR]), ?_⟩
    obtain ⟨Wb, hWb⟩ : ∃ Wb, Wb = Wa.putObj (D + 1) (.loop { R .ready none with state := .busy }) := ⟨_, rfl⟩
    have lb : Wb.heap[D + 1]? = some (.loop { R .ready none with state := .busy }) := by rw [hWb]; exact World.putObj_heap_same hlt
    have kb : Wb.heap[D]? = some (.deferred (some [])) := by rw [hWb]; exact (World.putObj_heap_other (by omega)).trans hk'
    have pb : Kp Wa Wb := by rw [hWb]; exact hKb _ _ _ _ hl' rfl
    have go := hbody (D + 1) pre x a' Wb (by omega) ⟨_, lb⟩ (by rw [hWb]; exact (hI2 pre).putObj (s := x) _ hia (by omega) hl' rfl) (by rw [hWb]; exact (hAx a').putObj (s := x) _ hax (by omega) hl' rfl) hlen
    rw [← hWb]
    refine wpIn_mono go ?_
    have fin : ∀ (jump : Option Code) (W3 : World), KeepsFrom w.heap.size Wb W3 →
        (Instr.endRound (D + 1) jump).run P W3 = .ok (.bool jump.isNone) (W3.putObj (D + 1) (.loop (R (if jump.isNone then .ready else .done) jump))) ∧ W3.heap[D + 1]? = some (.loop { R .ready none with state := .busy }) ∧
        (W3.putObj (D + 1) (.loop (R (if jump.isNone then .ready else .done) jump))).heap[D + 1]? = some (.loop (R (if jump.isNone then .ready else .done) jump)) ∧ (W3.putObj (D + 1) (.loop (R (if jump.isNone then .ready else .done) jump))).heap[D]? = some (.deferred (some [])) := fun jump W3 h3 => by
      have l3 := h3.same _ _ (by omega) lb rfl
      have r3 := run_endRound (P := P) jump l3
      rw [hR] at r3 ⊢
      exact ⟨r3, by rw [hR] at l3; exact l3, World.putObj_heap_same (Array.getElem?_eq_some_iff.1 l3).1, (World.putObj_heap_other (by omega)).trans (h3.same _ _ (by omega) kb rfl)⟩
    rintro e a3 W3 hp
    cases e with
    | normal =>
      obtain ⟨k3, p3, i3⟩ := hp
      obtain ⟨hr, l3, l4, d4⟩ := fin none W3 k3
      exact ⟨_, _, hr, .inl ⟨rfl, ⟨hI.putObj _ i3 (by omega) l3 rfl, l4, d4⟩, hKt hkp (hKt (hKt pb p3) (hKb _ _ _ _ l3 rfl))⟩⟩
    | ret => exact (fun ⟨k3, i3⟩ => (fun ⟨hr, l3, l4, d4⟩ => ⟨_, _, hr, .inr ⟨rfl, .ret, (hIx _).putObj _ i3 (by omega) l3 rfl, l4, d4⟩⟩) (fin (some .ret) W3 k3)) hp
    | exit id => exact (fun ⟨k3, i3⟩ => (fun ⟨hr, l3, l4, d4⟩ => ⟨_, _, hr, .inr ⟨rfl, .exit id, (hIx _).putObj _ i3 (by omega) l3 rfl, l4, d4⟩⟩) (fin (some (.exit id)) W3 k3)) hp
    | goto t => exact (fun ⟨k3, i3⟩ => (fun ⟨hr, l3, l4, d4⟩ => ⟨_, _, hr, .inr ⟨rfl, .goto t, (hIx _).putObj _ i3 (by omega) l3 rfl, l4, d4⟩⟩) (fin (some (.goto t)) W3 k3)) hp
    | panic ch => exact hp.elim
    | outgrown => exact hp.elim

end Go.Proofs.YtafickhhdemjnaaGreatDoor

namespace Go.Proofs.YtafickhhdemjnaaGreatDoor
open Go.RowKit Go.Shelf Go.Sort
attribute [local go_sem] Oper.semAt_some
set_option linter.unusedVariables false

theorem owns_keep {w w' : World} {base : Nat} {e : TypeId} {size : Nat} {v : Value} {n : Nat} {xs : List Value} (h : w.ownsRow base e size v n xs) (hb : ∀ k ∈ v.ownBlock.toList, w'.heap[k]? = w.heap[k]?) : w'.ownsRow base e size v n xs := by
  refine ⟨h.1, ?_⟩
  rcases h.2 with hn | ⟨g, cap, cur, rfl, hg, hgg, rest⟩
  · exact Or.inl hn
  · exact Or.inr ⟨g, cap, cur, rfl, hg, by rw [hb g (by simp [Value.ownBlock])]; exact hgg, rest⟩

/-- A row of one's own, of elements of some size. -/
def rowC (e : TypeId) (size : Nat) (v : Value) (n : Nat) (vs : List Value) : Comp := ⟨fun w => w.ownsRow 0 e size v n vs, v.ownBlock.toList⟩
theorem rowC_good (e : TypeId) (size : Nat) (v : Value) (n : Nat) (vs : List Value) : (rowC e size v n vs).Good := fun w w' h hs hb => owns_keep h hb
theorem All.addRow0 {e : TypeId} {size : Nat} {cs : List Comp} {w : World} (h : All cs w) : All (rowC e size (.slice none 0 0) 0 [] :: cs) w :=
  ⟨⟨rowC_good _ _ _ _ _, ⟨by simp, Or.inl ⟨rfl, rfl⟩⟩, fun k hk => by simp [rowC, Value.ownBlock] at hk⟩, fun d hd k hk => by simp [rowC, Value.ownBlock] at hk, h⟩
theorem All.rowGrow {e : TypeId} {size n n' : Nat} {v v' : Value} {vs vs' : List Value} {cs : List Comp} {w w1 : World} {base : Nat} (h : All (rowC e size v n vs :: cs) w) (hown : w1.ownsRow base e size v' n' vs') (hg : w.grownBy w1 v.ownBlock) (hat : v'.ownBlock = v.ownBlock ∨ v'.ownBlock = some w.heap.size) : All (rowC e size v' n' vs' :: cs) w1 := by
  have ho' := owns_zero hown
  refine h.turn ((grown_fr hg).mono (fun k hk => by simpa [rowC] using hk)) (rowC_good _ _ _ _ _) ho' (fun k hk => ?_) (fun k hk => ?_)
  · have hk' : v'.ownBlock = some k := by simpa [rowC] using hk
    rcases hat with e1 | e1
    · exact Or.inl (by simp [rowC, ← e1, hk'])
    · rw [e1] at hk'; simp at hk'; exact Or.inr (by omega)
  · have hk' : v'.ownBlock = some k := by simpa [rowC] using hk
    exact (ho'.lt k hk').2

/-- A turn of a loop's record, or of the like: the parts stand. -/
theorem All.record {cs : List Comp} {W W' : World} {row : Option Nat} {B : Nat} (h : All cs W) (hg : W.grownBy W' row) (hr : ∀ r, row = some r → B ≤ r ∧ ∃ o : Obj, W.heap[r]? = some o ∧ o.isCells = false) (hc : ∀ d ∈ cs, (∀ k ∈ d.fp, k < B) ∨ (∀ k ∈ d.fp, ∃ o : Obj, W.heap[k]? = some o ∧ o.isCells = true)) : All cs W' := by
  refine h.kept (grown_fr hg) (fun d hd k hk hkd => ?_)
  obtain ⟨hB, o, ho, hoc⟩ := hr k (by simpa using hk)
  rcases hc d hd with h1 | h1
  · have := h1 k hkd; omega
  · obtain ⟨o', ho', hoc'⟩ := h1 k hkd
    rw [ho] at ho'; cases ho'; rw [hoc] at hoc'; cases hoc'
theorem rowC_cells {e : TypeId} {size : Nat} {v : Value} {n : Nat} {vs : List Value} {W : World} (h : (rowC e size v n vs).holds W) : ∀ k ∈ (rowC e size v n vs).fp, ∃ o : Obj, W.heap[k]? = some o ∧ o.isCells = true := by
  intro k hk
  have h' : W.ownsRow 0 e size v n vs := h
  rcases h'.2 with ⟨rfl, _⟩ | ⟨g, cap, cur, rfl, hg, hgg, rest⟩
  · simp [rowC, Value.ownBlock] at hk
  · simp [rowC, Value.ownBlock] at hk
    subst hk
    exact ⟨_, hgg, rfl⟩

set_option maxHeartbeats 1000000 in
theorem Since_any {w : World} {g a : Nat} {at_ : Int} (ha : Hid (a = at_.toNat)) : Calls Tryz.prog 79 #[.pointer (some ⟨g, 0, none⟩), .int .i64 at_] w fun e w' => e = .returned (.func (.func 110) #[] #[.pointer (some ⟨w.heap.size, 0, none⟩), .pointer (some ⟨w.heap.size + 1, 0, none⟩)]) ∧ w' = (w.alloc (.cells #[.pointer (some ⟨g, 0, none⟩)] 82)).alloc (.cells #[.int .i64 (a : Int)] 3) := by
  by_cases hc : at_ < 0
  · have e0 : (a : Int) = 0 := by rw [ha.out]; omega
    rw [e0]
    clear e0
    go_enter Tryz.func79, Tryz.ntmps79
    go_wp2
    go_ret
    exact ⟨rfl, rfl⟩
  · have e0 : (a : Int) = at_ := by rw [ha.out]; omega
    rw [e0]
    clear e0
    go_enter Tryz.func79, Tryz.ntmps79
    go_wp2
    go_ret
    exact ⟨rfl, rfl⟩

theorem keeps_grown {B : Nat} {W W' : World} {row : Option Nat} (hg : W.grownBy W' row) (hr : ∀ r, row = some r → ∃ o : Obj, W.heap[r]? = some o ∧ o.isCells = true) : KeepsFrom B W W' :=
  ⟨hg.size, fun k o _ hk ho => (hg.block k (Array.getElem?_eq_some_iff.1 hk).1 (fun e => by
    obtain ⟨o', h1, h2⟩ := hr k e.symm
    rw [hk] at h1; cases h1; rw [ho] at h2; cases h2)).trans hk⟩
theorem KeepsFrom.then {B : Nat} {W W1 W2 : World} (h : KeepsFrom B W W1) (k : KeepsFrom B W1 W2) : KeepsFrom B W W2 :=
  ⟨Nat.le_trans h.size k.size, fun i o hB hi ho => k.same i o hB (h.same i o hB hi ho) ho⟩
theorem KeepT.then {Ba : Nat} {W W1 W2 : World} (h : KeepT Ba W W1) (k : KeepT Ba W1 W2) : KeepT Ba W W2 :=
  ⟨Nat.le_trans h.size k.size, fun i cs t fr hi ht => k.ty i cs t fr (h.ty i cs t fr hi ht) ht, fun v hv => k.ab v (h.ab v hv)⟩
theorem KeepT.turn {Ba : Nat} {W W' : World} {row : Option Nat} (hg : W.grownBy W' row) (hr : ∀ r, row = some r → r ≠ Ba ∧ ∀ cs t fr, W.heap[r]? = some (Obj.cells cs t fr) → ¬ (t = 177 ∨ t = 181 ∨ t = 222 ∨ t = 5)) : KeepT Ba W W' :=
  ⟨hg.size, fun k cs t fr hk ht => (hg.block k (Array.getElem?_eq_some_iff.1 hk).1 (fun e => (hr k e.symm).2 cs t fr hk ht)).trans hk, fun v hv => by
    rw [World.cell?_of_block (hg.block Ba (lt_of_cell hv) (fun e => (hr Ba e.symm).1 rfl))]; exact hv⟩
theorem KeepT.put {Ba : Nat} (W : World) (l : Nat) (o o' : Obj) (hl : W.heap[l]? = some o) (ho : o.isCells = false) : KeepT Ba W (W.putObj l o') := by
  have hg := grownBy_putObj' W l o'
  refine ⟨hg.size, fun k cs t fr hk ht => (hg.block k (Array.getElem?_eq_some_iff.1 hk).1 (fun e => ?_)).trans hk, fun v hv => ?_⟩
  · cases e; rw [hl] at hk; cases hk; cases ho
  · have hne : some Ba ≠ some l := by
      intro e
      cases e
      unfold World.cell? at hv
      rw [hl] at hv
      cases o <;> simp_all [Obj.isCells]
    rw [World.cell?_of_block (hg.block Ba (lt_of_cell hv) hne)]
    exact hv

/-- A sheet's cells, and its bytes. -/
def Xs.cells (x : Xs) : List Value := [.int .i64 (x.num : Int), .int .i64 (x.at_ : Int), .slice x.ao x.len x.cap]
def flatX (l : List Xs) : List Value := l.flatMap Xs.cells
def datC (x : Xs) : Comp := rowC 5 1 x.v x.bs.length (cellsB x.bs)
theorem flatX_append (a b : List Xs) : flatX (a ++ b) = flatX a ++ flatX b := by simp [flatX]

theorem Tryz.info78 : (Tryz.prog.info? 78).map (fun i => (i.zero, i.size, i.bytes)) = some (some (.agg #[.int .i64 0, .int .i64 0, .slice none 0 0]), 3, 40) := by kernel_rfl

/-- The parts of 'given' between two rounds. -/
abbrev partsG (L0 L1 Bb Ba g a : Nat) (lim : Int) (base : List Comp) (v : Value) (dats : List Comp) (pre : List Xs) : List Comp :=
  blkC L1 [v] 37 :: rowC 78 3 v pre.length (flatX pre) :: (dats ++ blkC Ba [.int .i64 (a : Int)] 3 :: blkC Bb [.pointer (some ⟨g, 0, none⟩)] 82 :: blkC L0 [.int .i64 lim] 3 :: base)

theorem partsG_cells {L0 L1 Bb Ba g a : Nat} {lim : Int} {base : List Comp} {v : Value} {dats : List Comp} {pre : List Xs} {W : World} {B : Nat} (h : All (partsG L0 L1 Bb Ba g a lim base v dats pre) W) (hd : ∀ d ∈ dats, ∃ x, d = datC x) (hb : ∀ d ∈ base, ∀ k ∈ d.fp, k < B) (h0 : L0 < B) (h1 : L1 < B) (h2 : Bb < B) (h3 : Ba < B) :
    ∀ d ∈ partsG L0 L1 Bb Ba g a lim base v dats pre, (∀ k ∈ d.fp, k < B) ∨ (∀ k ∈ d.fp, ∃ o : Obj, W.heap[k]? = some o ∧ o.isCells = true) := by
  intro d hm
  have hh := (h.mem hm).2.1
  simp only [partsG, List.mem_cons, List.mem_append] at hm
  rcases hm with rfl | rfl | hm | rfl | rfl | rfl | hm
  · exact Or.inl (fun k hk => by simp [blkC] at hk; omega)
  · exact Or.inr (rowC_cells hh)
  · obtain ⟨x, rfl⟩ := hd d hm
    exact Or.inr (rowC_cells hh)
  · exact Or.inl (fun k hk => by simp [blkC] at hk; omega)
  · exact Or.inl (fun k hk => by simp [blkC] at hk; omega)
  · exact Or.inl (fun k hk => by simp [blkC] at hk; omega)
  · exact Or.inl (hb d hm)

/-- Between two rounds. -/
def IG (L0 L1 Bb Ba g a : Nat) (lim : Int) (base : List Comp) (pre : List Xs) (W : World) : Prop :=
  ∃ v, All (partsG L0 L1 Bb Ba g a lim base v (pre.map datC) pre) W
/-- One more sheet was handed out. -/
def IG2 (L0 L1 Bb Ba g a : Nat) (lim : Int) (base : List Comp) (pre : List Xs) (x : Xs) (W : World) : Prop :=
  ∃ v, All (partsG L0 L1 Bb Ba g a lim base v (datC x :: pre.map datC) pre) W

theorem dats_of (pre : List Xs) : ∀ d ∈ pre.map datC, ∃ x, d = datC x := fun d hd => by
  obtain ⟨x, _, rfl⟩ := List.mem_map.1 hd
  exact ⟨x, rfl⟩

theorem IG_own {L0 L1 Bb Ba g a B : Nat} {lim : Int} {base : List Comp} (hb : ∀ d ∈ base, ∀ k ∈ d.fp, k < B) (h0 : L0 < B) (h1 : L1 < B) (h2 : Bb < B) (h3 : Ba < B) : OwnFrom B (IG L0 L1 Bb Ba g a lim base) := by
  rintro pre A C row ⟨v, hA⟩ hg hr
  exact ⟨v, hA.record hg hr (partsG_cells hA (dats_of pre) hb h0 h1 h2 h3)⟩
theorem IG2_own {L0 L1 Bb Ba g a B : Nat} {lim : Int} {base : List Comp} (pre : List Xs) (hb : ∀ d ∈ base, ∀ k ∈ d.fp, k < B) (h0 : L0 < B) (h1 : L1 < B) (h2 : Bb < B) (h3 : Ba < B) : OwnFrom B (IG2 L0 L1 Bb Ba g a lim base pre) := by
  rintro x A C row ⟨v, hA⟩ hg hr
  refine ⟨v, hA.record hg hr (partsG_cells hA (fun d hd => ?_) hb h0 h1 h2 h3)⟩
  rcases List.mem_cons.1 hd with rfl | hd
  · exact ⟨x, rfl⟩
  · exact dats_of pre d hd

theorem IG_fresh {L0 L1 Bb Ba g a : Nat} {lim : Int} {base : List Comp} {pre : List Xs} {x : Xs} {W0 W1 : World} (h : IG L0 L1 Bb Ba g a lim base pre W0) (hf : x.Fresh W0 W1) : IG2 L0 L1 Bb Ba g a lim base pre x W1 := by
  obtain ⟨v, hA⟩ := h
  refine ⟨v, ?_⟩
  have h2 : All (datC x :: partsG L0 L1 Bb Ba g a lim base v (pre.map datC) pre) W1 := by
    refine hA.add (Fr.below hf.1) (rowC_good _ _ _ _ _) (owns_zero hf.2) (fun k hk => ?_)
    have hk' : x.v.ownBlock = some k := by simpa [datC, rowC] using hk
    exact World.ownsRow.lt hf.2 k hk'
  refine h2.perm ?_
  exact (List.Perm.swap _ _ _).trans (.cons _ (List.Perm.swap _ _ _))

end Go.Proofs.YtafickhhdemjnaaGreatDoor
