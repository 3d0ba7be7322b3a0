import Derived.Test.YtkcepkehgkkkbaaGreatDoorJ16
namespace Go.Proofs.YtkcepkehgkkkbaaGreatDoor
open Go.RowKit
set_option linter.unusedVariables false

/-- The document's reader, with what it has left. -/
def XRd (w : World) (b : Nat) (v : Value) (B rs : List UInt8) (place : Nat) (err : Int) : Prop := XR w b v B place err ∧ rsX B place err = rs

/-- Behind an item. -/
def XAft (w w' : World) (b : Nat) (v : Value) (B rs : List UInt8) (place : Nat) (err : Int) (r : Nat × Int) : Prop :=
  XRd w' b v B (aft rs place err r.1 r.2).1 (aft rs place err r.1 r.2).2.1 (aft rs place err r.1 r.2).2.2 ∧ Only b w w'

section
variable {w w' : World} {b : Nat} {v : Value} {B rs : List UInt8} {place : Nat} {err : Int}

theorem XR.lt (h : XR w b v B place err) : b < w.heap.size := (Array.getElem?_eq_some_iff.1 h.box).1

theorem XR.kept (h : XR w b v B place err) (hb : w'.heap[b]? = w.heap[b]?) (hr : ∀ k, v.ownBlock = some k → w'.heap[k]? = w.heap[k]?) : XR w' b v B place err := by
  refine ⟨by rw [hb]; exact h.box, ⟨h.row.1, ?_⟩, h.apart, h.le⟩
  rcases h.row.2 with hn | ⟨g, cap, cur, rfl, hg, hgg, rest⟩
  · exact Or.inl hn
  · exact Or.inr ⟨g, cap, cur, rfl, hg, by rw [hr g rfl]; exact hgg, rest⟩

theorem XR.drewN (h : XR w b v B place err) (q : Nat) : XR (w.drewN q) b v B place err := h.kept rfl (fun _ _ => rfl)

theorem XR.set (h : XR w b v B place err) (j : Nat) (u : Value) (place' : Nat) (err' : Int) (hu : #[v, .int .i64 (place : Int), .int .i64 err].setIfInBounds j u = #[v, .int .i64 (place' : Int), .int .i64 err']) (hp : place' ≤ B.length) : XR (w.setCell ⟨b, j, none⟩ u) b v B place' err' := by
  refine ⟨?_, ⟨h.row.1, ?_⟩, h.apart, hp⟩
  · rw [heap_setCell_same h.box, hu]
  · rcases h.row.2 with hn | ⟨g, cap, cur, rfl, hg, hgg, rest⟩
    · exact Or.inl hn
    · refine Or.inr ⟨g, cap, cur, rfl, hg, ?_, rest⟩
      rw [Below.heap_setCell _ _ _ _ (by intro e; exact h.apart (by simp [Value.ownBlock, e]))]
      exact hgg

/-- A good end. -/
theorem XR.went (h : XR w b v B place 0) (size : Nat) (q : Nat) (hs : size ≤ (B.drop place).length) (p : Int) (hp : p = (place : Int) + (size : Int)) : XAft w ((w.drewN q).setCell ⟨b, 1, none⟩ (.int .i64 p)) b v B (B.drop place) place 0 (size, 0) := by
  rw [List.length_drop] at hs
  have hl := h.le
  refine ⟨⟨(h.drewN q).set 1 _ _ _ ?_ ?_, ?_⟩, (Only.drewN b w q).trans (Only.setCell _ _ _)⟩
  · subst hp
    simp [aft]
  · simp [aft]; omega
  · simp [aft, rsX]

/-- A bad one. -/
theorem XR.bad (h : XR w b v B place 0) (size : Nat) (q : Nat) (e0 : Int) (he : e0 ≠ 0) : XAft w ((w.drewN q).setCell ⟨b, 2, none⟩ (.int .i64 e0)) b v B (B.drop place) place 0 (size, e0) := by
  refine ⟨⟨(h.drewN q).set 2 _ _ _ ?_ ?_, ?_⟩, (Only.drewN b w q).trans (Only.setCell _ _ _)⟩
  · simp [aft, he, keepE]
  · simpa [aft, he] using h.le
  · simp [aft, he, rsX, keepE]

/-- Broken before. -/
theorem XRd.dead (h : XRd w b v B rs place err) (he : err ≠ 0) (size : Nat) (q : Nat) (e0 : Int) (he0 : e0 ≠ 0) : XAft w (w.drewN q) b v B rs place err (size, e0) := by
  refine ⟨⟨?_, ?_⟩, Only.drewN b w q⟩
  · simpa [aft, he, he0, keepE] using h.1.drewN q
  · simp [aft, he, he0, rsX, keepE]

theorem XRd.nil (h : XRd w b v B rs place err) (he : err ≠ 0) : rs = [] := by rw [← h.2]; simp [rsX, he]
theorem XRd.drop (h : XRd w b v B rs place 0) : rs = B.drop place := by rw [← h.2]; simp [rsX]
end

theorem XAft.eta {w w' : World} {b : Nat} {v : Value} {B rs : List UInt8} {place : Nat} {err : Int} {r s : Nat × Int} (h : XAft w w' b v B rs place err r) (e : r = s) : XAft w w' b v B rs place err s := by subst e; exact h

set_option maxHeartbeats 1600000 in
set_option maxRecDepth 1000000 in
theorem xNum_any {w : World} {b : Nat} {v : Value} {B rs : List UInt8} {place : Nat} {err : Int} (h : XRd w b v B rs place err) (hlen : B.length ≤ 140737488355328) (most : Int) :
    Calls Tryz.prog 11 #[.pointer (some ⟨b, 0, none⟩), .int .i64 most] w fun e w' => e = .returned (.int .i64 (numR rs most 13).1) ∧ XAft w w' b v B rs place err (numR rs most 13).2 := by
  have c1 : w.cell? ⟨b, 1, none⟩ = some (.int .i64 (place : Int)) := by rw [cell_at h.1.box]; rfl
  have c2 : w.cell? ⟨b, 2, none⟩ = some (.int .i64 err) := by rw [cell_at h.1.box]; rfl
  have f1 := free_at h.1.box 1
  have f2 := free_at h.1.box 2
  by_cases he : err = 0
  · subst he
    have hd := h.drop
    subst hd
    have HX := hid h.1
    have hle := h.1.le
    have LB := look_bound 9 127 (by omega) (by omega) (by omega) (B.drop place) 0 0 (by omega) (by simp)
    have e0 := numR_eq (B.drop place) most 13
    have HG := hid (xlook_any h.1 9 127 8 127 (by omega) rfl (by omega) (by omega) (by omega) (by omega) hlen)
    clear h
    generalize look 9 127 0 (B.drop place) 0 = lk at LB e0 HG
    obtain ⟨n, sz, er⟩ := lk
    simp only at LB e0 HG
    obtain ⟨_, hn, hsz, hz, her, _⟩ := LB
    have hn' := hn (by omega)
    have hsz' : sz ≤ (B.drop place).length := by omega
    have hsz2 : sz ≤ B.length - place := by rw [List.length_drop] at hsz'; exact hsz'
    clear hn hsz
    have HE := hid e0
    have HZ := hid hz
    clear e0 hz
    go_enter Tryz.func11, Tryz.ntmps11
    go_wp2_with fail
    refine Calls.mono HG.out ?_
    rintro e w1 ⟨rfl, q, rfl⟩
    by_cases hz : er = 0
    · subst hz
      by_cases hm : most < (n : Int)
      · have F : Hid (numR (B.drop place) most 13 = (0, sz, 13)) := by rw [HE.out]; simp [hm, Hid]
        go_wp2
        go_ret
        rw [F.out]
        exact ⟨rfl, HX.out.bad sz q 13 (by omega)⟩
      · have F : Hid (numR (B.drop place) most 13 = ((n : Int), sz, 0)) := by rw [HE.out]; simp [hm, Hid]
        go_wp2
        go_ret
        rw [F.out]
        exact ⟨rfl, HX.out.went sz q hsz' _ rfl⟩
    · have F : Hid (numR (B.drop place) most 13 = (0, sz, (er : Int))) := by rw [HE.out]; simp [hz, Hid]
      have hb : ((er : Int) == 0) = false := by simp; omega
      have hb' : ((er : Int) != 0) = true := by simp; omega
      have hz' : (er : Int) ≠ 0 := by omega
      have HZ' := hid hz'
      clear hz hz'
      go_wp2
      go_ret
      rw [F.out]
      exact ⟨rfl, HX.out.bad sz q er HZ'.out⟩
  · have hb : (err != 0) = true := by simpa using he
    have hn := h.nil he
    subst hn
    have F : Hid (numR [] most 13 = (0, 0, 10)) := by simp [numR, look, Hid]
    have R := hid (h.dead he 0 0 10 (by omega))
    clear h he
    go_enter Tryz.func11, Tryz.ntmps11
    go_wp2
    go_ret
    rw [F.out]
    exact ⟨rfl, R.out⟩

end Go.Proofs.YtkcepkehgkkkbaaGreatDoor

namespace Go.Proofs.YtkcepkehgkkkbaaGreatDoor
open Go.RowKit
set_option linter.unusedVariables false

theorem XRd.kept {w w' : World} {b : Nat} {v : Value} {B rs : List UInt8} {place : Nat} {err : Int} (h : XRd w b v B rs place err) (hb : w'.heap[b]? = w.heap[b]?) (hr : ∀ k, v.ownBlock = some k → w'.heap[k]? = w.heap[k]?) : XRd w' b v B rs place err := ⟨h.1.kept hb hr, h.2⟩

theorem XR.own_lt {w : World} {b : Nat} {v : Value} {B : List UInt8} {place : Nat} {err : Int} (h : XR w b v B place err) : ∀ k, v.ownBlock = some k → k < w.heap.size := fun k hk => (World.ownsRow.lt h.row k hk).2

theorem XRd.below {w w' : World} {b : Nat} {v : Value} {B rs : List UInt8} {place : Nat} {err : Int} (h : XRd w b v B rs place err) (hb : Below w.heap.size w w') : XRd w' b v B rs place err :=
  h.kept (hb.block b h.1.lt) (fun k hk => hb.block k (h.1.own_lt k hk))

theorem XAft.drew {w w' : World} {b : Nat} {v : Value} {B rs : List UInt8} {place : Nat} {err : Int} {r : Nat × Int} (h : XAft w w' b v B rs place err r) : XAft w w'.drew b v B rs place err r := ⟨h.1.kept rfl (fun _ _ => rfl), h.2.trans (Only.drew b w')⟩
theorem XAft.below {w w' w2 : World} {b : Nat} {v : Value} {B rs : List UInt8} {place : Nat} {err : Int} {r : Nat × Int} (h : XAft w w' b v B rs place err r) (hb : Below w'.heap.size w' w2) : XAft w w2 b v B rs place err r := ⟨h.1.below hb, h.2.trans (Only.below hb)⟩

theorem drop_cons {B : List UInt8} {place : Nat} (h : place < B.length) : B.drop place = (B.drop place).getD 0 0 :: B.drop (place + 1) := by
  have e : (B.drop place).getD 0 0 = B[place] := by
    rw [List.getD_eq_getElem?_getD, List.getElem?_drop, Nat.add_zero, List.getElem?_eq_getElem h]
    rfl
  rw [e]
  exact List.drop_eq_getElem_cons h

set_option maxHeartbeats 800000 in
set_option maxRecDepth 1000000 in
theorem xErr_any {w : World} {b : Nat} {v : Value} {B rs : List UInt8} {place : Nat} {err : Int} (h : XRd w b v B rs place err) :
    Calls Tryz.prog 20 #[.pointer (some ⟨b, 0, none⟩)] w fun e w' => e = .returned (.tuple #[.int .i64 err, .int .i64 (place : Int)]) ∧ ∃ q, w' = w.drewN q := by
  have c1 : w.cell? ⟨b, 1, none⟩ = some (.int .i64 (place : Int)) := by rw [cell_at h.1.box]; rfl
  have c2 : w.cell? ⟨b, 2, none⟩ = some (.int .i64 err) := by rw [cell_at h.1.box]; rfl
  clear h
  go_enter Tryz.func20, Tryz.ntmps20
  go_wp2
  go_region
  all_goals go_wp2
  all_goals go_ret2
  all_goals exact ⟨rfl, 1, rfl⟩

/-- What Fail leaves. -/
def failR (rs : List UInt8) (err e0 : Int) : List UInt8 × Int := if err = 0 then (if e0 = 0 then (rs, 0) else ([], e0)) else (rs, err)

set_option maxHeartbeats 1600000 in
set_option maxRecDepth 1000000 in
theorem xClose_any {w : World} {b : Nat} {v : Value} {B rs : List UInt8} {place : Nat} {err : Int} (h : XRd w b v B rs place err) (hlen : B.length ≤ 140737488355328) :
    Calls Tryz.prog 23 #[.pointer (some ⟨b, 0, none⟩)] w fun e w' => e = .returned (.int .i64 (if rs = [] then err else keepE err 15)) ∧ XRd w' b v B [] place (if rs = [] then err else keepE err 15) ∧ Only b w w' := by
  obtain ⟨ao, c, hf⟩ := h.1.form
  subst hf
  have c0 : w.cell? ⟨b, 0, none⟩ = some (.slice ao B.length c) := by rw [cell_at h.1.box]; rfl
  have c1 : w.cell? ⟨b, 1, none⟩ = some (.int .i64 (place : Int)) := by rw [cell_at h.1.box]; rfl
  have c2 : w.cell? ⟨b, 2, none⟩ = some (.int .i64 err) := by rw [cell_at h.1.box]; rfl
  have f2 := free_at h.1.box 2
  by_cases he : err = 0
  · subst he
    have hd := h.drop
    subst hd
    by_cases hlt : place < B.length
    · have hne : B.drop place ≠ [] := by rw [Ne, List.drop_eq_nil_iff]; omega
      have R : ∀ q, Hid (XRd ((w.drewN q).setCell ⟨b, 2, none⟩ (.int .i64 15)) b (.slice ao B.length c) B [] place 15) := fun q => ⟨(h.1.drewN q).set 2 _ _ _ (by simp) h.1.le, by simp [rsX]⟩
      rw [if_neg hne]
      have hg1 : (place : Int) < (B.length : Int) := by omega
      clear h hne
      go_enter Tryz.func23, Tryz.ntmps23
      go_wp2_with fail
      go_quiet (fail)
      go_wp2
      go_ret
      exact ⟨rfl, (R _).out, (Only.drewN b w _).trans (Only.setCell _ _ _)⟩
    · have hne : B.drop place = [] := by rw [List.drop_eq_nil_iff]; omega
      have R : ∀ q, Hid (XRd (w.drewN q) b (.slice ao B.length c) B [] place 0) := fun q => ⟨h.1.drewN q, by simpa [rsX] using hne⟩
      rw [if_pos hne]
      have hg1 : decide ((place : Int) < (B.length : Int)) = false := by simp; omega
      have hg2 : decide (place < B.length) = false := by simp; omega
      clear h hne
      go_enter Tryz.func23, Tryz.ntmps23
      go_wp2_with fail
      go_quiet (fail)
      go_wp2
      go_ret
      exact ⟨rfl, (R _).out, Only.drewN b w _⟩
  · have hn := h.nil he
    subst hn
    rw [if_pos rfl]
    have hb : (err == 0) = false := by simpa using he
    have R : ∀ q, Hid (XRd (w.drewN q) b (.slice ao B.length c) B [] place err) := fun q => ⟨h.1.drewN q, h.2⟩
    clear h he
    go_enter Tryz.func23, Tryz.ntmps23
    go_wp2_with fail
    go_quiet (fail)
    go_wp2
    go_ret
    exact ⟨rfl, (R _).out, Only.drewN b w _⟩

end Go.Proofs.YtkcepkehgkkkbaaGreatDoor

namespace Go.Proofs.YtkcepkehgkkkbaaGreatDoor
open Go.RowKit
set_option linter.unusedVariables false

/-- Append in a region that draws its order, where nothing may be appended too. -/
theorem step_append_own {P : Program} {w : World} {ops : Array Oper} {o : Oper} {a : Act} {K : Act → World → Prop} {Q : Exit → Act → World → Prop} {E : Prop} (hgd : o.guard = none) (s x : Operand) (t : TypeId)
    (ho : o.op = .call { callee := .builtin .append, args := #[s, x], argTypes := #[t, t] })
    (base : Nat) (e : TypeId) (i : TypeInfo) (z : Value) (size bytes : Nat) (ht : P.underlying t = some (.slice e)) (hi : P.info? e = some i) (hz : i.zero = some z)
    (hsize : i.size = size) (hby : i.bytes = bytes) (hzs : z.cells.size = size) (hsz : 0 < size)
    (v : Value) (n : Nat) (xs : List Value) (hs : a.eval s = v) (hown : w.ownsRow base e size v n xs)
    (ad : Addr) (m c : Nat) (news : List Value) (hx : a.eval x = .slice (some ad) m c) (hl : news.length = m * size) (hnews : ∀ j u, news[j]? = some u → w.cell? (ad.add j) = some u) (h1 : ∀ u ∈ news, u.oneCell' = true)
    (h63 : n + m ≤ maxLen) (hbytes : (n + m) * bytes ≤ 140737488355328) (hbase : base ≤ w.heap.size)
    (h : ∀ ao cap w', w'.ownsRow base e size (.slice ao (n + m) cap) (n + m) (xs ++ news) → w.grownBy w' v.ownBlock → K (a.put o.dst (.slice ao (n + m) cap)) w') :
    if Region.wanted o (yielded ops a.tmps) = true then Oper.wp P o a w K Q else E := by
  have hw : Region.wanted o (yielded ops a.tmps) = true := by simp [Region.wanted, hgd]
  rw [if_pos hw]
  obtain ⟨v', w', hr, h2, h3, h4, h5⟩ := run_append_own_at (P := P) w base t o.type e i z size bytes ht hi hz hsize hby hzs hsz v n xs hown ad m c news hl hnews h1 h63 hbytes hbase
  obtain ⟨ao, cap, hv⟩ := owns_form h2
  subst hv
  unfold Oper.wp execOp
  simp only [ho, resolve, invoke, builtin, Sem.run_bind, Sem.run_pure, Result.andThen_ok, List.map_toArray, List.map_cons, List.map_nil, hs, hx, hr]
  exact h ao cap w' h2 h3

/-- A new reader's block. -/
theorem XRd.made {w0 w : World} {v : Value} {l : List UInt8} (hb : Below w0.heap.size w0 w) (ho : w.ownsRow w0.heap.size 5 1 v l.length (cellsB l)) :
    XRd (w.alloc (.cells #[v, .int .i64 0, .int .i64 0] 92)) w.heap.size v l l 0 0 ∧ Below w0.heap.size w0 (w.alloc (.cells #[v, .int .i64 0, .int .i64 0] 92)) ∧ w0.heap.size ≤ w.heap.size ∧ ∀ k, v.ownBlock = some k → w0.heap.size ≤ k := by
  refine ⟨⟨⟨heap_alloc_new _ _, owns_zero (World.ownsRow.alloc ho _), fun e => ?_, Nat.zero_le _⟩, by simp [rsX]⟩, hb.alloc hb.size _, hb.size, fun k hk => (World.ownsRow.lt ho k hk).1⟩
  have := (World.ownsRow.lt ho _ e).2
  omega

set_option maxHeartbeats 800000 in
set_option maxRecDepth 1000000 in
theorem xnewr_some {w : World} (ad : Addr) (c : Nat) (l : List UInt8) (hc : ∀ j u, (cellsB l)[j]? = some u → (w.alloc (.cells #[] 5)).cell? (ad.add j) = some u) (hlen : l.length ≤ 140737488355328) :
    Calls Tryz.prog 9 #[.slice (some ad) l.length c] w fun e w' => ∃ b v, e = .returned (.pointer (some ⟨b, 0, none⟩)) ∧ XRd w' b v l l 0 0 ∧ Below w.heap.size w w' ∧ w.heap.size ≤ b ∧ ∀ k, v.ownBlock = some k → w.heap.size ≤ k := by
  obtain ⟨i0, hi, hz0, hz1, hz2⟩ := info_parts Tryz.info5
  have h0 : (w.alloc (.cells #[] 5)).ownsRow w.heap.size 5 1 (.slice (some ⟨w.heap.size, 0, none⟩) 0 0) 0 [] := World.ownsRow_made w #[] 0 (Nat.le_refl _) (by unfold maxLen; omega) rfl
  go_enter Tryz.func9, Tryz.ntmps9
  go_wp2_with (at_builtin; refine wpList_append_own_at _ rfl (.tmp 3) (.tmp 4) 22 rfl w.heap.size 5 i0 (.int .u8 0) 1 1 Tryz.underlying22 hi hz0 hz1 hz2 rfl (by decide) _ _ _ rfl h0 ad l.length c (cellsB l) rfl (by rw [cellsB_length]; omega) hc (cellsB_one _) (by unfold maxLen; omega) (by omega) (by simp) ?_)
  intro v' w1 hown hgr hnil hat
  have hB : Below w.heap.size w w1 := by
    refine ((Below.refl _ _).alloc (Nat.le_refl _) _).grown hgr (by simp) (fun k hk => ?_)
    simp [Value.ownBlock] at hk
    omega
  have ho : w1.ownsRow w.heap.size 5 1 v' l.length (cellsB l) := by simpa using hown
  have R := hid (XRd.made hB ho)
  obtain ⟨ao', cap', eo⟩ := owns_form ho
  subst eo
  clear hown hgr hnil hat h0 hB ho hc
  go_wp2
  go_ret
  exact ⟨_, _, rfl, R.out⟩

set_option maxHeartbeats 800000 in
set_option maxRecDepth 1000000 in
theorem xnewr_none {w : World} :
    Calls Tryz.prog 9 #[.slice none 0 0] w fun e w' => ∃ b v, e = .returned (.pointer (some ⟨b, 0, none⟩)) ∧ XRd w' b v [] [] 0 0 ∧ Below w.heap.size w w' ∧ w.heap.size ≤ b ∧ ∀ k, v.ownBlock = some k → w.heap.size ≤ k := by
  obtain ⟨i0, hi, hz0, hz1, hz2⟩ := info_parts Tryz.info5
  have h0 : (w.alloc (.cells #[] 5)).ownsRow w.heap.size 5 1 (.slice (some ⟨w.heap.size, 0, none⟩) 0 0) 0 [] := World.ownsRow_made w #[] 0 (Nat.le_refl _) (by unfold maxLen; omega) rfl
  have R := hid (XRd.made (l := []) ((Below.refl _ _).alloc (Nat.le_refl _) (.cells #[] 5)) h0)
  go_enter Tryz.func9, Tryz.ntmps9
  go_wp2_with (at_builtin; refine wpList_append_own_none rfl (.tmp 3) (.tmp 4) 22 rfl w.heap.size 5 i0 1 Tryz.underlying22 hi _ _ _ rfl h0 rfl ?_)
  go_ret
  have r := R.out
  rw [World.size_alloc] at r
  exact ⟨_, _, rfl, r⟩

theorem xnewr_any {w : World} {s : Value} {l : List UInt8} (h : ReadsW w s l) (hlen : l.length ≤ 140737488355328) :
    Calls Tryz.prog 9 #[s] w fun e w' => ∃ b v, e = .returned (.pointer (some ⟨b, 0, none⟩)) ∧ XRd w' b v l l 0 0 ∧ Below w.heap.size w w' ∧ w.heap.size ≤ b ∧ ∀ k, v.ownBlock = some k → w.heap.size ≤ k := by
  rcases h with ⟨ao, c, rfl, _, ⟨rfl, rfl, rfl⟩ | ⟨g, o, rfl, hg, hc⟩⟩ | ⟨rfl, a, c, rfl⟩
  · exact xnewr_none
  · refine xnewr_some ⟨g, o, none⟩ c l (fun j u hu => ?_) hlen
    rw [Addr.add_lit, World.cell?_alloc_past _ _ _ hg]
    exact hc j u hu
  · exact xnewr_some a c [] (fun j u hu => by simp [cellsB] at hu) hlen

end Go.Proofs.YtkcepkehgkkkbaaGreatDoor

namespace Go.Proofs.YtkcepkehgkkkbaaGreatDoor
open Go.RowKit
set_option linter.unusedVariables false

/-- A list that is none. -/
theorem owns_none (w : World) (base : Nat) : w.ownsRow base 5 1 (.slice none 0 0) 0 (cellsB []) := ⟨rfl, Or.inl ⟨rfl, rfl⟩⟩

theorem runR_look (rs : List UInt8) (most : Int) (n sz er : Nat) (h : look 9 127 0 rs 0 = (n, sz, er)) :
    runR rs most = if er = 0 then (if most < (n : Int) then ([], sz, 14) else if rs.length - sz < n then ([], sz, 10) else ((rs.drop sz).take n, sz + n, 0)) else ([], sz, (er : Int)) := by
  rw [runR_eq, numR_eq, h]
  by_cases he : er = 0
  · subst he
    by_cases hm : most < (n : Int)
    · simp [hm]
    · by_cases hl : rs.length - sz < n
      · simp [hm, hl]
      · simp [hm, hl]
  · simp [he]

/-- The bytes of an item. -/
theorem XR.bytes {w : World} {b g c n : Nat} {B : List UInt8} {at_ : Nat} {e : Int} (h : XR w b (.slice (some ⟨g, 0, none⟩) n c) B at_ e) (f m : Nat) (hm : f + m ≤ B.length) :
    ∀ j u, (cellsB ((B.drop f).take m))[j]? = some u → w.cell? ((⟨g, f, none⟩ : Addr).add j) = some u := by
  intro j u hu
  have hc := World.ownsRow.cells h.row (g := g) rfl (f + j) u
  rw [Addr.add_lit]
  have : (⟨g, f + j, none⟩ : Addr) = (⟨g, 0, none⟩ : Addr).add (f + j) := by rw [Addr.add_lit, Nat.zero_add]
  rw [this]
  refine hc ?_
  rw [cellsB, List.getElem?_map, Option.map_eq_some_iff] at hu
  obtain ⟨x, hx, rfl⟩ := hu
  rw [List.getElem?_take] at hx
  split at hx
  · rw [List.getElem?_drop] at hx
    simp [cellsB, hx]
  · cases hx

theorem xbytes_fin {w w5 w' : World} {b : Nat} {v : Value} {B rs l : List UInt8} {place n cap' : Nat} {ao' : Option Addr} {r : Nat × Int} (R : XAft w w5 b v B rs place 0 r) (hs5 : w5.heap.size = w.heap.size) (ho : w'.ownsRow w.heap.size 5 1 (.slice ao' (0 + n) cap') (0 + n) ([] ++ cellsB l)) (hg : (w5.alloc (.cells #[] 5)).drew.grownBy w' (Value.slice (some ⟨w.heap.size, 0, none⟩) 0 0).ownBlock) : w'.ownsRow w.heap.size 5 1 (.slice ao' n cap') n (cellsB l) ∧ XAft w w' b v B rs place 0 r := by
  rw [Nat.zero_add, List.nil_append] at ho
  refine ⟨ho, R.below ?_⟩
  have h0 : Below w5.heap.size w5 (w5.alloc (.cells #[] 5)).drew := by
    have h : Below w5.heap.size w5 (w5.alloc (.cells #[] 5)) := (Below.refl _ _).alloc (Nat.le_refl _) _
    exact ⟨h.os, h.tape, h.output, h.size, h.block⟩
  refine h0.grown hg (by simp) (fun k hk => ?_)
  simp [Value.ownBlock] at hk
  omega

theorem cut2_run (g t n c len : Nat) (l h : Int) (hl : l = (t : Int)) (hh : h = (t : Int) + (n : Int)) (hc : t + n ≤ c) (hne : c ≠ t) (w : World) : (Instr.slice 22 (.slice (some ⟨g, 0, none⟩) len c) (some (.int .i64 l)) (some (.int .i64 h)) none).run Tryz.prog w = .ok (.slice (some ⟨g, t, none⟩) n (c - t)) w := by
  rw [run_slice_lh w 22 (some ⟨g, 0, none⟩) len c (by kernel_rfl) .i64 .i64 l h (by omega) (by omega) (by omega)]
  have hs : (sizeOf (Tryz.prog.elem 22)).run Tryz.prog w = .ok 1 w := by kernel_rfl
  have e1 : l.toNat = t := by omega
  have e2 : h.toNat = t + n := by omega
  rw [hs, e1, e2]
  simp [sliced, Result.andThen, Addr.add_lit, hne]

theorem cut2_run_end (g t n c len : Nat) (l h : Int) (hl : l = (t : Int)) (hh : h = (t : Int) + (n : Int)) (hc : t + n ≤ c) (he : c = t) (w : World) : (Instr.slice 22 (.slice (some ⟨g, 0, none⟩) len c) (some (.int .i64 l)) (some (.int .i64 h)) none).run Tryz.prog w = .ok (.slice (some ⟨g, 0, none⟩) n (c - t)) w := by
  rw [run_slice_lh w 22 (some ⟨g, 0, none⟩) len c (by kernel_rfl) .i64 .i64 l h (by omega) (by omega) (by omega)]
  have hs : (sizeOf (Tryz.prog.elem 22)).run Tryz.prog w = .ok 1 w := by kernel_rfl
  have e1 : l.toNat = t := by omega
  have e2 : h.toNat = t + n := by omega
  rw [hs, e1, e2]
  simp [sliced, Result.andThen, he]

set_option maxHeartbeats 1600000 in
set_option maxRecDepth 1000000 in
theorem xBytes_any {w : World} {b : Nat} {v : Value} {B rs : List UInt8} {place : Nat} {err : Int} (h : XRd w b v B rs place err) (hlen : B.length ≤ 140737488355328) (most : Int) :
    Calls Tryz.prog 91 #[.pointer (some ⟨b, 0, none⟩), .int .i64 most] w fun e w' => ∃ s, e = .returned s ∧ w'.ownsRow w.heap.size 5 1 s (runR rs most).1.length (cellsB (runR rs most).1) ∧ XAft w w' b v B rs place err (runR rs most).2 := by
  obtain ⟨ao, c, hf⟩ := h.1.form
  subst hf
  have c0 : w.cell? ⟨b, 0, none⟩ = some (.slice ao B.length c) := by rw [cell_at h.1.box]; rfl
  have c1 : w.cell? ⟨b, 1, none⟩ = some (.int .i64 (place : Int)) := by rw [cell_at h.1.box]; rfl
  have c2 : w.cell? ⟨b, 2, none⟩ = some (.int .i64 err) := by rw [cell_at h.1.box]; rfl
  have f1 := free_at h.1.box 1
  have f2 := free_at h.1.box 2
  by_cases he : err = 0
  · subst he
    have hd := h.drop
    subst hd
    have HX := hid h.1
    have hle := h.1.le
    have LB := look_bound 9 127 (by omega) (by omega) (by omega) (B.drop place) 0 0 (by omega) (by simp)
    have e0 := runR_look (B.drop place) most
    have HG := hid (xlook_any h.1 9 127 8 127 (by omega) rfl (by omega) (by omega) (by omega) (by omega) hlen)
    clear h
    generalize look 9 127 0 (B.drop place) 0 = lk at LB e0 HG
    obtain ⟨n, sz, er⟩ := lk
    replace e0 := e0 n sz er rfl
    simp only at LB HG
    obtain ⟨_, hn, hsz, hz, her, _⟩ := LB
    have hn' := hn (by omega)
    have hsz' : sz ≤ (B.drop place).length := by omega
    have hsz2 : sz ≤ B.length - place := by rw [List.length_drop] at hsz'; exact hsz'
    rw [List.length_drop] at e0
    clear hn hsz
    have HE := hid e0
    have HZ := hid hz
    clear e0 hz
    go_enter Tryz.func91, Tryz.ntmps91
    go_wp2_with fail
    refine Calls.mono HG.out ?_
    rintro e w1 ⟨rfl, q, rfl⟩
    have k1 : (B.length : Int) - (place : Int) = ((B.length - place : Nat) : Int) := by omega
    by_cases hz : er = 0
    · subst hz
      by_cases hm : most < (n : Int)
      · have F : Hid (runR (B.drop place) most = ([], sz, 14)) := by rw [HE.out]; simp [hm, Hid]
        clear k1
        go_wp2
        go_region
        go_wp2
        go_ret
        rw [F.out]
        exact ⟨_, rfl, owns_none _ _, HX.out.bad sz (q + 1) 14 (by omega)⟩
      · by_cases hl : B.length - place - sz < n
        · have F : Hid (runR (B.drop place) most = ([], sz, 10)) := by rw [HE.out]; simp [hm, hl, Hid]
          have hl2 : (B.length : Int) - (place : Int) - (sz : Int) < (n : Int) := by omega
          clear k1 hl
          go_wp2
          go_region
          go_wp2
          go_ret
          rw [F.out]
          exact ⟨_, rfl, owns_none _ _, HX.out.bad sz (q + 1) 10 (by omega)⟩
        · have F : Hid (runR (B.drop place) most = (((B.drop place).drop sz).take n, sz + n, 0)) := by rw [HE.out]; simp [hm, hl, Hid]
          have hl2 : ¬ ((B.length : Int) - (place : Int) - (sz : Int) < (n : Int)) := by omega
          have R : Hid (XAft w ((w.drewN (q + 1)).setCell ⟨b, 1, none⟩ (.int .i64 ((place : Int) + (sz : Int) + (n : Int)))) b (.slice ao B.length c) B (B.drop place) place 0 (sz + n, 0)) := HX.out.went (sz + n) (q + 1) (by rw [List.length_drop]; omega) _ (by omega)
          obtain ⟨g, rfl⟩ : ∃ g, ao = some ⟨g, 0, none⟩ := by
            have hs0 : 0 < sz := by omega
            rcases HX.out.row.2 with ⟨e, e0⟩ | ⟨g, cap, _, ev, _⟩
            · omega
            · simp only [Value.slice.injEq] at ev
              exact ⟨g, ev.1⟩
          have hcap : B.length ≤ c := by
            rcases HX.out.row.2 with ⟨e, e0⟩ | ⟨g, cap, _, ev, _, _, hh, _⟩
            · omega
            · simp only [Value.slice.injEq] at ev
              omega
          obtain ⟨i0, hi, hz0, hz1, hz2⟩ := info_parts Tryz.info5
          clear k1 hl
          go_wp2
          go_region
          go_wp2_with fail
          have hs5 : ((w.drewN (q + 1)).setCell ⟨b, 1, none⟩ (.int .i64 ((place : Int) + (sz : Int) + (n : Int)))).heap.size = w.heap.size := by simp [World.setCell]
          have e5 : ((w.drewN q).drew.setCell ⟨b, 1, none⟩ (.int .i64 ((place : Int) + (sz : Int) + (n : Int)))) = ((w.drewN (q + 1)).setCell ⟨b, 1, none⟩ (.int .i64 ((place : Int) + (sz : Int) + (n : Int)))) := rfl
          first | rw [e5] | skip
          generalize ((w.drewN (q + 1)).setCell ⟨b, 1, none⟩ (.int .i64 ((place : Int) + (sz : Int) + (n : Int)))) = w5 at *
          have hbl : b < w5.heap.size := R.out.1.1.lt
          have k0 : w5.cell? ⟨b, 0, none⟩ = some (.slice (some ⟨g, 0, none⟩) B.length c) := by rw [cell_at R.out.1.1.box]; rfl
          have k1 : w5.cell? ⟨b, 1, none⟩ = some (.int .i64 ((place : Int) + (sz : Int) + (n : Int))) := by rw [cell_at R.out.1.1.box]; simp [aft]; omega
          have h0 : (w5.alloc (.cells #[] 5)).drew.ownsRow w.heap.size 5 1 (.slice (some ⟨w.heap.size, 0, none⟩) 0 0) 0 [] := by
            rw [← hs5]
            exact World.ownsRow_made w5 #[] 0 (Nat.le_refl _) (by unfold maxLen; omega) rfl
          have HN : Hid (∀ j u, (cellsB ((B.drop (place + sz)).take n))[j]? = some u → (w5.alloc (.cells #[] 5)).drew.cell? ((⟨g, place + sz, none⟩ : Addr).add j) = some u) := by
            intro j u hu
            have := R.out.1.1.bytes (place + sz) n (by omega) j u hu
            have hg : g < w5.heap.size := R.out.1.1.own_lt g rfl
            show (w5.alloc (.cells #[] 5)).cell? _ = _
            rw [Addr.add_lit] at this ⊢
            rw [World.cell?_alloc_past _ _ _ hg]
            exact this
          clear HX HG HZ HE c0 c1 c2 f1 f2
          have j0 : (w5.alloc (.cells #[] 5)).cell? ⟨b, 0, none⟩ = some (.slice (some ⟨g, 0, none⟩) B.length c) := by rw [World.cell?_alloc_past _ _ _ hbl]; exact k0
          have j1 : (w5.alloc (.cells #[] 5)).cell? ⟨b, 1, none⟩ = some (.int .i64 ((place : Int) + (sz : Int) + (n : Int))) := by rw [World.cell?_alloc_past _ _ _ hbl]; exact k1
          have hcs : place + sz ≤ c := by omega
          have hcn : place + sz + n ≤ c := by omega
          have hmn : place + sz + n ≤ 140737488355328 := by omega
          have hpn : place + sz + n ≤ B.length := by omega
          clear hm hl2 hsz' hsz2 hlen hcap hle her hn'
          obtain ⟨o, hsl, HN2⟩ : ∃ o, (∀ w, (Instr.slice 22 (.slice (some ⟨g, 0, none⟩) B.length c) (some (.int .i64 ((place : Int) + (sz : Int)))) (some (.int .i64 ((place : Int) + (sz : Int) + (n : Int)))) none).run Tryz.prog w = .ok (.slice (some ⟨g, o, none⟩) n (c - (place + sz))) w) ∧ Hid (∀ j u, (cellsB ((B.drop (place + sz)).take n))[j]? = some u → (w5.alloc (.cells #[] 5)).drew.cell? ((⟨g, o, none⟩ : Addr).add j) = some u) := by
            by_cases hcc : c = place + sz
            · have hn0 : n = 0 := by omega
              subst hn0
              refine ⟨0, fun w => ?_, fun j u hu => by simp [cellsB] at hu⟩
              exact cut2_run_end g (place + sz) 0 c B.length _ _ (by omega) (by omega) (by omega) hcc w
            · exact ⟨place + sz, fun w => cut2_run g (place + sz) n c B.length _ _ (by omega) (by omega) (by omega) hcc w, HN.out⟩
          clear HN
          have HL : Hid ((((B.drop place).drop sz).take n).length = n) := by rw [List.length_take, List.length_drop, List.length_drop, Nat.min_eq_left (by omega)]; exact hid rfl
          have HD : Hid (B.drop (place + sz) = (B.drop place).drop sz) := by rw [List.drop_drop]; exact hid rfl
          rw [HD.out] at HN2
          clear HD
          generalize ((B.drop place).drop sz).take n = l at *
          clear e5
          go_region_law (refine step_append_own (by rfl) (.tmp 68) (.tmp 78) 22 (by rfl) w.heap.size 5 i0 (.int .u8 0) 1 1 Tryz.underlying22 hi hz0 hz1 hz2 rfl (by decide) _ 0 [] (by rfl) h0 ⟨g, o, none⟩ n (c - (place + sz)) (cellsB l) (by rfl) (by rw [cellsB_length, HL.out]; omega) HN2.out (cellsB_one _) (by unfold maxLen; omega) (by omega) (by simp; omega) ?_; intro ao' cap' w' ho hg'; have RR := hid (xbytes_fin R.out hs5 ho hg'); clear ho hg')
          all_goals go_wp2
          all_goals go_ret
          all_goals exact ⟨_, rfl, by rw [F.out, HL.out]; exact RR.out.1, by rw [F.out]; exact RR.out.2⟩
    · have F : Hid (runR (B.drop place) most = ([], sz, (er : Int))) := by rw [HE.out]; simp [hz, Hid]
      have hb : ((er : Int) == 0) = false := by simp; omega
      have hb' : ((er : Int) != 0) = true := by simp; omega
      have hz' : (er : Int) ≠ 0 := by omega
      have HZ' := hid hz'
      clear hz hz' k1
      go_wp2
      go_region
      go_wp2
      go_ret
      rw [F.out]
      exact ⟨_, rfl, owns_none _ _, HX.out.bad sz (q + 1) er HZ'.out⟩
  · have hb : (err != 0) = true := by simpa using he
    have hn := h.nil he
    subst hn
    have F : Hid (runR [] most = ([], 0, 10)) := by simp [runR, numR, look, Hid]
    have R := hid (h.dead he 0 0 10 (by omega))
    clear h he
    go_enter Tryz.func91, Tryz.ntmps91
    go_wp2
    go_ret
    rw [F.out]
    exact ⟨_, rfl, owns_none _ _, R.out⟩

set_option maxHeartbeats 800000 in
set_option maxRecDepth 1000000 in
theorem xText_any {w : World} {b : Nat} {v : Value} {B rs : List UInt8} {place : Nat} {err : Int} (h : XRd w b v B rs place err) (hlen : B.length ≤ 140737488355328) (most : Int) :
    Calls Tryz.prog 58 #[.pointer (some ⟨b, 0, none⟩), .int .i64 most] w fun e w' => e = .returned (.string (strB (runR rs most).1)) ∧ XAft w w' b v B rs place err (runR rs most).2 := by
  have HC := hid (xBytes_any h hlen most)
  clear h
  go_enter Tryz.func58, Tryz.ntmps58
  go_wp2_with fail
  refine Calls.mono HC.out ?_
  rintro e w' ⟨s, rfl, h1, h2⟩
  have hcv := conv_string (Reads.of_owns h1)
  obtain ⟨ao, c, hf⟩ := owns_form h1
  subst hf
  have H2 := hid h2
  clear h1 h2 HC
  go_wp2
  go_ret
  exact ⟨rfl, H2.out⟩

end Go.Proofs.YtkcepkehgkkkbaaGreatDoor
