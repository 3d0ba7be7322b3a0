import Derived.Test.YtphcfkfdkaphbaaTAct0
import Derived.Test.YtphcfkfdkaphbaaTAct1
import Derived.Test.YtphcfkfdkaphbaaTAct2
import Derived.Test.YtphcfkfdkaphbaaTAct3
import Derived.Test.YtphcfkfdkaphbaaTAct4
import Derived.Test.YtphcfkfdkaphbaaTAct5
namespace Go.Proofs.Ytphcfkfdkaphbaa
open Go.RowKit
set_option linter.unusedVariables false

theorem act_any {D i : Nat} {va vb vm : Value} {T : List Tq} {M : List Mk} {cs : List Comp} {w : World} {x : Ac} (hA : All (deskL D va vb vm T M ++ cs) w) (hF : DF T M i) (hs : x.name.size ≤ maxLen) (hi : i ≤ 2932031007400) : Calls Try.prog 12 #[.pointer (some ⟨D, 0, none⟩), .agg x.cells.toArray, .int .i64 (i : Int)] w fun e w' => e = .returned (.bool true) ∧ DeskI D T.length (i + 1) cs w' := by
  have h8 := amN_lt x.kind (n := 6) (by decide)
  obtain ⟨m, hm⟩ : ∃ m, amN x.kind 6 = m := ⟨_, rfl⟩
  rw [hm] at h8
  rcases m with _ | _ | _ | _ | _ | _ | m
  · exact act_0 hA hF hs hi hm
  · exact act_1 hA hF hs hi hm
  · exact act_2 hA hF hs hi hm
  · exact act_3 hA hF hs hi hm
  · exact act_4 hA hF hs hi hm
  · exact act_5 hA hF hs hi hm
  · omega
end Go.Proofs.Ytphcfkfdkaphbaa
