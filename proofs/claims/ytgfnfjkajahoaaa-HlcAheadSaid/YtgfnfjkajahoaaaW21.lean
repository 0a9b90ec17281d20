/- Words of my own: scripts: a call of three numbers and a string; a call of three numbers. -/
import Derived.Test.YtgfnfjkajahoaaaW20
import Derived.Test.YtgfnfjkajahoaaaW18
namespace Go.Proofs.Ytgfnfjkajahoaaa
/-- A call: three numbers and a string. -/
structure Cal where
  k : Int
  a : Int
  b : Int
  s : ByteArray
def calcells (c : Cal) : List Value := [.int .i64 c.k, .int .i64 c.a, .int .i64 c.b, .string c.s]
def calok (c : Cal) : Prop := (-9223372036854775808 ≤ c.k ∧ c.k ≤ 9223372036854775807) ∧ (-9223372036854775808 ≤ c.a ∧ c.a ≤ 9223372036854775807) ∧ (-9223372036854775808 ≤ c.b ∧ c.b ≤ 9223372036854775807) ∧ c.s.size ≤ maxLen
def calkinds : List Kind := [.int, .int, .int, .str]
theorem callen : ∀ c, (calcells c).length = calkinds.length := fun _ => rfl
theorem calof : ∀ r, Kind.rows calkinds r → ∃ c, r = calcells c ∧ calok c
  | [x, y, z, u], ⟨⟨a, ha, ha'⟩, ⟨b, hb, hb'⟩, ⟨c, hc, hc'⟩, ⟨s, hs, hs'⟩, _⟩ => ⟨⟨a, b, c, s⟩, by rw [ha, hb, hc, hs]; rfl, wf_bd ha', wf_bd hb', wf_bd hc', hs'⟩
  | [], h => h.elim
  | [_], h => h.2.elim
  | [_, _], h => h.2.2.elim
  | [_, _, _], h => h.2.2.2.elim
  | _ :: _ :: _ :: _ :: _ :: _, h => h.2.2.2.2.elim
/-- A call: three numbers. -/
structure Cal3 where
  k : Int
  a : Int
  b : Int
def cal3cells (c : Cal3) : List Value := [.int .i64 c.k, .int .i64 c.a, .int .i64 c.b]
def cal3ok (c : Cal3) : Prop := (-9223372036854775808 ≤ c.k ∧ c.k ≤ 9223372036854775807) ∧ (-9223372036854775808 ≤ c.a ∧ c.a ≤ 9223372036854775807) ∧ (-9223372036854775808 ≤ c.b ∧ c.b ≤ 9223372036854775807)
def cal3kinds : List Kind := [.int, .int, .int]
theorem cal3len : ∀ c, (cal3cells c).length = cal3kinds.length := fun _ => rfl
theorem cal3of : ∀ r, Kind.rows cal3kinds r → ∃ c, r = cal3cells c ∧ cal3ok c
  | [x, y, z], ⟨⟨a, ha, ha'⟩, ⟨b, hb, hb'⟩, ⟨c, hc, hc'⟩, _⟩ => ⟨⟨a, b, c⟩, by rw [ha, hb, hc]; rfl, wf_bd ha', wf_bd hb', wf_bd hc'⟩
  | [], h => h.elim
  | [_], h => h.2.elim
  | [_, _], h => h.2.2.elim
  | _ :: _ :: _ :: _ :: _, h => h.2.2.2.elim
end Go.Proofs.Ytgfnfjkajahoaaa
