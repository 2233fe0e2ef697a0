import PyProof.Rows.All
import Wide.All
import OpenK.AllK
import Wide.FinOn
import HandS.ForMost
import HandS.IsInst
import HandS.WideBits
import HandS.Style
import HandS.SortInts
import HandS.EndTab
import HandS.NoneIn
import HandS.Walk
import PyProof.LongRange
import HandS.Gcd
import HandS.Conv
import PySem.Challenge.RW_farwrap_k10_whole_turns_of_great_kinds
set_option Elab.async false
set_option linter.all false
set_option maxRecDepth 100000
set_option maxHeartbeats 4000000
namespace Fw
open PySem L2
def rIntC : List V → Hp → VK → Prop := fun xs H Q => (∃ i, xs = [.int i] ∧ Q (.int i) H) ∨ ∃ k, xs = [.bl k] ∧ Q (.int (if k then 1 else 0)) H
def ab (x : Int) : Int := if x < 0 then -x else x
def rIsNn : R2 := fun x y H Q => y = .non ∧ Q (.bl (decide (x = .non))) H
def rAbsC : List V → Hp → VK → Prop := fun xs H Q => ∃ i, xs = [.int i] ∧ Q (.int (if i < 0 then -i else i)) H
def rLenS (K : PySem.W.Frag) : List V → Hp → VK → Prop := fun xs H Q => ∃ p ys, xs = [.ref p] ∧ (SqL K H p ys ∨ SqT K H p ys) ∧ Q (.int ys.length) H
section
variable {X : Cx} {CX : CXT} {k : Nat} {f : Addr} {fd : FuncData} {ps ks : List Str} {sp : Sp} {E : XK} {x : Str} {p pos : Pos} {kws : List Keyword} {tk : TA} {g : List Value → List Value → List Value} {gV : List V → List V → List V}
/-- f(k = v, ..), no positional argument -/
theorem pe_callK0 (F : FnOk X.prog X.w X.K X.mg X.base CX k f fd ps sp) (hr : Room k X.A) (hg : Gl X x) (hm : X.mg x = some (.ref f)) (hk : PySem.W.keepIn X.K (.ref f) = true) (hb : KBinds X.K fd ps ks g gV) (hx : Passes CX X E)
    (hkw : PK X kws tk) (hall : (backToKw pos (keywordEach kws X.env)).all (·.1.isSome) = true := by rfl) (hks : (backToKw pos (keywordEach kws X.env)).filterMap (·.1) = ks := by rfl)
    (hdb : (x == ("__debug__" : Str)) = false := by decide)
    (hpl : ((backTo pos (starEach [] X.env)).any (·.1) || (backToKw pos (keywordEach kws X.env)).any (·.1.isNone)) = false := by rfl) :
    PE X (.Call (.Name x p) [] kws pos) (tCallK sp gV E tNil tk) := by
  refine ⟨fun pins s σ H Q I h => ?_⟩
  refine wpAny_Call_Name_kw (ld_glob I hg hm ?_ hdb)
  refine PySem.W.callWith_KW0 (h₀ := X.base) I.ok.mod.kin hk hall ?_ hpl
  have q : tk σ H fun zs H2 => sp (gV [] zs) H2 Q E := h
  refine thn (hkw.run pos pins s σ H _ I q) fun ws s2 ⟨zs, H2, I2, rz, q2⟩ => ⟨I2.kIn, ?_⟩
  rw [hks]
  exact run_fnk F hr hb hx I2 .nil rz q2
end

section
variable {K : PySem.W.Frag} {C : Addr} {σ : L2.St} {H : Hp} {Q : VK} {D : Ends} {ta tb tc te : TE} {tt tu : TT} {r : R2}
theorem w_c {v : V} (q : Q v H) : tC v σ H Q := q
theorem w_var {i : Nat} {v : V} (h : σ[i]? = some (some v)) (q : Q v H) : tVar i σ H Q := ⟨v, h, q⟩
theorem w_v0 {v : V} {r : L2.St} (q : Q v H) : tVar 0 (some v :: r) H Q := ⟨v, rfl, q⟩
theorem w_n0 {y : Option V} {v : V} {r : L2.St} {Q : L2.St → Hp → Prop} (q : Q (some v :: r) H) : gName 0 v (y :: r) H Q := q
theorem w_v1 {x0 : Option V} {v : V} {r : L2.St} (q : Q v H) : tVar 1 (x0 :: some v :: r) H Q := ⟨v, rfl, q⟩
theorem w_n1 {x0 : Option V} {y : Option V} {v : V} {r : L2.St} {Q : L2.St → Hp → Prop} (q : Q (x0 :: some v :: r) H) : gName 1 v (x0 :: y :: r) H Q := q
theorem w_v2 {x0 x1 : Option V} {v : V} {r : L2.St} (q : Q v H) : tVar 2 (x0 :: x1 :: some v :: r) H Q := ⟨v, rfl, q⟩
theorem w_n2 {x0 x1 : Option V} {y : Option V} {v : V} {r : L2.St} {Q : L2.St → Hp → Prop} (q : Q (x0 :: x1 :: some v :: r) H) : gName 2 v (x0 :: x1 :: y :: r) H Q := q
theorem w_v3 {x0 x1 x2 : Option V} {v : V} {r : L2.St} (q : Q v H) : tVar 3 (x0 :: x1 :: x2 :: some v :: r) H Q := ⟨v, rfl, q⟩
theorem w_n3 {x0 x1 x2 : Option V} {y : Option V} {v : V} {r : L2.St} {Q : L2.St → Hp → Prop} (q : Q (x0 :: x1 :: x2 :: some v :: r) H) : gName 3 v (x0 :: x1 :: x2 :: y :: r) H Q := q
theorem w_v4 {x0 x1 x2 x3 : Option V} {v : V} {r : L2.St} (q : Q v H) : tVar 4 (x0 :: x1 :: x2 :: x3 :: some v :: r) H Q := ⟨v, rfl, q⟩
theorem w_n4 {x0 x1 x2 x3 : Option V} {y : Option V} {v : V} {r : L2.St} {Q : L2.St → Hp → Prop} (q : Q (x0 :: x1 :: x2 :: x3 :: some v :: r) H) : gName 4 v (x0 :: x1 :: x2 :: x3 :: y :: r) H Q := q
theorem w_v5 {x0 x1 x2 x3 x4 : Option V} {v : V} {r : L2.St} (q : Q v H) : tVar 5 (x0 :: x1 :: x2 :: x3 :: x4 :: some v :: r) H Q := ⟨v, rfl, q⟩
theorem w_n5 {x0 x1 x2 x3 x4 : Option V} {y : Option V} {v : V} {r : L2.St} {Q : L2.St → Hp → Prop} (q : Q (x0 :: x1 :: x2 :: x3 :: x4 :: some v :: r) H) : gName 5 v (x0 :: x1 :: x2 :: x3 :: x4 :: y :: r) H Q := q
theorem w_v6 {x0 x1 x2 x3 x4 x5 : Option V} {v : V} {r : L2.St} (q : Q v H) : tVar 6 (x0 :: x1 :: x2 :: x3 :: x4 :: x5 :: some v :: r) H Q := ⟨v, rfl, q⟩
theorem w_n6 {x0 x1 x2 x3 x4 x5 : Option V} {y : Option V} {v : V} {r : L2.St} {Q : L2.St → Hp → Prop} (q : Q (x0 :: x1 :: x2 :: x3 :: x4 :: x5 :: some v :: r) H) : gName 6 v (x0 :: x1 :: x2 :: x3 :: x4 :: x5 :: y :: r) H Q := q
theorem w_v7 {x0 x1 x2 x3 x4 x5 x6 : Option V} {v : V} {r : L2.St} (q : Q v H) : tVar 7 (x0 :: x1 :: x2 :: x3 :: x4 :: x5 :: x6 :: some v :: r) H Q := ⟨v, rfl, q⟩
theorem w_n7 {x0 x1 x2 x3 x4 x5 x6 : Option V} {y : Option V} {v : V} {r : L2.St} {Q : L2.St → Hp → Prop} (q : Q (x0 :: x1 :: x2 :: x3 :: x4 :: x5 :: x6 :: some v :: r) H) : gName 7 v (x0 :: x1 :: x2 :: x3 :: x4 :: x5 :: x6 :: y :: r) H Q := q
theorem w_v8 {x0 x1 x2 x3 x4 x5 x6 x7 : Option V} {v : V} {r : L2.St} (q : Q v H) : tVar 8 (x0 :: x1 :: x2 :: x3 :: x4 :: x5 :: x6 :: x7 :: some v :: r) H Q := ⟨v, rfl, q⟩
theorem w_n8 {x0 x1 x2 x3 x4 x5 x6 x7 : Option V} {y : Option V} {v : V} {r : L2.St} {Q : L2.St → Hp → Prop} (q : Q (x0 :: x1 :: x2 :: x3 :: x4 :: x5 :: x6 :: x7 :: some v :: r) H) : gName 8 v (x0 :: x1 :: x2 :: x3 :: x4 :: x5 :: x6 :: x7 :: y :: r) H Q := q
theorem w_v9 {x0 x1 x2 x3 x4 x5 x6 x7 x8 : Option V} {v : V} {r : L2.St} (q : Q v H) : tVar 9 (x0 :: x1 :: x2 :: x3 :: x4 :: x5 :: x6 :: x7 :: x8 :: some v :: r) H Q := ⟨v, rfl, q⟩
theorem w_n9 {x0 x1 x2 x3 x4 x5 x6 x7 x8 : Option V} {y : Option V} {v : V} {r : L2.St} {Q : L2.St → Hp → Prop} (q : Q (x0 :: x1 :: x2 :: x3 :: x4 :: x5 :: x6 :: x7 :: x8 :: some v :: r) H) : gName 9 v (x0 :: x1 :: x2 :: x3 :: x4 :: x5 :: x6 :: x7 :: x8 :: y :: r) H Q := q
theorem w_v10 {x0 x1 x2 x3 x4 x5 x6 x7 x8 x9 : Option V} {v : V} {r : L2.St} (q : Q v H) : tVar 10 (x0 :: x1 :: x2 :: x3 :: x4 :: x5 :: x6 :: x7 :: x8 :: x9 :: some v :: r) H Q := ⟨v, rfl, q⟩
theorem w_n10 {x0 x1 x2 x3 x4 x5 x6 x7 x8 x9 : Option V} {y : Option V} {v : V} {r : L2.St} {Q : L2.St → Hp → Prop} (q : Q (x0 :: x1 :: x2 :: x3 :: x4 :: x5 :: x6 :: x7 :: x8 :: x9 :: some v :: r) H) : gName 10 v (x0 :: x1 :: x2 :: x3 :: x4 :: x5 :: x6 :: x7 :: x8 :: x9 :: y :: r) H Q := q
theorem w_v11 {x0 x1 x2 x3 x4 x5 x6 x7 x8 x9 x10 : Option V} {v : V} {r : L2.St} (q : Q v H) : tVar 11 (x0 :: x1 :: x2 :: x3 :: x4 :: x5 :: x6 :: x7 :: x8 :: x9 :: x10 :: some v :: r) H Q := ⟨v, rfl, q⟩
theorem w_n11 {x0 x1 x2 x3 x4 x5 x6 x7 x8 x9 x10 : Option V} {y : Option V} {v : V} {r : L2.St} {Q : L2.St → Hp → Prop} (q : Q (x0 :: x1 :: x2 :: x3 :: x4 :: x5 :: x6 :: x7 :: x8 :: x9 :: x10 :: some v :: r) H) : gName 11 v (x0 :: x1 :: x2 :: x3 :: x4 :: x5 :: x6 :: x7 :: x8 :: x9 :: x10 :: y :: r) H Q := q
theorem w_v12 {x0 x1 x2 x3 x4 x5 x6 x7 x8 x9 x10 x11 : Option V} {v : V} {r : L2.St} (q : Q v H) : tVar 12 (x0 :: x1 :: x2 :: x3 :: x4 :: x5 :: x6 :: x7 :: x8 :: x9 :: x10 :: x11 :: some v :: r) H Q := ⟨v, rfl, q⟩
theorem w_n12 {x0 x1 x2 x3 x4 x5 x6 x7 x8 x9 x10 x11 : Option V} {y : Option V} {v : V} {r : L2.St} {Q : L2.St → Hp → Prop} (q : Q (x0 :: x1 :: x2 :: x3 :: x4 :: x5 :: x6 :: x7 :: x8 :: x9 :: x10 :: x11 :: some v :: r) H) : gName 12 v (x0 :: x1 :: x2 :: x3 :: x4 :: x5 :: x6 :: x7 :: x8 :: x9 :: x10 :: x11 :: y :: r) H Q := q
theorem w_v13 {x0 x1 x2 x3 x4 x5 x6 x7 x8 x9 x10 x11 x12 : Option V} {v : V} {r : L2.St} (q : Q v H) : tVar 13 (x0 :: x1 :: x2 :: x3 :: x4 :: x5 :: x6 :: x7 :: x8 :: x9 :: x10 :: x11 :: x12 :: some v :: r) H Q := ⟨v, rfl, q⟩
theorem w_n13 {x0 x1 x2 x3 x4 x5 x6 x7 x8 x9 x10 x11 x12 : Option V} {y : Option V} {v : V} {r : L2.St} {Q : L2.St → Hp → Prop} (q : Q (x0 :: x1 :: x2 :: x3 :: x4 :: x5 :: x6 :: x7 :: x8 :: x9 :: x10 :: x11 :: x12 :: some v :: r) H) : gName 13 v (x0 :: x1 :: x2 :: x3 :: x4 :: x5 :: x6 :: x7 :: x8 :: x9 :: x10 :: x11 :: x12 :: y :: r) H Q := q
theorem w_v14 {x0 x1 x2 x3 x4 x5 x6 x7 x8 x9 x10 x11 x12 x13 : Option V} {v : V} {r : L2.St} (q : Q v H) : tVar 14 (x0 :: x1 :: x2 :: x3 :: x4 :: x5 :: x6 :: x7 :: x8 :: x9 :: x10 :: x11 :: x12 :: x13 :: some v :: r) H Q := ⟨v, rfl, q⟩
theorem w_n14 {x0 x1 x2 x3 x4 x5 x6 x7 x8 x9 x10 x11 x12 x13 : Option V} {y : Option V} {v : V} {r : L2.St} {Q : L2.St → Hp → Prop} (q : Q (x0 :: x1 :: x2 :: x3 :: x4 :: x5 :: x6 :: x7 :: x8 :: x9 :: x10 :: x11 :: x12 :: x13 :: some v :: r) H) : gName 14 v (x0 :: x1 :: x2 :: x3 :: x4 :: x5 :: x6 :: x7 :: x8 :: x9 :: x10 :: x11 :: x12 :: x13 :: y :: r) H Q := q
theorem w_v15 {x0 x1 x2 x3 x4 x5 x6 x7 x8 x9 x10 x11 x12 x13 x14 : Option V} {v : V} {r : L2.St} (q : Q v H) : tVar 15 (x0 :: x1 :: x2 :: x3 :: x4 :: x5 :: x6 :: x7 :: x8 :: x9 :: x10 :: x11 :: x12 :: x13 :: x14 :: some v :: r) H Q := ⟨v, rfl, q⟩
theorem w_n15 {x0 x1 x2 x3 x4 x5 x6 x7 x8 x9 x10 x11 x12 x13 x14 : Option V} {y : Option V} {v : V} {r : L2.St} {Q : L2.St → Hp → Prop} (q : Q (x0 :: x1 :: x2 :: x3 :: x4 :: x5 :: x6 :: x7 :: x8 :: x9 :: x10 :: x11 :: x12 :: x13 :: x14 :: some v :: r) H) : gName 15 v (x0 :: x1 :: x2 :: x3 :: x4 :: x5 :: x6 :: x7 :: x8 :: x9 :: x10 :: x11 :: x12 :: x13 :: x14 :: y :: r) H Q := q
theorem w_v16 {x0 x1 x2 x3 x4 x5 x6 x7 x8 x9 x10 x11 x12 x13 x14 x15 : Option V} {v : V} {r : L2.St} (q : Q v H) : tVar 16 (x0 :: x1 :: x2 :: x3 :: x4 :: x5 :: x6 :: x7 :: x8 :: x9 :: x10 :: x11 :: x12 :: x13 :: x14 :: x15 :: some v :: r) H Q := ⟨v, rfl, q⟩
theorem w_n16 {x0 x1 x2 x3 x4 x5 x6 x7 x8 x9 x10 x11 x12 x13 x14 x15 : Option V} {y : Option V} {v : V} {r : L2.St} {Q : L2.St → Hp → Prop} (q : Q (x0 :: x1 :: x2 :: x3 :: x4 :: x5 :: x6 :: x7 :: x8 :: x9 :: x10 :: x11 :: x12 :: x13 :: x14 :: x15 :: some v :: r) H) : gName 16 v (x0 :: x1 :: x2 :: x3 :: x4 :: x5 :: x6 :: x7 :: x8 :: x9 :: x10 :: x11 :: x12 :: x13 :: x14 :: x15 :: y :: r) H Q := q
theorem w_v17 {x0 x1 x2 x3 x4 x5 x6 x7 x8 x9 x10 x11 x12 x13 x14 x15 x16 : Option V} {v : V} {r : L2.St} (q : Q v H) : tVar 17 (x0 :: x1 :: x2 :: x3 :: x4 :: x5 :: x6 :: x7 :: x8 :: x9 :: x10 :: x11 :: x12 :: x13 :: x14 :: x15 :: x16 :: some v :: r) H Q := ⟨v, rfl, q⟩
theorem w_n17 {x0 x1 x2 x3 x4 x5 x6 x7 x8 x9 x10 x11 x12 x13 x14 x15 x16 : Option V} {y : Option V} {v : V} {r : L2.St} {Q : L2.St → Hp → Prop} (q : Q (x0 :: x1 :: x2 :: x3 :: x4 :: x5 :: x6 :: x7 :: x8 :: x9 :: x10 :: x11 :: x12 :: x13 :: x14 :: x15 :: x16 :: some v :: r) H) : gName 17 v (x0 :: x1 :: x2 :: x3 :: x4 :: x5 :: x6 :: x7 :: x8 :: x9 :: x10 :: x11 :: x12 :: x13 :: x14 :: x15 :: x16 :: y :: r) H Q := q
theorem w_v18 {x0 x1 x2 x3 x4 x5 x6 x7 x8 x9 x10 x11 x12 x13 x14 x15 x16 x17 : Option V} {v : V} {r : L2.St} (q : Q v H) : tVar 18 (x0 :: x1 :: x2 :: x3 :: x4 :: x5 :: x6 :: x7 :: x8 :: x9 :: x10 :: x11 :: x12 :: x13 :: x14 :: x15 :: x16 :: x17 :: some v :: r) H Q := ⟨v, rfl, q⟩
theorem w_n18 {x0 x1 x2 x3 x4 x5 x6 x7 x8 x9 x10 x11 x12 x13 x14 x15 x16 x17 : Option V} {y : Option V} {v : V} {r : L2.St} {Q : L2.St → Hp → Prop} (q : Q (x0 :: x1 :: x2 :: x3 :: x4 :: x5 :: x6 :: x7 :: x8 :: x9 :: x10 :: x11 :: x12 :: x13 :: x14 :: x15 :: x16 :: x17 :: some v :: r) H) : gName 18 v (x0 :: x1 :: x2 :: x3 :: x4 :: x5 :: x6 :: x7 :: x8 :: x9 :: x10 :: x11 :: x12 :: x13 :: x14 :: x15 :: x16 :: x17 :: y :: r) H Q := q
theorem w_v19 {x0 x1 x2 x3 x4 x5 x6 x7 x8 x9 x10 x11 x12 x13 x14 x15 x16 x17 x18 : Option V} {v : V} {r : L2.St} (q : Q v H) : tVar 19 (x0 :: x1 :: x2 :: x3 :: x4 :: x5 :: x6 :: x7 :: x8 :: x9 :: x10 :: x11 :: x12 :: x13 :: x14 :: x15 :: x16 :: x17 :: x18 :: some v :: r) H Q := ⟨v, rfl, q⟩
theorem w_n19 {x0 x1 x2 x3 x4 x5 x6 x7 x8 x9 x10 x11 x12 x13 x14 x15 x16 x17 x18 : Option V} {y : Option V} {v : V} {r : L2.St} {Q : L2.St → Hp → Prop} (q : Q (x0 :: x1 :: x2 :: x3 :: x4 :: x5 :: x6 :: x7 :: x8 :: x9 :: x10 :: x11 :: x12 :: x13 :: x14 :: x15 :: x16 :: x17 :: x18 :: some v :: r) H) : gName 19 v (x0 :: x1 :: x2 :: x3 :: x4 :: x5 :: x6 :: x7 :: x8 :: x9 :: x10 :: x11 :: x12 :: x13 :: x14 :: x15 :: x16 :: x17 :: x18 :: y :: r) H Q := q
theorem w_v20 {x0 x1 x2 x3 x4 x5 x6 x7 x8 x9 x10 x11 x12 x13 x14 x15 x16 x17 x18 x19 : Option V} {v : V} {r : L2.St} (q : Q v H) : tVar 20 (x0 :: x1 :: x2 :: x3 :: x4 :: x5 :: x6 :: x7 :: x8 :: x9 :: x10 :: x11 :: x12 :: x13 :: x14 :: x15 :: x16 :: x17 :: x18 :: x19 :: some v :: r) H Q := ⟨v, rfl, q⟩
theorem w_n20 {x0 x1 x2 x3 x4 x5 x6 x7 x8 x9 x10 x11 x12 x13 x14 x15 x16 x17 x18 x19 : Option V} {y : Option V} {v : V} {r : L2.St} {Q : L2.St → Hp → Prop} (q : Q (x0 :: x1 :: x2 :: x3 :: x4 :: x5 :: x6 :: x7 :: x8 :: x9 :: x10 :: x11 :: x12 :: x13 :: x14 :: x15 :: x16 :: x17 :: x18 :: x19 :: some v :: r) H) : gName 20 v (x0 :: x1 :: x2 :: x3 :: x4 :: x5 :: x6 :: x7 :: x8 :: x9 :: x10 :: x11 :: x12 :: x13 :: x14 :: x15 :: x16 :: x17 :: x18 :: x19 :: y :: r) H Q := q
theorem w_v21 {x0 x1 x2 x3 x4 x5 x6 x7 x8 x9 x10 x11 x12 x13 x14 x15 x16 x17 x18 x19 x20 : Option V} {v : V} {r : L2.St} (q : Q v H) : tVar 21 (x0 :: x1 :: x2 :: x3 :: x4 :: x5 :: x6 :: x7 :: x8 :: x9 :: x10 :: x11 :: x12 :: x13 :: x14 :: x15 :: x16 :: x17 :: x18 :: x19 :: x20 :: some v :: r) H Q := ⟨v, rfl, q⟩
theorem w_n21 {x0 x1 x2 x3 x4 x5 x6 x7 x8 x9 x10 x11 x12 x13 x14 x15 x16 x17 x18 x19 x20 : Option V} {y : Option V} {v : V} {r : L2.St} {Q : L2.St → Hp → Prop} (q : Q (x0 :: x1 :: x2 :: x3 :: x4 :: x5 :: x6 :: x7 :: x8 :: x9 :: x10 :: x11 :: x12 :: x13 :: x14 :: x15 :: x16 :: x17 :: x18 :: x19 :: x20 :: some v :: r) H) : gName 21 v (x0 :: x1 :: x2 :: x3 :: x4 :: x5 :: x6 :: x7 :: x8 :: x9 :: x10 :: x11 :: x12 :: x13 :: x14 :: x15 :: x16 :: x17 :: x18 :: x19 :: x20 :: y :: r) H Q := q
theorem w_v22 {x0 x1 x2 x3 x4 x5 x6 x7 x8 x9 x10 x11 x12 x13 x14 x15 x16 x17 x18 x19 x20 x21 : Option V} {v : V} {r : L2.St} (q : Q v H) : tVar 22 (x0 :: x1 :: x2 :: x3 :: x4 :: x5 :: x6 :: x7 :: x8 :: x9 :: x10 :: x11 :: x12 :: x13 :: x14 :: x15 :: x16 :: x17 :: x18 :: x19 :: x20 :: x21 :: some v :: r) H Q := ⟨v, rfl, q⟩
theorem w_n22 {x0 x1 x2 x3 x4 x5 x6 x7 x8 x9 x10 x11 x12 x13 x14 x15 x16 x17 x18 x19 x20 x21 : Option V} {y : Option V} {v : V} {r : L2.St} {Q : L2.St → Hp → Prop} (q : Q (x0 :: x1 :: x2 :: x3 :: x4 :: x5 :: x6 :: x7 :: x8 :: x9 :: x10 :: x11 :: x12 :: x13 :: x14 :: x15 :: x16 :: x17 :: x18 :: x19 :: x20 :: x21 :: some v :: r) H) : gName 22 v (x0 :: x1 :: x2 :: x3 :: x4 :: x5 :: x6 :: x7 :: x8 :: x9 :: x10 :: x11 :: x12 :: x13 :: x14 :: x15 :: x16 :: x17 :: x18 :: x19 :: x20 :: x21 :: y :: r) H Q := q
theorem w_v23 {x0 x1 x2 x3 x4 x5 x6 x7 x8 x9 x10 x11 x12 x13 x14 x15 x16 x17 x18 x19 x20 x21 x22 : Option V} {v : V} {r : L2.St} (q : Q v H) : tVar 23 (x0 :: x1 :: x2 :: x3 :: x4 :: x5 :: x6 :: x7 :: x8 :: x9 :: x10 :: x11 :: x12 :: x13 :: x14 :: x15 :: x16 :: x17 :: x18 :: x19 :: x20 :: x21 :: x22 :: some v :: r) H Q := ⟨v, rfl, q⟩
theorem w_n23 {x0 x1 x2 x3 x4 x5 x6 x7 x8 x9 x10 x11 x12 x13 x14 x15 x16 x17 x18 x19 x20 x21 x22 : Option V} {y : Option V} {v : V} {r : L2.St} {Q : L2.St → Hp → Prop} (q : Q (x0 :: x1 :: x2 :: x3 :: x4 :: x5 :: x6 :: x7 :: x8 :: x9 :: x10 :: x11 :: x12 :: x13 :: x14 :: x15 :: x16 :: x17 :: x18 :: x19 :: x20 :: x21 :: x22 :: some v :: r) H) : gName 23 v (x0 :: x1 :: x2 :: x3 :: x4 :: x5 :: x6 :: x7 :: x8 :: x9 :: x10 :: x11 :: x12 :: x13 :: x14 :: x15 :: x16 :: x17 :: x18 :: x19 :: x20 :: x21 :: x22 :: y :: r) H Q := q
theorem w_v24 {x0 x1 x2 x3 x4 x5 x6 x7 x8 x9 x10 x11 x12 x13 x14 x15 x16 x17 x18 x19 x20 x21 x22 x23 : Option V} {v : V} {r : L2.St} (q : Q v H) : tVar 24 (x0 :: x1 :: x2 :: x3 :: x4 :: x5 :: x6 :: x7 :: x8 :: x9 :: x10 :: x11 :: x12 :: x13 :: x14 :: x15 :: x16 :: x17 :: x18 :: x19 :: x20 :: x21 :: x22 :: x23 :: some v :: r) H Q := ⟨v, rfl, q⟩
theorem w_n24 {x0 x1 x2 x3 x4 x5 x6 x7 x8 x9 x10 x11 x12 x13 x14 x15 x16 x17 x18 x19 x20 x21 x22 x23 : Option V} {y : Option V} {v : V} {r : L2.St} {Q : L2.St → Hp → Prop} (q : Q (x0 :: x1 :: x2 :: x3 :: x4 :: x5 :: x6 :: x7 :: x8 :: x9 :: x10 :: x11 :: x12 :: x13 :: x14 :: x15 :: x16 :: x17 :: x18 :: x19 :: x20 :: x21 :: x22 :: x23 :: some v :: r) H) : gName 24 v (x0 :: x1 :: x2 :: x3 :: x4 :: x5 :: x6 :: x7 :: x8 :: x9 :: x10 :: x11 :: x12 :: x13 :: x14 :: x15 :: x16 :: x17 :: x18 :: x19 :: x20 :: x21 :: x22 :: x23 :: y :: r) H Q := q
theorem w_v25 {x0 x1 x2 x3 x4 x5 x6 x7 x8 x9 x10 x11 x12 x13 x14 x15 x16 x17 x18 x19 x20 x21 x22 x23 x24 : Option V} {v : V} {r : L2.St} (q : Q v H) : tVar 25 (x0 :: x1 :: x2 :: x3 :: x4 :: x5 :: x6 :: x7 :: x8 :: x9 :: x10 :: x11 :: x12 :: x13 :: x14 :: x15 :: x16 :: x17 :: x18 :: x19 :: x20 :: x21 :: x22 :: x23 :: x24 :: some v :: r) H Q := ⟨v, rfl, q⟩
theorem w_n25 {x0 x1 x2 x3 x4 x5 x6 x7 x8 x9 x10 x11 x12 x13 x14 x15 x16 x17 x18 x19 x20 x21 x22 x23 x24 : Option V} {y : Option V} {v : V} {r : L2.St} {Q : L2.St → Hp → Prop} (q : Q (x0 :: x1 :: x2 :: x3 :: x4 :: x5 :: x6 :: x7 :: x8 :: x9 :: x10 :: x11 :: x12 :: x13 :: x14 :: x15 :: x16 :: x17 :: x18 :: x19 :: x20 :: x21 :: x22 :: x23 :: x24 :: some v :: r) H) : gName 25 v (x0 :: x1 :: x2 :: x3 :: x4 :: x5 :: x6 :: x7 :: x8 :: x9 :: x10 :: x11 :: x12 :: x13 :: x14 :: x15 :: x16 :: x17 :: x18 :: x19 :: x20 :: x21 :: x22 :: x23 :: x24 :: y :: r) H Q := q
theorem w_v26 {x0 x1 x2 x3 x4 x5 x6 x7 x8 x9 x10 x11 x12 x13 x14 x15 x16 x17 x18 x19 x20 x21 x22 x23 x24 x25 : Option V} {v : V} {r : L2.St} (q : Q v H) : tVar 26 (x0 :: x1 :: x2 :: x3 :: x4 :: x5 :: x6 :: x7 :: x8 :: x9 :: x10 :: x11 :: x12 :: x13 :: x14 :: x15 :: x16 :: x17 :: x18 :: x19 :: x20 :: x21 :: x22 :: x23 :: x24 :: x25 :: some v :: r) H Q := ⟨v, rfl, q⟩
theorem w_n26 {x0 x1 x2 x3 x4 x5 x6 x7 x8 x9 x10 x11 x12 x13 x14 x15 x16 x17 x18 x19 x20 x21 x22 x23 x24 x25 : Option V} {y : Option V} {v : V} {r : L2.St} {Q : L2.St → Hp → Prop} (q : Q (x0 :: x1 :: x2 :: x3 :: x4 :: x5 :: x6 :: x7 :: x8 :: x9 :: x10 :: x11 :: x12 :: x13 :: x14 :: x15 :: x16 :: x17 :: x18 :: x19 :: x20 :: x21 :: x22 :: x23 :: x24 :: x25 :: some v :: r) H) : gName 26 v (x0 :: x1 :: x2 :: x3 :: x4 :: x5 :: x6 :: x7 :: x8 :: x9 :: x10 :: x11 :: x12 :: x13 :: x14 :: x15 :: x16 :: x17 :: x18 :: x19 :: x20 :: x21 :: x22 :: x23 :: x24 :: x25 :: y :: r) H Q := q
theorem w_v27 {x0 x1 x2 x3 x4 x5 x6 x7 x8 x9 x10 x11 x12 x13 x14 x15 x16 x17 x18 x19 x20 x21 x22 x23 x24 x25 x26 : Option V} {v : V} {r : L2.St} (q : Q v H) : tVar 27 (x0 :: x1 :: x2 :: x3 :: x4 :: x5 :: x6 :: x7 :: x8 :: x9 :: x10 :: x11 :: x12 :: x13 :: x14 :: x15 :: x16 :: x17 :: x18 :: x19 :: x20 :: x21 :: x22 :: x23 :: x24 :: x25 :: x26 :: some v :: r) H Q := ⟨v, rfl, q⟩
theorem w_n27 {x0 x1 x2 x3 x4 x5 x6 x7 x8 x9 x10 x11 x12 x13 x14 x15 x16 x17 x18 x19 x20 x21 x22 x23 x24 x25 x26 : Option V} {y : Option V} {v : V} {r : L2.St} {Q : L2.St → Hp → Prop} (q : Q (x0 :: x1 :: x2 :: x3 :: x4 :: x5 :: x6 :: x7 :: x8 :: x9 :: x10 :: x11 :: x12 :: x13 :: x14 :: x15 :: x16 :: x17 :: x18 :: x19 :: x20 :: x21 :: x22 :: x23 :: x24 :: x25 :: x26 :: some v :: r) H) : gName 27 v (x0 :: x1 :: x2 :: x3 :: x4 :: x5 :: x6 :: x7 :: x8 :: x9 :: x10 :: x11 :: x12 :: x13 :: x14 :: x15 :: x16 :: x17 :: x18 :: x19 :: x20 :: x21 :: x22 :: x23 :: x24 :: x25 :: x26 :: y :: r) H Q := q
theorem w_v28 {x0 x1 x2 x3 x4 x5 x6 x7 x8 x9 x10 x11 x12 x13 x14 x15 x16 x17 x18 x19 x20 x21 x22 x23 x24 x25 x26 x27 : Option V} {v : V} {r : L2.St} (q : Q v H) : tVar 28 (x0 :: x1 :: x2 :: x3 :: x4 :: x5 :: x6 :: x7 :: x8 :: x9 :: x10 :: x11 :: x12 :: x13 :: x14 :: x15 :: x16 :: x17 :: x18 :: x19 :: x20 :: x21 :: x22 :: x23 :: x24 :: x25 :: x26 :: x27 :: some v :: r) H Q := ⟨v, rfl, q⟩
theorem w_n28 {x0 x1 x2 x3 x4 x5 x6 x7 x8 x9 x10 x11 x12 x13 x14 x15 x16 x17 x18 x19 x20 x21 x22 x23 x24 x25 x26 x27 : Option V} {y : Option V} {v : V} {r : L2.St} {Q : L2.St → Hp → Prop} (q : Q (x0 :: x1 :: x2 :: x3 :: x4 :: x5 :: x6 :: x7 :: x8 :: x9 :: x10 :: x11 :: x12 :: x13 :: x14 :: x15 :: x16 :: x17 :: x18 :: x19 :: x20 :: x21 :: x22 :: x23 :: x24 :: x25 :: x26 :: x27 :: some v :: r) H) : gName 28 v (x0 :: x1 :: x2 :: x3 :: x4 :: x5 :: x6 :: x7 :: x8 :: x9 :: x10 :: x11 :: x12 :: x13 :: x14 :: x15 :: x16 :: x17 :: x18 :: x19 :: x20 :: x21 :: x22 :: x23 :: x24 :: x25 :: x26 :: x27 :: y :: r) H Q := q
theorem w_v29 {x0 x1 x2 x3 x4 x5 x6 x7 x8 x9 x10 x11 x12 x13 x14 x15 x16 x17 x18 x19 x20 x21 x22 x23 x24 x25 x26 x27 x28 : Option V} {v : V} {r : L2.St} (q : Q v H) : tVar 29 (x0 :: x1 :: x2 :: x3 :: x4 :: x5 :: x6 :: x7 :: x8 :: x9 :: x10 :: x11 :: x12 :: x13 :: x14 :: x15 :: x16 :: x17 :: x18 :: x19 :: x20 :: x21 :: x22 :: x23 :: x24 :: x25 :: x26 :: x27 :: x28 :: some v :: r) H Q := ⟨v, rfl, q⟩
theorem w_n29 {x0 x1 x2 x3 x4 x5 x6 x7 x8 x9 x10 x11 x12 x13 x14 x15 x16 x17 x18 x19 x20 x21 x22 x23 x24 x25 x26 x27 x28 : Option V} {y : Option V} {v : V} {r : L2.St} {Q : L2.St → Hp → Prop} (q : Q (x0 :: x1 :: x2 :: x3 :: x4 :: x5 :: x6 :: x7 :: x8 :: x9 :: x10 :: x11 :: x12 :: x13 :: x14 :: x15 :: x16 :: x17 :: x18 :: x19 :: x20 :: x21 :: x22 :: x23 :: x24 :: x25 :: x26 :: x27 :: x28 :: some v :: r) H) : gName 29 v (x0 :: x1 :: x2 :: x3 :: x4 :: x5 :: x6 :: x7 :: x8 :: x9 :: x10 :: x11 :: x12 :: x13 :: x14 :: x15 :: x16 :: x17 :: x18 :: x19 :: x20 :: x21 :: x22 :: x23 :: x24 :: x25 :: x26 :: x27 :: x28 :: y :: r) H Q := q
theorem w_v30 {x0 x1 x2 x3 x4 x5 x6 x7 x8 x9 x10 x11 x12 x13 x14 x15 x16 x17 x18 x19 x20 x21 x22 x23 x24 x25 x26 x27 x28 x29 : Option V} {v : V} {r : L2.St} (q : Q v H) : tVar 30 (x0 :: x1 :: x2 :: x3 :: x4 :: x5 :: x6 :: x7 :: x8 :: x9 :: x10 :: x11 :: x12 :: x13 :: x14 :: x15 :: x16 :: x17 :: x18 :: x19 :: x20 :: x21 :: x22 :: x23 :: x24 :: x25 :: x26 :: x27 :: x28 :: x29 :: some v :: r) H Q := ⟨v, rfl, q⟩
theorem w_n30 {x0 x1 x2 x3 x4 x5 x6 x7 x8 x9 x10 x11 x12 x13 x14 x15 x16 x17 x18 x19 x20 x21 x22 x23 x24 x25 x26 x27 x28 x29 : Option V} {y : Option V} {v : V} {r : L2.St} {Q : L2.St → Hp → Prop} (q : Q (x0 :: x1 :: x2 :: x3 :: x4 :: x5 :: x6 :: x7 :: x8 :: x9 :: x10 :: x11 :: x12 :: x13 :: x14 :: x15 :: x16 :: x17 :: x18 :: x19 :: x20 :: x21 :: x22 :: x23 :: x24 :: x25 :: x26 :: x27 :: x28 :: x29 :: some v :: r) H) : gName 30 v (x0 :: x1 :: x2 :: x3 :: x4 :: x5 :: x6 :: x7 :: x8 :: x9 :: x10 :: x11 :: x12 :: x13 :: x14 :: x15 :: x16 :: x17 :: x18 :: x19 :: x20 :: x21 :: x22 :: x23 :: x24 :: x25 :: x26 :: x27 :: x28 :: x29 :: y :: r) H Q := q
theorem w_v31 {x0 x1 x2 x3 x4 x5 x6 x7 x8 x9 x10 x11 x12 x13 x14 x15 x16 x17 x18 x19 x20 x21 x22 x23 x24 x25 x26 x27 x28 x29 x30 : Option V} {v : V} {r : L2.St} (q : Q v H) : tVar 31 (x0 :: x1 :: x2 :: x3 :: x4 :: x5 :: x6 :: x7 :: x8 :: x9 :: x10 :: x11 :: x12 :: x13 :: x14 :: x15 :: x16 :: x17 :: x18 :: x19 :: x20 :: x21 :: x22 :: x23 :: x24 :: x25 :: x26 :: x27 :: x28 :: x29 :: x30 :: some v :: r) H Q := ⟨v, rfl, q⟩
theorem w_n31 {x0 x1 x2 x3 x4 x5 x6 x7 x8 x9 x10 x11 x12 x13 x14 x15 x16 x17 x18 x19 x20 x21 x22 x23 x24 x25 x26 x27 x28 x29 x30 : Option V} {y : Option V} {v : V} {r : L2.St} {Q : L2.St → Hp → Prop} (q : Q (x0 :: x1 :: x2 :: x3 :: x4 :: x5 :: x6 :: x7 :: x8 :: x9 :: x10 :: x11 :: x12 :: x13 :: x14 :: x15 :: x16 :: x17 :: x18 :: x19 :: x20 :: x21 :: x22 :: x23 :: x24 :: x25 :: x26 :: x27 :: x28 :: x29 :: x30 :: some v :: r) H) : gName 31 v (x0 :: x1 :: x2 :: x3 :: x4 :: x5 :: x6 :: x7 :: x8 :: x9 :: x10 :: x11 :: x12 :: x13 :: x14 :: x15 :: x16 :: x17 :: x18 :: x19 :: x20 :: x21 :: x22 :: x23 :: x24 :: x25 :: x26 :: x27 :: x28 :: x29 :: x30 :: y :: r) H Q := q
theorem w_op (q : ta σ H fun x H1 => tb σ H1 fun y H2 => r x y H2 Q) : tOp r ta tb σ H Q := q
theorem w_un {r : V → Hp → VK → Prop} (q : ta σ H fun x H1 => r x H1 Q) : tUn r ta σ H Q := q
theorem w_chain {r' : R2} (q : ta σ H fun x H1 => tb σ H1 fun y H2 => r x y H2 fun z H3 => ∃ k, z = .bl k ∧ (if k = true then tc σ H3 fun w' H4 => r' y w' H4 Q else Q (.bl false) H3)) : tChain r r' ta tb tc σ H Q := q
theorem w_I {CC : Int → Int → Prop} {g : Int → Int → V} {i j : Int} (c : CC i j) (q : Q (g i j) H) : rI CC g (.int i) (.int j) H Q := ⟨i, j, rfl, rfl, c, q⟩
theorem w_I0 {g : Int → Int → V} {i j : Int} (q : Q (g i j) H) : rI0 g (.int i) (.int j) H Q := ⟨i, j, rfl, rfl, q⟩
theorem w_U {g : Int → V} {i : Int} (q : Q (g i) H) : rU g (.int i) H Q := ⟨i, rfl, q⟩
theorem w_eqI {i j : Int} (q : Q (.bl (decide (i = j))) H) : rEq (.int i) (.int j) H Q := by
  refine ⟨rfl, ?_⟩
  have e : decide (V.int i = V.int j) = decide (i = j) := by
    by_cases h : i = j
    · rw [h]; simp
    · rw [decide_eq_false h, decide_eq_false (fun z => h (V.int.inj z))]
  rw [e]; exact q
theorem w_neI {i j : Int} (q : Q (.bl (!decide (i = j))) H) : rNe (.int i) (.int j) H Q := by
  refine ⟨rfl, ?_⟩
  have e : decide (V.int i = V.int j) = decide (i = j) := by
    by_cases h : i = j
    · rw [h]; simp
    · rw [decide_eq_false h, decide_eq_false (fun z => h (V.int.inj z))]
  rw [e]; exact q
theorem w_eqB {i j : Bool} (q : Q (.bl (decide (i = j))) H) : rEq (.bl i) (.bl j) H Q := by
  refine ⟨rfl, ?_⟩
  have e : decide (V.bl i = V.bl j) = decide (i = j) := by
    by_cases h : i = j
    · rw [h]; simp
    · rw [decide_eq_false h, decide_eq_false (fun z => h (V.bl.inj z))]
  rw [e]; exact q
theorem w_neB {i j : Bool} (q : Q (.bl (!decide (i = j))) H) : rNe (.bl i) (.bl j) H Q := by
  refine ⟨rfl, ?_⟩
  have e : decide (V.bl i = V.bl j) = decide (i = j) := by
    by_cases h : i = j
    · rw [h]; simp
    · rw [decide_eq_false h, decide_eq_false (fun z => h (V.bl.inj z))]
  rw [e]; exact q
theorem w_eqS {i j : Str} (q : Q (.bl (decide (i = j))) H) : rEq (.str i) (.str j) H Q := by
  refine ⟨rfl, ?_⟩
  have e : decide (V.str i = V.str j) = decide (i = j) := by
    by_cases h : i = j
    · rw [h]; simp
    · rw [decide_eq_false h, decide_eq_false (fun z => h (V.str.inj z))]
  rw [e]; exact q
theorem w_test {Q : Bool → Hp → Prop} (q : te σ H fun x H' => ∃ k, x = .bl k ∧ Q k H') : tTest te σ H Q := q
theorem w_B {Q : Bool → Hp → Prop} (q : te σ H fun x H' => ∃ k, x = .bl k ∧ Q k H') : tB te σ H Q := q
theorem w_exb {b : Bool} {P : Bool → Prop} (q : P b) : ∃ k, V.bl b = .bl k ∧ P k := ⟨b, rfl, q⟩
theorem w_exi {i : Int} {P : Int → Prop} (q : P i) : ∃ k, V.int i = .int k ∧ P k := ⟨i, rfl, q⟩
theorem w_exr {a : Addr} {P : Addr → Prop} (q : P a) : ∃ k, V.ref a = .ref k ∧ P k := ⟨a, rfl, q⟩
theorem w_and {Q : Bool → Hp → Prop} (q : tt σ H fun c H1 => if c = true then tu σ H1 Q else Q false H1) : tAnd tt tu σ H Q := q
theorem w_or {Q : Bool → Hp → Prop} (q : tt σ H fun c H1 => if c = true then Q true H1 else tu σ H1 Q) : tOr tt tu σ H Q := q
theorem w_not {Q : Bool → Hp → Prop} (q : tt σ H fun c H1 => Q (!c) H1) : tNot tt σ H Q := q
theorem w_andV (q : ta σ H fun x H1 => ∃ c, x = .bl c ∧ if c = true then tb σ H1 Q else Q (.bl false) H1) : tAndV ta tb σ H Q := q
theorem w_orV (q : ta σ H fun x H1 => ∃ c, x = .bl c ∧ if c = true then Q (.bl true) H1 else tb σ H1 Q) : tOrV ta tb σ H Q := q
theorem w_notV (q : ta σ H fun x H1 => ∃ c, x = .bl c ∧ Q (.bl (!c)) H1) : tNotV ta σ H Q := q
/-- what evaluates to one value, whatever follows -/
theorem w_val (v : V) (hE : ∀ Q : VK, Q v H → te σ H Q) (q : Q v H) : te σ H Q := hE Q q
theorem w_if (q : tt σ H fun c H1 => if c = true then ta σ H1 Q else tb σ H1 Q) : tIf tt ta tb σ H Q := q
theorem w_nil {Q : List V → Hp → Prop} (q : Q [] H) : tNil σ H Q := q
theorem w_cons {tr : TA} {Q : List V → Hp → Prop} (q : ta σ H fun x H1 => tr σ H1 fun xs H2 => Q (x :: xs) H2) : tCons ta tr σ H Q := q
theorem w_call {sp : Sp} {E : XK} {t : TA} (q : t σ H fun vs H1 => sp (vs ++ []) H1 Q E) : tCall sp [] E t σ H Q := q
theorem w_callK {sp : Sp} {gV : List V → List V → List V} {E : XK} {t tk : TA} (q : t σ H fun vs H1 => tk σ H1 fun zs H2 => sp (gV vs zs) H2 Q E) : tCallK sp gV E t tk σ H Q := q
theorem w_make {sp : Sp} {E : XK} {t : TA} (q : t σ H fun vs H1 => ∀ x dx, H1 x = none → H1 dx = none → dx ≠ x → sp (.ref x :: (vs ++ [])) (upd (upd H1 dx (.own x)) x (.ins C dx [])) (fun v H2 => v = .non ∧ Q (.ref x) H2) E) : tMake C sp [] E t σ H Q := q
theorem w_cb {r : List V → Hp → VK → Prop} {t : TA} (q : t σ H fun vs H1 => r vs H1 Q) : tCB r t σ H Q := q
theorem w_int {i : Int} (q : Q (.int i) H) : rIntC [.int i] H Q := .inl ⟨i, rfl, q⟩
theorem w_intB {i : Bool} (q : Q (.int (if i then 1 else 0)) H) : rIntC [.bl i] H Q := .inr ⟨i, rfl, q⟩
theorem w_isNn (q : Q (.bl true) H) : rIsNn .non .non H Q := ⟨rfl, q⟩
theorem w_isNi {i : Int} (q : Q (.bl false) H) : rIsNn (.int i) .non H Q := ⟨rfl, q⟩
theorem w_abs {i : Int} (q : Q (.int (ab i)) H) : rAbsC [.int i] H Q := ⟨i, rfl, q⟩
theorem w_bits {to : TE} (q : to σ H fun x H1 => ∃ i, x = .int i ∧ Q (.int (Builtin.Int.intBits i : Nat)) H1) : tBits to σ H Q := q
theorem w_ixL {p : Addr} {xs : List V} {i : Int} {v : V} (h : H p = some (.lst xs)) (e : atI xs i = some v) (q : Q v H) : rIxL K (.ref p) (.int i) H Q := ⟨p, xs, i, v, rfl, rfl, SqL.of h, e, q⟩
theorem w_ixT {p : Addr} {xs : List V} {i : Int} {v : V} (h : H p = some (.tup xs)) (e : atI xs i = some v) (q : Q v H) : rIxT K (.ref p) (.int i) H Q := ⟨p, xs, i, v, rfl, rfl, SqT.of h, e, q⟩
theorem w_setL {p : Addr} {xs : List V} {i : Int} {v : V} {j : Nat} {Q : Hp → Prop} (h : H p = some (.lst xs)) (e : ixN xs.length i = some j) (q : Q (upd H p (.lst (xs.set j v)))) : rSetL (.ref p) (.int i) v H Q := ⟨p, xs, i, j, rfl, rfl, h, e, q⟩
theorem w_sl {r : V → Option Int → Option Int → Hp → VK → Prop} {tl th : TO} (q : te σ H fun x H1 => tl σ H1 fun l H2 => th σ H2 fun u H3 => r x l u H3 Q) : L2.tSl r te tl th σ H Q := q
theorem w_part {Q : Option Int → Hp → Prop} (q : te σ H fun x H1 => ∃ i, x = .int i ∧ Q (some i) H1) : tPart te σ H Q := q
theorem w_nopart {Q : Option Int → Hp → Prop} (q : Q none H) : tNoPart σ H Q := q
theorem w_slL {a : Addr} {xs : List V} {lo hi : Option Int} (h : SqL K H a xs) (q : ∀ p, H p = none → Q (.ref p) (upd H p (.lst (cutV xs lo hi)))) : rSlL K (.ref a) lo hi H Q := ⟨a, xs, rfl, h, q⟩
theorem w_lst {t : TA} (q : t σ H fun xs H1 => xs.length ≤ sizeLine ∧ ∀ p, H1 p = none → Q (.ref p) (upd H1 p (.lst xs))) : tLst t σ H Q := q
theorem w_tup {t : TA} (q : t σ H fun xs H1 => xs.length ≤ sizeLine ∧ ∀ p, H1 p = none → Q (.ref p) (upd H1 p (.tup xs))) : tTup t σ H Q := q
theorem w_cat {l b : Addr} {xs zs : List V} (h1 : H l = some (.lst xs)) (h2 : H b = some (.lst zs)) (n : xs.length + zs.length ≤ sizeLine) (q : ∀ p, H p = none → Q (.ref p) (upd H p (.lst (xs ++ zs)))) : rCat (.ref l) (.ref b) H Q := ⟨l, b, xs, zs, rfl, rfl, h1, h2, n, q⟩
theorem w_dnewK (q : ∀ d, H d = none → Q (.ref d) (upd H d (.dK []))) : tDNewK σ H Q := q
theorem w_eqNil {p q : Addr} (hp : H p = some (.lst [])) (hq : H q = some (.lst [])) (k : Q (.bl true) H) : rEqD K (.ref p) (.ref q) H Q := ⟨.list [], .list [], .lst (SqL.of hp) .nil, .lst (SqL.of hq) .nil, by decide, by decide, k⟩
theorem w_wipe1 {g : TG} {v : V} {vs : List Nat} {σ' : L2.St} {Q : L2.St → Hp → Prop} (e : wipe σ vs = σ') (q : g v σ' H Q) : g v (wipe σ vs) H Q := by rw [e]; exact q
theorem w_inT {p : Addr} {x : V} {xs : List V} (h : SqT K H p xs) (f1 : flatV x = true) (f2 : xs.all flatV = true) (q : Q (.bl (inV x xs)) H) : rIn K false x (.ref p) H Q := ⟨p, xs, rfl, .inr h, f1, f2, q⟩
theorem w_meth0 {C : Addr} {m : Str} {sp : Sp} {E : XK} (q : ta σ H fun x H1 => ∃ a dx fs, x = .ref a ∧ H1 a = some (.ins C dx fs) ∧ fs.lookup m = none ∧ sp (x :: ([] ++ [])) H1 Q E) : tMeth C m sp [] E ta tNil σ H Q := q
theorem w_par {i j : Nat} {t : TA} (q : t σ H fun vs H1 => ∃ v w, vs = [v, w] ∧ D.nx ((σ.set i (some v)).set j (some w)) H1) : tPar i j t D σ H := q
theorem w_exvw {a c : V} {P : V → V → Prop} (q : P a c) : ∃ v w, [a, c] = [v, w] ∧ P v w := ⟨a, c, rfl, q⟩
theorem w_while {tc : TT} {tb : TS} (W : Nat → L2.St → Hp → Prop) (m0 : Nat) (h0 : W m0 σ H) (hs : ∀ m σ H, W m σ H → tc σ H fun b H1 => if b = true then ∃ N : L2.St → Hp → Prop, (∀ σ' H', N σ' H' → ∃ m', m' < m ∧ W m' σ' H') ∧ tb { D with nx := N, ct := N, bk := D.nx } σ H1 else D.nx σ H1) : tWhile tc tb D σ H := ⟨W, ⟨m0, h0⟩, hs⟩
theorem w_rep {l : Addr} {k : Int} {xs : List V} (h : H l = some (.lst xs)) (k0 : 0 ≤ k) (k1 : k ≤ 1000) (n : xs.length * k.toNat ≤ sizeLine) (q : ∀ p, H p = none → Q (.ref p) (upd H p (.lst (List.replicate k.toNat xs).flatten))) : rRep (.ref l) (.int k) H Q := ⟨l, k, xs, rfl, rfl, h, by omega, by omega, n, q⟩
theorem w_dget {td ty : TE} (q : td σ H fun x H1 => ty σ H1 fun y H2 => ∃ a v, x = .ref a ∧ DGet H2 a y (some v) ∧ Q v H2) : tDGet td ty σ H Q := q
-- statements
theorem w_next (q : D.nx σ H) : tNext D σ H := q
theorem w_seq {t u : TS} (q : t { D with nx := u D } σ H) : tSeq t u D σ H := q
theorem w_drop (q : te σ H fun _ H1 => D.nx σ H1) : tDrop te D σ H := q
theorem w_ret (q : te σ H D.rt) : tRet te D σ H := q
theorem w_retN (q : D.rt .non H) : tRetN D σ H := q
theorem w_ifS {t u : TS} (q : tt σ H fun b H1 => if b = true then t D σ H1 else u D σ H1) : tIfS tt t u D σ H := q
theorem w_asg {g : TG} (q : te σ H fun x H1 => g x σ H1 D.nx) : tAsg te g D σ H := q
theorem w_name {i : Nat} {v : V} {Q : L2.St → Hp → Prop} (q : Q (σ.set i (some v)) H) : gName i v σ H Q := q
theorem w_gnil {Q : L2.St → Hp → Prop} (q : Q σ H) : gNil [] σ H Q := ⟨rfl, q⟩
theorem w_gcons {t : TG} {u : TGs} {v : V} {r : List V} {Q : L2.St → Hp → Prop} (q : t v σ H fun σ' H' => u r σ' H' Q) : gCons t u (v :: r) σ H Q := ⟨v, r, rfl, q⟩
theorem w_gtup {n : Nat} {t : TGs} {a : Addr} {xs : List V} {Q : L2.St → Hp → Prop} (h : H a = some (.tup xs)) (l : xs.length = n) (q : t xs σ H Q) : gTup K n t (.ref a) σ H Q := ⟨a, xs, rfl, SqT.of h, l, q⟩
theorem w_gsub {to ti : TE} {t : TSet} {v : V} {Q : L2.St → Hp → Prop} (q : to σ H fun o H1 => ti σ H1 fun i H2 => t o i v H2 fun H3 => Q σ H3) : gSub to ti t v σ H Q := q
/-- what a for asks of the thing walked -/
def ForW (g : TG) (tb : TS) (D : Ends) (σ : L2.St) (H1 : Hp) (J : It) : Prop := ∃ W : Nat → Nat → L2.St → Hp → Prop, (∃ m, W 0 m σ H1) ∧ ∀ i m σ H, W i m σ H →
    (J.stop i H ∧ D.nx σ H) ∨ (J.go i H ∧ ∃ N : L2.St → Hp → Prop, (∀ σ' H', N σ' H' → ∃ m', m' < m ∧ W (i + 1) m' σ' H') ∧ ∀ x H', J.yld i H x H' → g x σ H' fun σ2 H2 => tb { D with nx := N, ct := N, bk := D.nx } σ2 H2)
theorem w_for {wi : TI} {g : TG} {tb : TS} (q : wi σ H fun J H1 => ForW g tb D σ H1 J) : tFor wi g tb D σ H := q
def LcW (g : TG) (tt : TT) (te : TE) (vs : List Nat) (σ : L2.St) (Q : VK) (H1 : Hp) (J : It) : Prop := ∀ D, H1 D = none → ∃ W : Nat → Nat → Hp → Prop, (∃ m, W 0 m (upd H1 D (.lst []))) ∧ ∀ i m H, W i m H →
  (J.stop i H ∧ Q (.ref D) H) ∨ (J.go i H ∧ ∃ Nx : Hp → Prop, (∀ H', Nx H' → ∃ m', m' < m ∧ W (i + 1) m' H') ∧ ∀ x H', J.yld i H x H' → g x (wipe σ vs) H' fun σ2 H2 => wipe σ2 vs = wipe σ vs ∧ tt σ2 H2 fun b H3 =>
    if b = true then te σ2 H3 fun y H4 => ∃ acc, H4 D = some (.lst acc) ∧ acc.length < sizeLine ∧ Nx (upd H4 D (.lst (acc ++ [y]))) else Nx H3)
theorem w_lc {wi : TI} {g : TG} {vs : List Nat} (q : wi σ H fun J H1 => LcW g tt te vs σ Q H1 J) : tLc wi g tt te vs σ H Q := q
theorem w_yes {Q : Bool → Hp → Prop} (q : Q true H) : tYes σ H Q := q
theorem w_iList {tl : TE} {R : It → Hp → Prop} (q : tl σ H fun x H1 => ∃ a, x = .ref a ∧ (∃ xs, SqL K H1 a xs) ∧ R (Itl K a) H1) : iList K tl σ H R := q
theorem w_fld {f : Str} (q : ta σ H fun x H1 => ∃ a C dx fs v, x = .ref a ∧ H1 a = some (.ins C dx fs) ∧ Cls K C ∧ NoAttr K C f ∧ fs.lookup f = some v ∧ Q v H1) : tFld K ta f σ H Q := q
theorem w_sfld {tv : TE} {f : Str} (q : tv σ H fun y H1 => ta σ H1 fun x H2 => ∃ a C dx fs, x = .ref a ∧ H2 a = some (.ins C dx fs) ∧ Cls K C ∧ NoAttr K C f ∧ fs.length < 1000 ∧ D.nx σ (upd H2 a (.ins C dx (putF f y fs)))) : sFld K ta tv f D σ H := q
theorem w_len {p : Addr} {ys : List V} (h : H p = some (.lst ys)) (q : Q (.int (ys.length : Int)) H) : rLenS K [.ref p] H Q := ⟨p, ys, rfl, .inl (SqL.of h), q⟩
theorem w_all {p : Addr} {bs : List Bool} (h : H p = some (.lst (bs.map V.bl))) (q : Q (.bl (bs.all id)) H) : rAll K [.ref p] H Q := ⟨p, bs, rfl, SqL.of h, q⟩
theorem w_iRng1 {ta : TA} {R : It → Hp → Prop} (q : ta σ H fun vs H1 => ∃ j : Int, vs = [.int j] ∧ -(2 ^ 62) ≤ j ∧ j < 2 ^ 62 ∧ R (Itr 0 j.toNat) H1) : iRng1 ta σ H R := q
-- tests
theorem w_dec {P A B : Prop} [Decidable P] (h1 : P → A) (h2 : ¬ P → B) : if decide P = true then A else B := by
  by_cases h : P
  · rw [decide_eq_true h, if_pos rfl]; exact h1 h
  · rw [decide_eq_false h, if_neg Bool.false_ne_true]; exact h2 h
theorem w_ndec {P A B : Prop} [Decidable P] (h1 : ¬ P → A) (h2 : P → B) : if (!decide P) = true then A else B := by
  by_cases h : P
  · rw [decide_eq_true h]; exact iteF (h2 h)
  · rw [decide_eq_false h]; exact iteT (h1 h)
theorem w_decT {P A B : Prop} [Decidable P] (h : P) (q : A) : if decide P = true then A else B := by rw [decide_eq_true h, if_pos rfl]; exact q
theorem w_decF {P A B : Prop} [Decidable P] (h : ¬ P) (q : B) : if decide P = true then A else B := by rw [decide_eq_false h, if_neg Bool.false_ne_true]; exact q
theorem w_ndecT {P A B : Prop} [Decidable P] (h : P) (q : B) : if (!decide P) = true then A else B := by rw [decide_eq_true h]; exact iteF q
theorem w_ndecF {P A B : Prop} [Decidable P] (h : ¬ P) (q : A) : if (!decide P) = true then A else B := by rw [decide_eq_false h]; exact iteT q
theorem w_bT {b : Bool} {A B : Prop} (h : b = true) (q : A) : if b = true then A else B := by rw [if_pos h]; exact q
theorem w_bF {b : Bool} {A B : Prop} (h : b = false) (q : B) : if b = true then A else B := by rw [h]; exact iteF q
end

theorem map_get {α : Type} {f : α → V} {l : List α} {i : Nat} {x : V} (h : (l.map f)[i]? = some x) : ∃ z, l[i]? = some z ∧ x = f z := by
  rw [List.getElem?_map] at h
  cases e : l[i]? with
  | none => rw [e] at h; cases h
  | some z => rw [e] at h; exact ⟨z, rfl, (Option.some.inj h).symm⟩
theorem get_lt {α : Type} {l : List α} {i : Nat} {x : α} (h : l[i]? = some x) : i < l.length := (List.getElem?_eq_some_iff.mp h).1
theorem tk_more {α : Type} {l : List α} {i : Nat} {x : α} (h : l[i]? = some x) : l.take (i + 1) = l.take i ++ [x] := by
  rw [List.take_add_one, h]; rfl
/-- a new object leaves the others -/
theorem gn {H : Hp} {l q : Addr} {o u : HO} (h : H l = some o) (hn : H q = none) : (L2.upd H q u) l = some o := by
  rw [upd_ne (ne_of_none h hn)]; exact h
theorem cut_map {α : Type} (f : α → V) (ns : List α) (lo hi : Option Int) : ∃ ms : List α, cutV (ns.map f) lo hi = ms.map f ∧ ms.length ≤ ns.length ∧ ∀ m ∈ ms, m ∈ ns := by
  refine ⟨(ns.drop (HT.sIx (ns.map f).length 0 lo)).take (HT.sIx (ns.map f).length (ns.map f).length hi - HT.sIx (ns.map f).length 0 lo), ?_, ?_, fun m hm => List.mem_of_mem_drop (List.mem_of_mem_take hm)⟩
  · unfold cutV; rw [← List.map_drop, ← List.map_take]
  · rw [List.length_take, List.length_drop]; omega
theorem cut_take {α : Type} (f : α → V) (ns : List α) (n : Nat) : cutV (ns.map f) none (some (n : Int)) = (ns.take n).map f := by
  unfold cutV
  rw [HT.sIx_none, HT.sIx_nat, List.drop_zero, Nat.sub_zero, List.length_map, ← List.map_take]
  congr 1
  by_cases h : n ≤ ns.length
  · rw [Nat.min_eq_left h]
  · rw [Nat.min_eq_right (by omega), List.take_length, List.take_of_length_le (by omega)]
theorem sm_mut {H H' : Hp} {D : Addr} {o : HO} (a : Same H H') (h : H D = none) : Same H (L2.upd H' D o) := fun q u e => by
  rw [upd_ne (ne_of_none e h)]; exact a q u e
theorem cpow {j n : Nat} (h : j ≤ 1000000) (e : (n : Int).natAbs < 2 ^ 64) : CPow (n : Int) (j : Int) := ⟨Int.natCast_nonneg _, by omega, e⟩

/-! match over texts -/
structure PMs (X : Cx) (cs : List MatchCase) (t : V → TS) : Prop where
  run : ∀ (pins : List (Addr × Obj)) (s : Shared) (σ : L2.St) (H : Hp) (D : Ends) (v : V) (u : Value) (first : Bool), Inv X pins σ H s → RelV v u → t v D σ H →
    wpAny (model X.prog X.w) X.A (matchCases cs X.env u first) (SP X pins D) X.xe s
def tCaseS (x : Str) (tb : TS) (tr : V → TS) : V → TS := fun v D σ H => ∃ z, v = .str z ∧ if decide (z = x) = true then tb D σ H else tr v D σ H
def tCaseA (tb : TS) : V → TS := fun _ => tb
def tMatch (te : TE) (t : V → TS) : TS := fun D σ H => te σ H fun v H1 => t v D σ H1
section
variable {X : Cx} {body : List Stmt} {rest : List MatchCase} {tb : TS} {tr : V → TS}
theorem pm_nil : PMs X [] (fun _ => tNext) := ⟨fun pins s σ H D v u first I r q => wpAny_matchCases_nil ⟨σ, H, I, q⟩⟩
theorem pm_any {p : Pos} (hb : PSs X body tb) : PMs X (⟨.MatchAs none none p, none, body⟩ :: rest) (tCaseA tb) := by
  refine ⟨fun pins s σ H D v u first I r q => ?_⟩
  refine wpAny_matchCases_cons (wpAny_matchPattern_Capture ?_)
  exact wpAny_assignInOrder_none (hb.run pins s σ H D I q)
theorem pm_str {x : Str} {j : Nat} {p p2 : Pos} (hb : PSs X body tb) (hr : PMs X rest tr) : PMs X (⟨.MatchValue (.Constant (.str x) j p) p2, none, body⟩ :: rest) (tCaseS x tb tr) := by
  refine ⟨fun pins s σ H D v u first I r q => ?_⟩
  obtain ⟨z, rfl, q⟩ := q
  refine wpAny_matchCases_cons (wpAny_matchPattern_Value ?_)
  refine thn ((pe_str (X := X) (x := x) (j := j) (pos := p)).run pins s σ H (fun y H1 => y = .str x ∧ H1 = H) I ⟨rfl, rfl⟩) fun w s1 ⟨y, H1, I1, r1, e1, e2⟩ => ?_
  subst e1 e2
  refine thn (op_eq (X := X) pins s1 σ H1 (.str z) (.str x) u w (fun y H2 => y = .bl (decide (V.str z = V.str x)) ∧ H2 = H1) I1 r r1 ⟨rfl, rfl, rfl⟩) fun c s2 ⟨y, H2, I2, r2, e1, e2⟩ => ?_
  subst e1 e2
  cases r2
  refine wpAny_truthy_bool ?_
  have e : decide (V.str z = V.str x) = decide (z = x) := by
    by_cases h : z = x
    · rw [h]; simp
    · rw [decide_eq_false h, decide_eq_false (fun k => h (V.str.inj k))]
  rw [e]
  by_cases h : z = x
  · rw [decide_eq_true h, if_pos rfl] at q
    rw [decide_eq_true h]
    exact wpAny_assignInOrder_none (hb.run pins s2 σ H2 D I2 q)
  · rw [decide_eq_false h, if_neg Bool.false_ne_true] at q
    rw [decide_eq_false h]
    exact hr.run pins s2 σ H2 D _ u false I2 r q
theorem ps_match {e : Expr} {te : TE} {cs : List MatchCase} {t : V → TS} {pos : Pos} (he : PE X e te) (hc : PMs X cs t) : PS X (.Match e cs pos) (tMatch te t) := by
  refine ⟨fun pins s σ H D I h => wpAny_Match (thn (he.run pins s σ H _ I h) fun u s1 ⟨v, H1, I1, r1, q1⟩ => ?_)⟩
  exact hc.run pins s1 σ H1 D v u true I1 r1 q1
end
section
variable {σ : L2.St} {H : Hp} {D : Ends} {te : TE} {tb : TS} {tr : V → TS}
theorem w_match {t : V → TS} (q : te σ H fun v H1 => t v D σ H1) : tMatch te t D σ H := q
theorem w_caseA {v : V} (q : tb D σ H) : tCaseA tb v D σ H := q
theorem w_caseS {x z : Str} (q : if decide (z = x) = true then tb D σ H else tr (.str z) D σ H) : tCaseS x tb tr (.str z) D σ H := ⟨z, rfl, q⟩
theorem w_caseT {x : Str} (q : tb D σ H) : tCaseS x tb tr (.str x) D σ H := ⟨x, rfl, by rw [decide_eq_true rfl, if_pos rfl]; exact q⟩
theorem w_caseF {x z : Str} (h : z ≠ x) (q : tr (.str z) D σ H) : tCaseS x tb tr (.str z) D σ H := ⟨z, rfl, by rw [decide_eq_false h, if_neg Bool.false_ne_true]; exact q⟩
end
end Fw
namespace Fw
open PySem PySem.Spec PyProof.Rows L2 LamX
/-! ### lambdas of one parameter, handed to a def as its first argument -/
/-- a later state: what was not tracked at (HD, sD), while stk ran, still stands -/
structure Later (stk : List Env) (HD : Hp) (sD : Shared) (outer : List Env) (H : Hp) (s : Shared) : Prop where
  un : Un (frs stk) [] HD H sD.heap s.heap
  new : ∀ b ∈ frs outer, b ∈ frs stk ∨ sD.heap.objs.size ≤ b
  sz : sD.heap.objs.size ≤ s.heap.objs.size
theorem Later.refl (stk : List Env) (H : Hp) (s : Shared) : Later stk H s stk H s := ⟨Un.refl, fun _ h => .inl h, Nat.le_refl _⟩
theorem Later.trans {k1 k2 k3 : List Env} {H1 H2 H3 : Hp} {s1 s2 s3 : Shared} (a : Later k1 H1 s1 k2 H2 s2) (b : Later k2 H2 s2 k3 H3 s3) : Later k1 H1 s1 k3 H3 s3 := by
  have nf : ∀ c o, s1.heap.get? c = some o → c ∉ frs k1 → c ∉ frs k2 := fun c o e n z => (a.new c z).elim n fun l => Nat.lt_irrefl _ (Nat.lt_of_lt_of_le (Heap.lt_size e) l)
  refine ⟨⟨fun c o q n hc hx => ?_, fun c o q n hc hx => ?_, fun c o q n hx => ?_, fun c o q hx => ?_, fun c xs q => b.un.tups c xs (a.un.tups c xs q), fun c o xs q => b.un.frzs c o xs (a.un.frzs c o xs q), fun c ps q => ?_⟩, fun c hc => ?_, Nat.le_trans a.sz b.sz⟩
  · exact b.un.keep c o (a.un.keep c o q n hc hx) (a.un.free c o q n hx) (nf c o q hc) hx
  · obtain ⟨sl, e1⟩ := a.un.slot c o q n hc hx
    obtain ⟨sl', e2⟩ := b.un.any e1 (a.un.free c o q n hx) hx
    exact ⟨sl', e2⟩
  · obtain ⟨o', e1⟩ := a.un.there c o q hx
    exact b.un.free c o' e1 (a.un.free c o q n hx) hx
  · obtain ⟨o', e1⟩ := a.un.there c o q hx
    exact b.un.there c o' e1 hx
  · obtain ⟨m1, e1⟩ := a.un.tbls c ps q
    obtain ⟨m2, e2⟩ := b.un.tbls c _ e1
    exact ⟨m1 ++ m2, by rw [e2, Array.append_assoc]⟩
  · rcases b.new c hc with z | z
    · exact a.new c z
    · exact .inr (Nat.le_trans a.sz z)
theorem later_of {X : Cx} {pins : List (Addr × Obj)} {σ : L2.St} {H : Hp} {s : Shared} (I : Inv X pins σ H s) (hex : X.ex = []) : Later X.outer X.H_0 X.s_0 X.stack H s := by
  refine ⟨?_, fun b hb => (List.mem_cons.mp (I.stkSub b hb)).elim (fun e => .inr (by rw [e]; exact I.ok.above)) .inl, I.sz⟩
  have u := I.base
  rw [hex] at u
  exact u
/-- what may be called: f, with the promise sp, from level k on -/
abbrev CP := Nat → Addr → Sp → Prop
structure Cal (P : Program) (w : World) (K : PySem.W.Frag) (mg : Str → Option Value) (base : Heap) (stk : List Env) (HD : Hp) (sD : Shared) (k : Nat) (f : Addr) (sp : Sp) : Prop where
  fn : ∀ (outer : List Env) (s : Shared) (H : Hp), Later stk HD sD outer H s → PySem.W.FnAt f s.heap
  run : ∀ (A : Around) (outer : List Env) (s : Shared) (H : Hp) (us : List Value) (vs : List V) (Q : VK), Room k A → Env0 P w K mg base A outer s H → Later stk HD sD outer H s → Vals vs us → sp vs H Q E0 →
    codeAny (model P w) A (.call (.ref f) ⟨us, []⟩) (CR L2.CX0 outer P w H s Q E0) s
section
variable {P : Program} {w : World} {K : PySem.W.Frag} {mg : Str → Option Value} {base : Heap}
theorem Cal.later {k1 k2 : List Env} {H1 H2 : Hp} {s1 s2 : Shared} {k : Nat} {f : Addr} {sp : Sp} (c : Cal P w K mg base k1 H1 s1 k f sp) (l : Later k1 H1 s1 k2 H2 s2) : Cal P w K mg base k2 H2 s2 k f sp :=
  ⟨fun o s H z => c.fn o s H (l.trans z), fun A o s H us vs Q hr e z => c.run A o s H us vs Q hr e (l.trans z)⟩
theorem Cal.imp {stk : List Env} {H1 : Hp} {s1 : Shared} {k k' : Nat} {f : Addr} {sp sp' : Sp} (c : Cal P w K mg base stk H1 s1 k f sp) (hk : k ≤ k') (h : ∀ vs H Q, sp' vs H Q E0 → sp vs H Q E0) : Cal P w K mg base stk H1 s1 k' f sp' :=
  ⟨c.fn, fun A o s H us vs Q hr e z r q => c.run A o s H us vs Q (hr.mono hk) e z r (h _ _ _ q)⟩
/-- a def that may be handed what can be called -/
structure FnOkC (P : Program) (w : World) (K : PySem.W.Frag) (mg : Str → Option Value) (base : Heap) (k : Nat) (f : Addr) (fd : FuncData) (ps : List Str) (spc : CP → Sp) : Prop where
  len : ∀ C vs H Q E, spc C vs H Q E → vs.length = ps.length
  run : ∀ (A : Around) (outer : List Env) (s : Shared) (H : Hp) (args : Args) (us : List Value) (vs : List V) (Q : VK), Room k A → Env0 P w K mg base A outer s H → BindsTo s fd args (ps.zip us) → Vals vs us → spc (Cal P w K mg base outer H s) vs H Q E0 →
    codeAny (model P w) A (.call (.ref f) args) (CR L2.CX0 outer P w H s Q E0) s
theorem okC {x qual : Str} {st : Stmt} {f : Addr} {fd : FuncData} {N ps : List Str} {k : Nat} {spc : CP → Sp} (F : L2.Fun K x qual st f fd) (S : FnScope N ps (defScope st)) (len : ∀ C vs H Q E, spc C vs H Q E → vs.length = ps.length)
    (hbody : ∀ (cdv : Value) (A : Around) (outer : List Env) (s : Shared) (H : Hp) (vs : List V) (Q : VK), Room k (A.deeper (envOfC qual (defScope st) s.heap.objs.size f cdv)) → spc (Cal P w K mg base outer H s) vs H Q E0 →
      ∃ t, PSs (cxOf L2.CX0 P w K mg base N qual (defScope st) f cdv A outer s H E0).nox (defBody st) t ∧ t { nx := fun _ H' => Q .non H', rt := Q } (L2.start N vs) H) : FnOkC P w K mg base (k + 1) f fd ps spc := by
  obtain ⟨oc, od, kV, doc, pm, an, cdv, ct, osl, rfl, lk, hcd⟩ := F.ex
  refine ⟨len, fun A outer s H args us vs Q hr e0 hb r h => ?_⟩
  refine run_ofS (N := N) lk hcd S hr e0 hb r (len _ _ _ _ _ h) fun hr' => ?_
  obtain ⟨t, ht, q⟩ := hbody cdv A outer s H vs Q hr' h
  exact ⟨t, ht.nox, q⟩
end
/-- a def whose code object is known, for its lambdas -/
structure FunT (K : PySem.W.Frag) (x qual : Str) (st : Stmt) (f : Addr) (fd : FuncData) (c : Addr) : Prop where
  ex : ∃ (oc : Value) (od : Option Addr) (kV doc pm : Value) (an : Option Addr) (ct : Value) (osl : Array (Option Value)),
    fd = PySem.W.fnOf x qual (defArgs st) (defBody st) (defScope st) .none kV doc pm an (.ref c) ct ∧ K.lookup f = some ⟨oc, od, .func fd, osl⟩ ∧ PySem.W.codeIn K (.ref c) qual = true
section
variable {P : Program} {w : World} {K : PySem.W.Frag} {mg : Str → Option Value} {base : Heap}
theorem FunT.ok {x qual : Str} {st : Stmt} {f c : Addr} {fd : FuncData} {N ps : List Str} {k : Nat} {sp : Sp} (F : FunT K x qual st f fd c) (S : FnScope N ps (defScope st)) (len : ∀ vs H Q E, sp vs H Q E → vs.length = ps.length)
    (hbody : ∀ (A : Around) (outer : List Env) (s : Shared) (H : Hp) (vs : List V) (Q : VK) (E : XK), Room k (A.deeper (envOfC qual (defScope st) s.heap.objs.size f (.ref c))) → sp vs H Q E →
      ∃ t, PSs (cxOf L2.CX0 P w K mg base N qual (defScope st) f (.ref c) A outer s H E).nox (defBody st) t ∧ t { nx := fun _ H' => Q .non H', rt := Q } (L2.start N vs) H) : FnOk P w K mg base L2.CX0 (k + 1) f fd ps sp := by
  obtain ⟨oc, od, kV, doc, pm, an, ct, osl, rfl, lk, hcd⟩ := F.ex
  refine fn_of lk hcd S len fun A outer s H vs Q E hr hsp => ?_
  obtain ⟨t, h, q⟩ := hbody A outer s H vs Q E hr hsp
  exact ⟨t, h.nox, q⟩
theorem FunT.okC {x qual : Str} {st : Stmt} {f c : Addr} {fd : FuncData} {N ps : List Str} {k : Nat} {spc : CP → Sp} (F : FunT K x qual st f fd c) (S : FnScope N ps (defScope st)) (len : ∀ C vs H Q E, spc C vs H Q E → vs.length = ps.length)
    (hbody : ∀ (A : Around) (outer : List Env) (s : Shared) (H : Hp) (vs : List V) (Q : VK), Room k (A.deeper (envOfC qual (defScope st) s.heap.objs.size f (.ref c))) → spc (Cal P w K mg base outer H s) vs H Q E0 →
      ∃ t, PSs (cxOf L2.CX0 P w K mg base N qual (defScope st) f (.ref c) A outer s H E0).nox (defBody st) t ∧ t { nx := fun _ H' => Q .non H', rt := Q } (L2.start N vs) H) : FnOkC P w K mg base (k + 1) f fd ps spc := by
  obtain ⟨oc, od, kV, doc, pm, an, ct, osl, rfl, lk, hcd⟩ := F.ex
  refine ⟨len, fun A outer s H args us vs Q hr e0 hb r h => ?_⟩
  refine run_ofS (N := N) lk hcd S hr e0 hb r (len _ _ _ _ _ h) fun hr' => ?_
  obtain ⟨t, ht, q⟩ := hbody A outer s H vs Q hr' h
  exact ⟨t, ht.nox, q⟩
theorem FunT.toFun {x qual : Str} {st : Stmt} {f c : Addr} {fd : FuncData} (F : FunT K x qual st f fd c) (kp : PySem.W.keepIn K (.ref f) = true) : L2.Fun K x qual st f fd := by
  obtain ⟨oc, od, kV, doc, pm, an, ct, osl, e, lk, hcd⟩ := F.ex
  exact ⟨⟨oc, od, kV, doc, pm, an, .ref c, ct, osl, e, lk, hcd⟩, kp⟩
theorem funT_mk {x qual : Str} {st : Stmt} {f c : Addr} {oc : Value} {od an : Option Addr} {osl : Array (Option Value)} {kV doc pm ct : Value} (l : K.lookup f = some ⟨oc, od, .func (PySem.W.fnOf x qual (defArgs st) (defBody st) (defScope st) .none kV doc pm an (.ref c) ct), osl⟩)
    (h : PySem.W.codeIn K (.ref c) qual = true) : FunT K x qual st f (PySem.W.fnOf x qual (defArgs st) (defBody st) (defScope st) .none kV doc pm an (.ref c) ct) c := ⟨⟨oc, od, kV, doc, pm, an, ct, osl, rfl, l, h⟩⟩
end
/-- what can be called in X: what its def was handed -/
abbrev Kn (X : Cx) : CP := Cal X.prog X.w X.K X.mg X.base X.outer X.H_0 X.s_0
/-! ### the lambda's names -/
structure LamP (sc scope : Scope) (par : Str) : Prop where
  kind : scope.kind = .function
  co : scope.isCoroutine = false
  gen : scope.isGenerator = false
  own : ∀ y ∈ scope.names, y.2 ≠ .cell ∧ (y.2 = .local → y.1 = par)
  par : scope.names.lookup par = some .local
  free : ∀ y ∈ scope.names, y.2 = .free → sc.names.lookup y.1 = some .cell ∨ sc.names.lookup y.1 = some .free
def lamPB (sc scope : Scope) (par : Str) : Bool :=
  decide (scope.kind = .function) && !scope.isCoroutine && !scope.isGenerator && decide (scope.names.lookup par = some .local) && scope.names.all fun y => !decide (y.2 = .cell) && (!decide (y.2 = .local) || decide (y.1 = par)) && (!decide (y.2 = .free) || decide (sc.names.lookup y.1 = some .cell) || decide (sc.names.lookup y.1 = some .free))
theorem lamP_by {sc scope : Scope} {par : Str} (h : lamPB sc scope par = true) : LamP sc scope par := by
  unfold lamPB at h
  simp only [Bool.and_eq_true, Bool.or_eq_true, Bool.not_eq_true', decide_eq_true_eq, decide_eq_false_iff_not, List.all_eq_true] at h
  obtain ⟨⟨⟨⟨h1, h2⟩, h3⟩, h5⟩, h4⟩ := h
  refine ⟨h1, h2, h3, fun y hy => ⟨(h4 y hy).1.1, fun e => ?_⟩, h5, fun y hy e => ?_⟩
  · rcases (h4 y hy).1.2 with z | z
    · exact absurd e z
    · exact z
  · rcases (h4 y hy).2 with (z | z) | z
    · exact absurd e z
    · exact .inl z
    · exact .inr z
theorem LamP.has {X : Cx} {scope : Scope} {par : Str} (L : LamP X.env.scope scope par) (ok : X.Ok) : ∀ y ∈ scope.names, y.2 = .free → ∃ c, X.env.cells.lookup y.1 = some c := fun y hy e => by
  rcases L.free y hy e with k | k
  · exact ok.has _ (.inl k)
  · exact ok.has _ (.inr k)
/-- the context of the lambda's body, entered at s from the frames outer: X's names and the parameter -/
def lamCxP (X : Cx) (A : Around) (outer : List Env) (s : Shared) (H : Hp) (scope : Scope) (f c' : Addr) (par : Str) : Cx where
  prog := X.prog
  w := X.w
  K := X.K
  mg := X.mg
  base := X.base
  A := A.deeper (lamEnv X scope s.heap.objs.size f c')
  N := X.N ++ [par]
  s_0 := s
  H_0 := H
  env := lamEnv X scope s.heap.objs.size f c'
  outer := outer
  stack := lamEnv X scope s.heap.objs.size f c' :: outer
  ex := []
  fn := fun _ => false
  calm := true
  pn := []
  xe := fun e s' => wpAny (model X.prog X.w) (A.deeper (lamEnv X scope s.heap.objs.size f c')) (leaving (lamEnv X scope s.heap.objs.size f c') e) (fun _ s'' => L2.CX0 outer H s E0 e s'') (fun e' s'' => L2.CX0 outer H s E0 e' s'') s'
section
variable {X : Cx} {pins : List (Addr × Obj)} {σ : L2.St} {H HZ : Hp} {s s1 : Shared}
theorem lam_startP {A : Around} {outer : List Env} {scope : Scope} {f c' : Addr} {h₁ : Heap} {tk : Nat} {par : Str} {v : V} {u : Value} (I : Inv X pins σ H s) (L : LamP X.env.scope scope par) (hpar : par ∉ X.N) (rv : RelV v u)
    (e0 : Env0 X.prog X.w X.K X.mg X.base A outer s1 HZ) (hd : A.handled = none)
    (un : Un (frs X.stack) [] H HZ s.heap s1.heap) (hns : h₁.Ns s1.heap.objs.size fun y => ([(par, u)] : List (Str × Value)).reverse.lookup y) (kp : ∀ b o, s1.heap.get? b = some o → h₁.get? b = some o) :
    Inv (lamCxP X A outer s1 HZ scope f c' par) [] (σ ++ [some v]) HZ { s1 with heap := h₁, toks := tk } := by
  have hfree := L.has I.ok
  have cm : ∀ {y c}, (cloFrom X.env.cells scope.names []).lookup y = some c → X.env.cells.lookup y = some c := fun {y c} e => by
    rcases cloFrom_mem (PySem.mem_of_lookup e) with hm | ⟨h1, h2⟩
    · cases hm
    · obtain ⟨c1, hc⟩ := hfree _ h1 rfl
      have hc : X.env.cells.lookup y = some c1 := hc
      have e2 : c = c1 := by
        rw [h2, hc] <;> rfl
      rw [e2]
      exact hc
  have look : ∀ {y}, scope.names.lookup y = some .free → ∃ c, (cloFrom X.env.cells scope.names []).lookup y = some c := fun {y} hl => by
    have hy : (y, NameKind.free) ∈ scope.names := PySem.mem_of_lookup hl
    exact mem_lookup (cloFrom_has (cells := X.env.cells) (acc := []) hy)
  have cellK : ∀ {c : Addr} {v : Option Value}, H c = none → s.heap.IsCell c v → h₁.IsCell c v := fun {c v} n ⟨o, ho, hd⟩ => by
    obtain ⟨sl, q⟩ := un.any ho n (by simp)
    exact ⟨_, kp _ _ q, hd⟩
  have noA : ∀ b : Addr, b ∉ (lamCxP X A outer s1 HZ scope f c' par).ex := fun b z => absurd (show b ∈ ([] : List Addr) from z) (by simp)
  refine ⟨⟨e0.mod, L.kind, rfl, rfl, Nat.le_refl _, fun y z c e1 e2 => I.ok.inj y z c (cm e1) (cm e2), fun y hy => ?_, fun y c z _ => ?_, fun _ => hd, Around.frames_deeper e0.frames, .inr ⟨rfl, rfl⟩, fun b z => absurd z (noA b), e0.bs, e0.bsz, fun b _ _ => noA b,
      fun b z => absurd z (noA b), e0.funs, e0.frf⟩,
    rfl, e0.bare, Un.kept kp, ⟨_, hns, fun i y v' e1 e2 e3 => ?_⟩, fun y c e => ?_, e0.hok.fresh (Nat.le_refl _), fun y c e => ?_, fun q hq => absurd (show q ∈ ([] : List (Addr × Obj)) ++ [] from hq) (by simp), e0.hok.kept kp, ?_⟩
  · have hy : scope.names.lookup y = some .cell ∨ scope.names.lookup y = some .free := hy
    rcases hy with hy | hy
    · exact absurd rfl (L.own _ (PySem.mem_of_lookup hy)).1
    · exact look hy
  · have z : false = true := z
    cases z
  · have e3 : Vis scope y := e3
    have e1 : (X.N ++ [par])[i]? = some y := e1
    by_cases hi : i < X.N.length
    · rw [List.getElem?_append_left hi] at e1
      rw [List.getElem?_append_left (by rw [I.len]; exact hi)] at e2
      have ny : y ≠ par := fun z => hpar (by rw [← z]; exact List.mem_of_getElem? e1)
      rcases e3 with k | k | k
      · exact absurd ((L.own _ (PySem.mem_of_lookup k)).2 rfl) ny
      · exact absurd rfl (L.own _ (PySem.mem_of_lookup k)).1
      · obtain ⟨m, hn, hl⟩ := I.loc
        have hvis : Vis X.env.scope y := (L.free _ (PySem.mem_of_lookup k) rfl).elim (fun k => .inr (.inl k)) (fun k => .inr (.inr k))
        obtain ⟨w', r, q⟩ := hl i y v' e1 e2 hvis
        obtain ⟨c2, h2⟩ := look k
        refine ⟨w', r, .inr ⟨.inr k, c2, h2, ?_⟩⟩
        have c1 := cm h2
        rcases q with ⟨k', _⟩ | ⟨_, c3, e', z⟩
        · have k' : X.env.scope.names.lookup y = some .local := k'
          rcases L.free _ (PySem.mem_of_lookup k) rfl with k2 | k2 <;> rw [show X.env.scope.names.lookup y = _ from k2] at k' <;> cases k'
        · rw [c1] at e'
          cases e'
          exact cellK (I.freeC y _ c1) z
    · have hi' : i = X.N.length := by
        have := (List.getElem?_eq_some_iff.mp e1).1
        rw [List.length_append, List.length_singleton] at this
        omega
      subst hi'
      rw [List.getElem?_append_right (Nat.le_refl _), Nat.sub_self] at e1
      rw [← I.len, List.getElem?_append_right (Nat.le_refl _), Nat.sub_self] at e2
      cases e1
      cases e2
      refine ⟨u, rv, .inl ⟨L.par, ?_⟩⟩
      show ([(par, u)] : List (Str × Value)).lookup par = some u
      simp [List.lookup]
  · obtain ⟨w', z⟩ := I.cell y c (cm e)
    exact ⟨w', cellK (I.freeC y c (cm e)) z⟩
  · obtain ⟨v, o, ho, hd⟩ := I.cell y c (cm e)
    exact un.free c o ho (I.freeC y c (cm e)) (by simp)
  · show (σ ++ [some v]).length = (X.N ++ [par]).length
    rw [List.length_append, List.length_append, I.len]
    rfl
/-- the promise of a lambda: its code object, its body's reading -/
def spLam (c' : Addr) (q : Str) (σ : L2.St) (tb : TE) : Sp := fun vs H Q _ => ∃ v, vs = [v] ∧ H c' = some (CodeO c' q) ∧ tb (σ ++ [some v]) H Q
theorem lam_cal {C : CP} {scope : Scope} {par : Str} {params : Arguments} {body : Expr} {pm ctv : Value} {f c' : Addr} {kb : Nat} {tb : TE} (I : Inv X pins σ H s) (L : LamP X.env.scope scope par) (hpar : par ∉ X.N) (hex : X.ex = [])
    (hf : s.heap.get? f = some (PySem.W.kla_obj "<lambda>" (X.env.qual ++ "<lambda>") params body scope (cloFrom X.env.cells scope.names []) pm c' ctv)) (hfn : H f = none) (hfr : f ∉ frs X.stack)
    (hbind : ∀ (q : Str) (cl : List (Str × Addr)) (pm cv ctv u : Value), bindArgs (PySem.W.kla_fn "<lambda>" q params body scope cl pm cv ctv) ⟨[u], []⟩ = pure [(par, u)])
    (hC : ∀ k f sp, C k f sp → Kn X k f sp)
    (hbody : ∀ (A : Around) (outer : List Env) (s1 : Shared) (H1 : Hp), (∀ k f sp, C k f sp → Kn (lamCxP X A outer s1 H1 scope f c' par).nox k f sp) → Room kb (A.deeper (lamEnv X scope s1.heap.objs.size f c')) → PE (lamCxP X A outer s1 H1 scope f c' par).nox body tb) :
    Cal X.prog X.w X.K X.mg X.base X.stack H s (kb + 1) f (spLam c' (X.env.qual ++ "<lambda>") σ tb) := by
  have at1 : ∀ (outer : List Env) (s1 : Shared) (H1 : Hp), Later X.stack H s outer H1 s1 → s1.heap.get? f = some (PySem.W.kla_obj "<lambda>" (X.env.qual ++ "<lambda>") params body scope (cloFrom X.env.cells scope.names []) pm c' ctv) :=
    fun outer s1 H1 l => l.un.keep f _ hf hfn hfr (by simp)
  refine ⟨fun outer s1 H1 l => ⟨_, _, _, _, at1 outer s1 H1 l⟩, fun A outer s1 HZ us vs Q hr e0 l r h => ?_⟩
  obtain ⟨v, rfl, hc, ht⟩ := h
  obtain ⟨u, rfl, rv⟩ : ∃ u, us = [u] ∧ RelV v u := by
    cases r with
    | cons r1 r2 => cases r2 with | nil => exact ⟨_, rfl, r1⟩
  have of1 := at1 outer s1 HZ l
  obtain ⟨⟨oc, ws, t, hoc, hdc, hvc⟩, _, _⟩ := e0.hok c' _ hc
  have lim : s1.heap.NoLimit := e0.mod.nolimit.keeps fun b o e => (e0.bs b o e).1
  refine PySem.W.kla_callFunE hr.depth of1 rfl L.co L.gen rfl ⟨c', oc, ws, t, rfl, hoc, hdc, hvc⟩ ?_
  rw [hbind]
  refine wpAny_pure (wpAny_newFunctionEnv (fun y hy => (L.own y hy).1) (fun y hy => ?_) (fun h₁ hns hsb => ⟨lim.fresh _ hsb, ?_⟩) L.kind)
  · have e : y = (par, u) := by simpa using hy
    rw [e]
    exact L.par
  show codeAny _ _ (.expr body (lamEnv X scope s1.heap.objs.size f c')) _ _
  have kp : ∀ b o, s1.heap.get? b = some o → h₁.get? b = some o := fun b o e => hsb.extBut b o (Nat.ne_of_lt (Heap.lt_size e)) (Heap.get?_push_of_some _ e)
  have J : Inv (lamCxP X A outer s1 HZ scope f c' par) [] (σ ++ [some v]) HZ { s1 with heap := h₁, toks := s1.toks + ([(par, u)] : List (Str × Value)).length } := lam_startP I L hpar rv e0 hr.hd l.un hns kp
  have hb := hbody A outer s1 HZ (fun k f sp c => (hC k f sp c).later ((later_of I hex).trans l)) (hr.deeper _)
  refine PySem.W.kla_codeExpr (wpAny_mono (hb.nox.run [] _ _ HZ Q J ht) (fun v s' hq => ?_) fun e s' hq => hq)
  obtain ⟨w', H', J', rv', q⟩ := hq
  exact ⟨w', H', J'.os, J'.bare, J'.base, J'.hok, rv', q⟩
/-- x(e, ..), x a parameter (or a captured name) that holds what can be called -/
def tCal (C : CP) (k i : Nat) (t : TA) : TE := fun σ H Q => ∃ f sp, σ[i]? = some (some (.ref f)) ∧ C k f sp ∧ t σ H fun vs H1 => sp vs H1 Q E0
theorem pe_cal {C : CP} {k i : Nat} {a : Str} {e : Expr} {es : List Expr} {t : TA} {p pos : Pos} (hC : ∀ k f sp, C k f sp → Kn X k f sp) (hr : Room k X.A) (hN : X.N[i]? = some a) (hv : Vis X.env.scope a) (hex : X.ex = []) (ha : PA X (e :: es) t)
    (hd : (a == ("__debug__" : Str)) = false := by decide) (hcd : (a == ("__classdict__" : Str)) = false := by decide) (he : starEach (e :: es) X.env = (false, eval e X.env) :: starEach es X.env := by rfl) (hpl : (backTo pos (starEach es X.env)).any (·.1) = false := by rfl) :
    PE X (.Call (.Name a p) (e :: es) [] pos) (tCal C k i t) := by
  refine ⟨fun pins s σ H Q I h => ?_⟩
  obtain ⟨f, sp, hs, hc, ht⟩ := h
  refine wpAny_Call_Name_kw (thn ((pe_var (pos := p) (i := i) hN hv hd hcd).run pins s σ H (fun v H1 => v = .ref f ∧ H1 = H) I ⟨.ref f, hs, rfl, rfl⟩) fun u s1 ⟨v, H1, I1, r1, q1⟩ => ?_)
  obtain ⟨ev, eH⟩ := q1
  subst ev
  rw [eH] at I1
  obtain rfl : u = Value.ref f := r1
  have cal := hC k f sp hc
  refine PySem.W.callWith_F (cal.fn _ _ _ (later_of I1 hex)) (thn (ha.run pos pins s1 σ H _ I1 ht) fun us s2 ⟨vs, H2, I2, r, q⟩ => ⟨cal.fn _ _ _ (later_of I2 hex), ?_⟩) he hpl
  refine wpAny_call (codeAny_mono (cal.run X.A X.stack s2 H2 us vs Q hr I2.env0 (later_of I2 hex) r q) fun r s' hq => ?_)
  cases r with
  | error e => exact (show False from hq).elim
  | ok fl =>
    cases fl with
    | ret u => exact I2.after hq
    | next => exact False.elim hq
    | brk => exact False.elim hq
    | cont => exact False.elim hq
/-- x(e, ..), x a local name that holds one of some defs -/
def tCallV (C : Addr → Sp → Prop) (i : Nat) (t : TA) : TE := fun σ H Q => ∃ f sp, σ[i]? = some (some (.ref f)) ∧ C f sp ∧ t σ H fun vs H1 => sp vs H1 Q E0
theorem pe_callV {C : Addr → Sp → Prop} {i : Nat} {a : Str} {e : Expr} {es : List Expr} {t : TA} {p pos : Pos}
    (hC : ∀ f sp, C f sp → ∃ (k : Nat) (fd : FuncData) (ps : List Str), FnOk X.prog X.w X.K X.mg X.base L2.CX0 k f fd ps sp ∧ Room k X.A ∧ PySem.W.keepIn X.K (.ref f) = true ∧ L2.Binds X.K fd ps [])
    (hN : X.N[i]? = some a) (hv : Vis X.env.scope a) (ha : PA X (e :: es) t)
    (hd : (a == ("__debug__" : Str)) = false := by decide) (hcd : (a == ("__classdict__" : Str)) = false := by decide) (he : starEach (e :: es) X.env = (false, eval e X.env) :: starEach es X.env := by rfl) (hpl : (backTo pos (starEach es X.env)).any (·.1) = false := by rfl) :
    PE X (.Call (.Name a p) (e :: es) [] pos) (tCallV C i t) := by
  refine ⟨fun pins s σ H Q I h => ?_⟩
  obtain ⟨f, sp, hs, hc, ht⟩ := h
  refine wpAny_Call_Name_kw (thn ((pe_var (pos := p) (i := i) hN hv hd hcd).run pins s σ H (fun v H1 => v = .ref f ∧ H1 = H) I ⟨.ref f, hs, rfl, rfl⟩) fun u s1 ⟨v, H1, I1, r1, q1⟩ => ?_)
  obtain ⟨ev, eH⟩ := q1
  subst ev
  rw [eH] at I1
  obtain rfl : u = Value.ref f := r1
  obtain ⟨k, fd, ps, F, hr, hk, hb⟩ := hC f sp hc
  refine PySem.W.callWith_K (h₀ := X.base) I1.ok.mod.kin hk (thn (ha.run pos pins s1 σ H _ I1 ht) fun us s2 ⟨vs, H2, I2, r, q⟩ => ⟨I2.kIn, ?_⟩) he hpl
  exact run_fn (dvs := []) (ds := []) F hr hb .nil pass0 I2 r (by rw [List.append_nil]; exact q)
/-- all but the tables stays, the tables are told -/
def Sm (T : List (Addr × Str)) (H H' : Hp) : Prop := ExtN H H' ∧ (Tabs T H → Tabs T H')
theorem Sm.refl {T : List (Addr × Str)} (H : Hp) : Sm T H H := ⟨ExtN.refl H, fun h => h⟩
theorem Sm.trans {T : List (Addr × Str)} {H H1 H2 : Hp} (a : Sm T H H1) (b : Sm T H1 H2) : Sm T H H2 := ⟨a.1.trans b.1, fun h => b.2 (a.2 h)⟩
def tLamC (T : List (Addr × Str)) (q : Str) (spc : CP → Sp) (C : CP) (kb : Nat) (tb : TE) (t : TA) : TE := fun σ H Q => Tabs T H ∧ ∀ (f c' : Addr) (H1 : Hp), Sm T H H1 → H1 c' = some (CodeO c' q) → t σ H1 fun vs H2 =>
  ∀ C' : CP, (∀ k g sp, C k g sp → C' k g sp) → (∀ k sp, kb + 1 ≤ k → (∀ ws H3 Q3, sp ws H3 Q3 E0 → spLam c' q σ tb ws H3 Q3 E0) → C' k f sp) → spc C' (.ref f :: vs) H2 Q E0
/-- x(lambda par: body, e, ..) -/
theorem pe_lamC {T : List (Addr × Str)} {x par : Str} {g c P : Addr} {kg kb : Nat} {fd : FuncData} {ps : List Str} {spc : CP → Sp} {C : CP} {params : Arguments} {body : Expr} {scope : Scope} {tb : TE} {t : TA} {es : List Expr} {p lpos pos : Pos}
    (G : FnOkC X.prog X.w X.K X.mg X.base kg g fd ps spc) (hr : Room kg X.A) (hg : Gl X x) (hm : X.mg x = some (.ref g)) (hk : PySem.W.keepIn X.K (.ref g) = true) (hb : L2.Binds X.K fd ps [])
    (TB : TabB X.base X.mg c P) (hcode : X.env.code = .ref c) (hmT : (P, X.env.qual ++ "<lambda>") ∈ T) (hu : ∀ p ∈ T, p.1 = P → p.2 = X.env.qual ++ "<lambda>")
    (L : LamP X.env.scope scope par) (hpar : par ∉ X.N) (hex : X.ex = []) (hdef : defaultsOf params X.env = ([], []))
    (hbind : ∀ (q : Str) (cl : List (Str × Addr)) (pm cv ctv u : Value), bindArgs (PySem.W.kla_fn "<lambda>" q params body scope cl pm cv ctv) ⟨[u], []⟩ = pure [(par, u)])
    (hC : ∀ k f sp, C k f sp → Kn X k f sp)
    (hbody : ∀ (A : Around) (outer : List Env) (s1 : Shared) (H1 : Hp) (f c' : Addr), (∀ k f sp, C k f sp → Kn (lamCxP X A outer s1 H1 scope f c' par).nox k f sp) → Room kb (A.deeper (lamEnv X scope s1.heap.objs.size f c')) → PE (lamCxP X A outer s1 H1 scope f c' par).nox body tb)
    (ha : PA X es t) (hdb : (x == ("__debug__" : Str)) = false := by decide) (hpl : (backTo pos (starEach es X.env)).any (·.1) = false := by rfl) :
    PE X (.Call (.Name x p) (.Lambda params body scope lpos :: es) [] pos) (tLamC T (X.env.qual ++ "<lambda>") spc C kb tb t) := by
  refine ⟨fun pins s σ H Q I h => ?_⟩
  obtain ⟨hT, h⟩ := h
  refine wpAny_Call_Name_kw (ld_glob I hg hm ?_ hdb)
  refine PySem.W.callWith_K (h₀ := X.base) I.ok.mod.kin hk ?_ (by rfl) hpl
  show wpAny _ _ (spliced ((false, eval (.Lambda params body scope lpos) X.env) :: backTo pos (starEach es X.env))) _ _ s
  refine Calls.spliced_cons (lam_make2 (E := X.xe) I TB hcode hmT hu hT hdef (L.has I.ok) fun f c' pm' ctv H1 s' I1 eN T1 hf hfn hfr hco => ?_)
  have nfL : f ≠ X.env.locals := fun z => by
    obtain ⟨m, ⟨o, es, ep, ho, hd, _⟩, _⟩ := I1.loc
    rw [← z, hf] at ho
    cases ho
    cases hd
  have nfs : f ∉ X.fs := fun z => hfr (by
    rcases I1.ok.stk with e | ⟨e, hfm⟩
    · rw [e]; exact z
    · rw [e]
      unfold frs
      rw [List.filterMap_cons, hfm]
      exact List.mem_cons_of_mem _ z)
  have I2 : Inv X ((f, PySem.W.kla_obj "<lambda>" (X.env.qual ++ "<lambda>") params body scope (cloFrom X.env.cells scope.names []) pm' c' ctv) :: pins) σ H1 s' := I1.pins_of fun q hq => by
    rcases List.mem_cons.mp hq with e | hq
    · rw [e]
      exact ⟨hf, hfn, nfL, nfs, fun v z => by cases z⟩
    · exact I1.pin q (List.mem_append_right _ hq)
  refine thn (ha.run pos _ s' σ H1 _ I2 (h f c' H1 ⟨eN, fun _ => T1⟩ hco)) fun us s2 ⟨vs, H2, I3, r, q⟩ => ⟨I3.kIn, ?_⟩
  obtain ⟨pf, pn, _, _, _⟩ := I3.pin _ (List.mem_append_right _ (List.mem_cons_self (a := (f, PySem.W.kla_obj "<lambda>" (X.env.qual ++ "<lambda>") params body scope (cloFrom X.env.cells scope.names []) pm' c' ctv))))
  have I4 : Inv X pins σ H2 s2 := I3.pins_of fun q hq => I3.pin q (List.mem_append_right _ (List.mem_cons_of_mem _ hq))
  have cal := lam_cal (C := C) (f := f) (c' := c') (kb := kb) (tb := tb) I4 L hpar hex pf pn hfr hbind hC fun A outer s1 H1 hk hr => hbody A outer s1 H1 f c' hk hr
  have hsp := q (Cal X.prog X.w X.K X.mg X.base X.stack H2 s2) (fun k g sp z => (hC k g sp z).later (later_of I4 hex)) (fun k sp hk z => cal.imp hk z)
  have r2 : Vals (.ref f :: vs) (.ref f :: us) := .cons rfl r
  have hl : (Value.ref f :: us).length = ps.length := by rw [← r2.length]; exact G.len _ _ _ _ _ hsp
  have hbi := hb s2 (.ref f :: us) I4.kIn (by rw [List.append_nil]; exact hl)
  rw [List.append_nil] at hbi
  refine wpAny_call (codeAny_mono (G.run X.A X.stack s2 H2 ⟨.ref f :: us, []⟩ (.ref f :: us) (.ref f :: vs) Q hr I4.env0 hbi r2 hsp) fun r s' hq => ?_)
  cases r with
  | error e => exact (show False from hq).elim
  | ok fl =>
    cases fl with
    | ret u => exact I4.after hq
    | next => exact False.elim hq
    | brk => exact False.elim hq
    | cont => exact False.elim hq
end
theorem Sm.of {T : List (Addr × Str)} {H H' : Hp} (a : Same H H') : Sm T H H' := ⟨fun b o e _ => a b o e, fun h => h.ext a⟩
theorem Sm.at {T : List (Addr × Str)} {H H' : Hp} {a : Addr} {o : HO} (s : Sm T H H') (h : H a = some o) (n : ∀ ps, o ≠ .tbl ps := by intro ps z; cases z) : H' a = some o := s.1 a o h n
theorem Sm.new {T : List (Addr × Str)} {H H' : Hp} {r : Addr} {o : HO} (s : Sm T H H') (h : H' r = none) : Sm T H (upd H' r o) := s.trans (.of fun q u e => by rw [upd_ne (ne_of_none e h)]; exact e)
theorem Sm.mut {T : List (Addr × Str)} {H H' : Hp} {r : Addr} {o u : HO} (s : Sm T H H') (hn : H r = none) (h : H' r = some u) (hu : ∀ ps, u ≠ .tbl ps := by intro ps z; cases z) (hc : ∀ c q, u ≠ CodeO c q := by intro c q z; cases z) : Sm T H (upd H' r o) := by
  refine ⟨fun b w e n => ?_, fun t p hp => ?_⟩
  · rw [upd_ne (ne_of_none e hn)]
    exact s.1 b w e n
  · obtain ⟨ps, a1, a2, a3⟩ := s.2 t p hp
    refine ⟨ps, by rw [upd_ne (fun z => by rw [z, h] at a1; cases a1; exact hu ps rfl)]; exact a1, a2, fun pos cv e => ?_⟩
    obtain ⟨c, e1, e2⟩ := a3 pos cv e
    exact ⟨c, e1, by rw [upd_ne (fun z => by rw [z, h] at e2; exact hc _ _ (Option.some.inj e2))]; exact e2⟩
theorem Sm.seqT {K : PySem.W.Frag} {T : List (Addr × Str)} {H H' : Hp} {a : Addr} {xs : List V} (s : Sm T H H') (h : SqL K H a xs) : SqL K H' a xs := by
  rcases h with (h | ⟨o, h⟩) | h
  · exact .inl (.inl (s.at h))
  · exact .inl (.inr ⟨o, s.at h⟩)
  · exact .inr h
theorem tabIn_of {K : PySem.W.Frag} {x : Str} {f c P : Addr} {oc o1 : Value} {od o2 : Option Addr} {fd : FuncData} {sl o3 : Array (Option Value)} {vs : Array Value} (a : PySem.W.nsIn K mainGlobals x = some (some (.ref f))) (l : K.lookup f = some ⟨oc, od, .func fd, sl⟩) (hc : fd.code = .ref c)
    (lc : K.lookup c = some ⟨o1, o2, .fields vs, o3⟩) (hv : vs[11]? = some (.ref P)) : PySem.W.tabIn K x = some (c, P) := by
  unfold PySem.W.tabIn
  rw [a]
  simp only [l, hc, lc, hv]
theorem no_tab {K : PySem.W.Frag} {h : Heap} {P : Addr} (X : K.In h) (hP : h.get? P = some { cls := .none, data := .fields #[] }) (hK : PySem.W.noTabs K = true) : K.lookup P = none := by
  cases q : K.lookup P with
  | none => rfl
  | some o =>
    have e := X _ _ q
    rw [hP] at e
    cases e
    have h2 := List.all_eq_true.mp hK (P, _) (PySem.W.mem_of_lookupK q)
    exact absurd (show false = true from h2) Bool.false_ne_true
theorem tab_uniq : ∀ {l : List (Addr × Str)}, (l.map (·.1)).Nodup → ∀ {P : Addr} {s : Str}, (P, s) ∈ l → ∀ p ∈ l, p.1 = P → p.2 = s
  | [], _, _, _, h => by cases h
  | q :: r, nd, P, s, h => fun p hp e => by
    rw [List.map_cons, List.nodup_cons] at nd
    rcases List.mem_cons.mp h with h | h
    · rcases List.mem_cons.mp hp with hp | hp
      · rw [hp, ← h]
      · exact absurd (List.mem_map.mpr ⟨p, hp, by rw [e, ← h]⟩) nd.1
    · rcases List.mem_cons.mp hp with hp | hp
      · exact absurd (List.mem_map.mpr ⟨_, h, by rw [← e, hp]⟩) nd.1
      · exact tab_uniq nd.2 h p hp e
/-- the end, with tables -/
theorem walk_tabs {l : PySem.W.OpenLaw} {n k : Nat} {q : Program} {loose : List Str} {XP : (Str → Option Value) → Heap → Prop} {YP : World → Heap → Prop} {d : DefRec} {K : Params → PySem.W.Frag} {CX : World → CXT} {x : Str}
    (hn : l.most = some n) (hn2 : n ≤ sizeLine) (hdf : d.params.defaults = []) (hr : Room k callerA) (hY : ∀ (w : World) (h : Heap), YP w h → (K w.params).In h)
    (F : ∀ (w : World) (mg : Str → Option Value) (fa : Addr) (h : Heap), (∀ (y : Str) (c P : Addr), ((recsOf q).find? (fun e => e.name == y)).isSome = true → PySem.W.tabIn (K w.params) y = some (c, P) → PySem.W.CodeHd h c P ∧ h.get? P = some { cls := .none, data := .fields #[] }) →
      (K w.params).In h → h.Ns mainGlobals mg → mg d.name = some (.ref fa) → LawAtS l w (K w.params) (CX w) k n x mg fa h)
    (hCX : ∀ (w : World) (H : Hp) (s : Shared) (e : Value) (s' : Shared), CX w [] H s (fun _ _ _ => False) e s' → False) :
    PySem.W.WalkO q loose XP YP l.row.toRowW d [] (fun f vs => PySem.call f vs) := by
  refine Att.attach_callB hn hdf fun w s₀ s₁ mg mb fa o pm cd doc a vs ns G Y ho hd hcd hmg hobj hints hlen hbits hg => ?_
  have KX := hY w _ Y
  obtain ⟨fd, cs, sp, hT, nT, C, hb, hsp, hF⟩ := F w mg fa _ (fun y c P hr ht => by
    obtain ⟨d', hd'⟩ := Option.isSome_iff_exists.mp hr
    exact PySem.W.tab_of G.T KX hd' ht) KX G.T.g hmg
  exact law_callTs KX G.T.g G.T.b G.T.builtins G.T.nolimit hg hT nT C G.T.bmain hobj hints (Nat.le_trans hlen hn2) hr hF hb (fun H hH hS => hsp H a ns hlen hbits hH hS) fun H e s' => hCX w H s₁ e s'
end Fw
namespace Fw
/-! ### sums, counts -/
def sZ (f : Nat → Int) : Nat → Int
  | 0 => 0
  | n + 1 => sZ f n + f n
theorem sZ_congr {f g : Nat → Int} : ∀ {n : Nat}, (∀ i, i < n → f i = g i) → sZ f n = sZ g n
  | 0, _ => rfl
  | n + 1, h => by
    show sZ f n + f n = sZ g n + g n
    rw [sZ_congr (n := n) fun i hi => h i (by omega), h n (by omega)]
theorem sZ_add (f g : Nat → Int) : ∀ n : Nat, sZ (fun i => f i + g i) n = sZ f n + sZ g n
  | 0 => rfl
  | n + 1 => by
    show sZ _ n + (f n + g n) = (sZ f n + f n) + (sZ g n + g n)
    rw [sZ_add f g n]; omega
theorem sZ_sub (f g : Nat → Int) : ∀ n : Nat, sZ (fun i => f i - g i) n = sZ f n - sZ g n
  | 0 => rfl
  | n + 1 => by
    show sZ _ n + (f n - g n) = (sZ f n + f n) - (sZ g n + g n)
    rw [sZ_sub f g n]; omega
theorem sZ_zero : ∀ n : Nat, sZ (fun _ => 0) n = 0
  | 0 => rfl
  | n + 1 => by
    show sZ _ n + 0 = 0
    rw [sZ_zero n]; rfl
theorem sZ_const (c : Int) : ∀ n : Nat, sZ (fun _ => c) n = n * c
  | 0 => by simp [sZ]
  | n + 1 => by
    show sZ _ n + c = _
    rw [sZ_const c n, Int.natCast_succ, Int.add_mul, Int.one_mul]
theorem sZ_mul (c : Int) (f : Nat → Int) : ∀ n : Nat, sZ (fun i => c * f i) n = c * sZ f n
  | 0 => by simp [sZ]
  | n + 1 => by
    show sZ _ n + c * f n = c * (sZ f n + f n)
    rw [sZ_mul c f n, Int.mul_add]
theorem sZ_head (f : Nat → Int) : ∀ n : Nat, sZ f (n + 1) = f 0 + sZ (fun i => f (i + 1)) n
  | 0 => by simp [sZ]
  | n + 1 => by
    show sZ f (n + 1) + f (n + 1) = f 0 + (sZ (fun i => f (i + 1)) n + f (n + 1))
    rw [sZ_head f n]; omega
theorem sZ_rev (f : Nat → Int) : ∀ n : Nat, sZ (fun i => f (n - 1 - i)) n = sZ f n
  | 0 => rfl
  | n + 1 => by
    rw [sZ_head]
    show f (n + 1 - 1 - 0) + _ = sZ f n + f n
    have e : sZ (fun i => f (n + 1 - 1 - (i + 1))) n = sZ (fun i => f (n - 1 - i)) n := sZ_congr fun i _ => by
      show f _ = f _
      congr 1; omega
    rw [e, sZ_rev f n, Nat.add_sub_cancel, Nat.sub_zero]; omega
theorem sZ_swap (f : Nat → Nat → Int) (m : Nat) : ∀ n : Nat, sZ (fun i => sZ (fun j => f i j) m) n = sZ (fun j => sZ (fun i => f i j) n) m
  | 0 => by
    show 0 = sZ (fun _ => 0) m
    rw [sZ_zero]
  | n + 1 => by
    show sZ _ n + sZ _ m = _
    rw [sZ_swap f m n, ← sZ_add]
    rfl
theorem sZ_split (f : Nat → Int) (n : Nat) : ∀ m : Nat, sZ f (n + m) = sZ f n + sZ (fun i => f (n + i)) m
  | 0 => by show sZ f n = sZ f n + 0; omega
  | m + 1 => by
    show sZ f (n + m) + f (n + m) = sZ f n + (sZ _ m + f (n + m))
    rw [sZ_split f n m]; omega
theorem sZ_nonneg {f : Nat → Int} : ∀ {n : Nat}, (∀ i, i < n → 0 ≤ f i) → 0 ≤ sZ f n
  | 0, _ => Int.le_refl 0
  | n + 1, h => by
    have a := sZ_nonneg (f := f) (n := n) fun i hi => h i (by omega)
    have b := h n (by omega)
    show 0 ≤ sZ f n + f n
    omega
/-- n (n - 1) / 2 -/
theorem sZ_id : ∀ n : Nat, sZ (fun i => (i : Int)) n = (n : Int) * ((n : Int) - 1) / 2
  | 0 => by simp [sZ]
  | n + 1 => by
    show sZ _ n + (n : Int) = _
    rw [sZ_id n]
    have e : ((n + 1 : Nat) : Int) * (((n + 1 : Nat) : Int) - 1) = (n : Int) * ((n : Int) - 1) + 2 * n := by
      rw [Int.natCast_succ, show (n : Int) + 1 - 1 = n by omega, Int.add_mul, Int.mul_sub]
      omega
    rw [e, Int.mul_comm 2 (n : Int), Int.add_mul_ediv_right _ _ (by decide)]
/-! ### sums of quotients -/
def QS (a b m : Int) (n : Nat) : Int := sZ (fun i => (a * i + b) / m) n
theorem QS_red (a b : Int) {m : Int} (hm : 0 < m) (n : Nat) : QS a b m n = (n : Int) * ((n : Int) - 1) / 2 * (a / m) + (n : Int) * (b / m) + QS (a % m) (b % m) m n := by
  unfold QS
  have e : sZ (fun i => (a * (i : Int) + b) / m) n = sZ (fun i => ((a / m) * (i : Int) + b / m) + (a % m * (i : Int) + b % m) / m) n := sZ_congr fun i _ => by
    have ea := Int.emod_add_mul_ediv a m
    have eb := Int.emod_add_mul_ediv b m
    have z : a * (i : Int) + b = (a % m * (i : Int) + b % m) + m * ((a / m) * (i : Int) + b / m) := by
      have h1 : a * (i : Int) = (a % m + m * (a / m)) * (i : Int) := by rw [ea]
      rw [h1, Int.add_mul, Int.mul_add, Int.mul_assoc]
      omega
    show (a * (i : Int) + b) / m = _
    rw [z, Int.add_mul_ediv_left _ _ (Int.ne_of_gt hm)]
    omega
  rw [e, sZ_add, sZ_add, sZ_mul, sZ_const, sZ_id, Int.mul_comm (a / m)]
/-- how often (j + 1) m ≤ y -/
theorem sZ_le {m y : Int} (hm : 0 < m) (hy : 0 ≤ y) : ∀ n : Nat, y / m ≤ n → sZ (fun j => if ((j : Int) + 1) * m ≤ y then 1 else 0) n = y / m
  | 0, h => by
    have := Int.ediv_nonneg hy (Int.le_of_lt hm)
    show 0 = y / m
    omega
  | n + 1, h => by
    have iff : ((n : Int) + 1) * m ≤ y ↔ (n : Int) + 1 ≤ y / m := (Int.le_ediv_iff_mul_le hm).symm
    show sZ _ n + (if ((n : Int) + 1) * m ≤ y then 1 else 0) = y / m
    by_cases c : (n : Int) + 1 ≤ y / m
    · have e : y / m = (n : Int) + 1 := by omega
      rw [if_pos (iff.mpr c), e]
      have all : sZ (fun j => if ((j : Int) + 1) * m ≤ y then 1 else 0) n = sZ (fun _ => 1) n := sZ_congr fun j hj => by
        have : ((j : Int) + 1) * m ≤ y := (Int.le_ediv_iff_mul_le hm).mp (by omega)
        rw [if_pos this]
      rw [all, sZ_const]; omega
    · rw [if_neg fun z => c (iff.mp z), sZ_le hm hy n (by omega)]; omega
/-- the points below a line, row by row -/
theorem QS_turn {a b m : Int} (ha : 0 < a) (ham : a < m) (hb : 0 ≤ b) (hbm : b < m) (n : Nat) {N : Nat} (hN : (N : Int) = (a * n + b) / m) : QS a b m n = QS m ((a * n + b) % m) a N := by
  have hm : 0 < m := by omega
  unfold QS
  have hai : ∀ i : Nat, 0 ≤ a * (i : Int) := fun i => Int.mul_nonneg (Int.le_of_lt ha) (Int.natCast_nonneg i)
  have e1 : sZ (fun i => (a * (i : Int) + b) / m) n = sZ (fun i => sZ (fun j => if ((j : Int) + 1) * m ≤ a * (i : Int) + b then 1 else 0) N) n := sZ_congr fun i hi => by
    refine (sZ_le hm (by have := hai i; omega) N ?_).symm
    rw [hN]
    refine Int.ediv_le_ediv hm ?_
    have : a * (i : Int) ≤ a * (n : Int) := Int.mul_le_mul_of_nonneg_left (by omega) (Int.le_of_lt ha)
    omega
  rw [e1, sZ_swap]
  have e2 : sZ (fun j => sZ (fun i => if ((j : Int) + 1) * m ≤ a * (i : Int) + b then 1 else 0) n) N = sZ (fun j => (a * n + b - ((j : Int) + 1) * m) / a) N := sZ_congr fun j hj => by
    rw [← sZ_rev]
    have hjm : ((j : Int) + 1) * m ≤ a * n + b := (Int.le_ediv_iff_mul_le hm).mp (by omega)
    have hm1 : m ≤ ((j : Int) + 1) * m := by
      have : 1 * m ≤ ((j : Int) + 1) * m := Int.mul_le_mul_of_nonneg_right (by omega) (Int.le_of_lt hm)
      omega
    refine Eq.trans (sZ_congr fun i hi => ?_) (sZ_le ha (y := a * n + b - ((j : Int) + 1) * m) (by omega) n ?_)
    · have e : a * ((n - 1 - i : Nat) : Int) = a * n - ((i : Int) + 1) * a := by
        rw [show ((n - 1 - i : Nat) : Int) = (n : Int) - ((i : Int) + 1) by omega, Int.mul_sub, Int.mul_comm a ((i : Int) + 1)]
      show (if ((j : Int) + 1) * m ≤ a * ((n - 1 - i : Nat) : Int) + b then (1 : Int) else 0) = _
      rw [e]
      by_cases c : ((i : Int) + 1) * a ≤ a * n + b - ((j : Int) + 1) * m
      · rw [if_pos c, if_pos (by omega)]
      · rw [if_neg c, if_neg (by omega)]
    · have : (a * n + b - ((j : Int) + 1) * m) / a ≤ (a * n) / a := Int.ediv_le_ediv ha (by omega)
      rw [Int.mul_ediv_cancel_left _ (Int.ne_of_gt ha)] at this
      exact this
  rw [e2, ← sZ_rev]
  refine sZ_congr fun t ht => ?_
  have er := Int.emod_add_mul_ediv (a * n + b) m
  show (a * n + b - (((N - 1 - t : Nat) : Int) + 1) * m) / a = (m * t + (a * n + b) % m) / a
  congr 1
  rw [show ((N - 1 - t : Nat) : Int) + 1 = (N : Int) - t by omega, Int.sub_mul, hN, Int.mul_comm _ m, Int.mul_comm _ m]
  omega
theorem QS_zero {a b m : Int} (ha : 0 ≤ a) (hb : 0 ≤ b) (n : Nat) (h : a * n + b < m) : QS a b m n = 0 := by
  unfold QS
  have e : sZ (fun i => (a * (i : Int) + b) / m) n = sZ (fun _ => 0) n := sZ_congr fun i hi => by
    have h1 : a * (i : Int) ≤ a * (n : Int) := Int.mul_le_mul_of_nonneg_left (by omega) ha
    exact Int.ediv_eq_zero_of_lt (by have := Int.mul_nonneg ha (Int.natCast_nonneg i); omega) (by omega)
  rw [e, sZ_zero]
/-! ### how many x from first on -/
def cN (p : Int → Bool) (first : Int) (n : Nat) : Int := sZ (fun i => if p (first + i) = true then 1 else 0) n
def tot (p : Int → Bool) (first last : Int) : Int := cN p first (last - first + 1).toNat
theorem tot_nonneg (p : Int → Bool) (first last : Int) : 0 ≤ tot p first last := sZ_nonneg fun i _ => by
  show 0 ≤ (if p (first + i) = true then (1 : Int) else 0)
  split <;> decide
theorem tot_none {p : Int → Bool} {first last : Int} (h : last < first) : tot p first last = 0 := by
  unfold tot
  rw [show (last - first + 1).toNat = 0 by omega]
  rfl
theorem tot_step (p : Int → Bool) {first last : Int} (h : first ≤ last) : tot p first last = tot p first (last - 1) + (if p last = true then 1 else 0) := by
  unfold tot
  rw [show (last - first + 1).toNat = (last - 1 - first + 1).toNat + 1 by omega]
  show cN p first _ + (if p (first + (((last - 1 - first + 1).toNat : Nat) : Int)) = true then 1 else 0) = _
  rw [show first + (((last - 1 - first + 1).toNat : Nat) : Int) = last by omega]
theorem tot_split (p : Int → Bool) {first mid last : Int} (h1 : first - 1 ≤ mid) (h2 : mid ≤ last) : tot p first last = tot p first mid + tot p (mid + 1) last := by
  unfold tot cN
  rw [show (last - first + 1).toNat = (mid - first + 1).toNat + (last - (mid + 1) + 1).toNat by omega, sZ_split]
  congr 1
  refine sZ_congr fun i _ => ?_
  rw [show first + (((mid - first + 1).toNat + i : Nat) : Int) = mid + 1 + i by omega]
theorem tot_mono (p : Int → Bool) {first m n : Int} (h : m ≤ n) : tot p first m ≤ tot p first n := by
  by_cases c : first - 1 ≤ m
  · rw [tot_split p c h]
    have := tot_nonneg p (m + 1) n
    omega
  · rw [tot_none (p := p) (show m < first by omega)]
    exact tot_nonneg p first n
theorem tot_one (p : Int → Bool) (x : Int) : tot p x x = if p x = true then 1 else 0 := by
  rw [tot_step p (Int.le_refl x), tot_none (show x - 1 < x by omega)]; omega
theorem tot_congr {p q : Int → Bool} {first last : Int} (h : ∀ x, first ≤ x → x ≤ last → p x = q x) : tot p first last = tot q first last := by
  unfold tot cN
  refine sZ_congr fun i hi => ?_
  rw [h (first + i) (by omega) (by omega)]
theorem tot_pos {p : Int → Bool} {first last x : Int} (h1 : first ≤ x) (h2 : x ≤ last) (hp : p x = true) : 0 < tot p first last := by
  have a := tot_mono p (first := first) h2
  rw [tot_step p h1, if_pos hp] at a
  have := tot_nonneg p first (x - 1)
  omega
theorem tot_zero_iff {p : Int → Bool} {first last : Int} : tot p first last = 0 ↔ ∀ x, first ≤ x → x ≤ last → p x = false := by
  constructor
  · intro h x h1 h2
    cases e : p x with
    | false => rfl
    | true => have := tot_pos h1 h2 e; omega
  · intro h
    rw [tot_congr (q := fun _ => false) h]
    unfold tot cN
    rw [show (fun i : Nat => if (fun _ : Int => false) (first + i) = true then (1 : Int) else 0) = fun _ => 0 from rfl, sZ_zero]
theorem tot_le (p : Int → Bool) {first last : Int} (h : first ≤ last + 1) : tot p first last ≤ last - first + 1 := by
  have key : ∀ n : Nat, cN p first n ≤ n := fun n => by
    induction n with
    | zero => exact Int.le_refl 0
    | succ n ih =>
      show cN p first n + (if p (first + n) = true then 1 else 0) ≤ _
      split <;> omega
  have := key (last - first + 1).toNat
  unfold tot
  omega
theorem tot_all_iff {p : Int → Bool} {first last : Int} (h : first ≤ last + 1) : tot p first last = last - first + 1 ↔ ∀ x, first ≤ x → x ≤ last → p x = true := by
  have neg : tot p first last + tot (fun x => !p x) first last = last - first + 1 := by
    unfold tot cN
    rw [← sZ_add, sZ_congr (g := fun _ => 1) fun i _ => (by show ((if p (first + i) = true then (1 : Int) else 0) + if (!p (first + i)) = true then 1 else 0) = 1; cases p (first + i) <;> rfl), sZ_const]
    omega
  constructor
  · intro e x h1 h2
    have := tot_zero_iff.mp (show tot (fun x => !p x) first last = 0 by omega) x h1 h2
    cases q : p x with
    | true => rfl
    | false => rw [q] at this; cases this
  · intro e
    have : tot (fun x => !p x) first last = 0 := tot_zero_iff.mpr fun x h1 h2 => by
      show (!p x) = false
      rw [e x h1 h2]; rfl
    omega
theorem tot_not {p : Int → Bool} {first last : Int} (h : first ≤ last + 1) : tot (fun x => !p x) first last = last - first + 1 - tot p first last := by
  have neg : tot p first last + tot (fun x => !p x) first last = last - first + 1 := by
    unfold tot cN
    rw [← sZ_add, sZ_congr (g := fun _ => 1) fun i _ => (by show ((if p (first + i) = true then (1 : Int) else 0) + if (!p (first + i)) = true then 1 else 0) = 1; cases p (first + i) <;> rfl), sZ_const]
    omega
  omega
/-- moving along -/
theorem tot_shift (p : Int → Bool) (first last d : Int) : tot (fun x => p (x + d)) first last = tot p (first + d) (last + d) := by
  unfold tot cN
  rw [show (last + d - (first + d) + 1).toNat = (last - first + 1).toNat by omega]
  refine sZ_congr fun i _ => ?_
  show (if p (first + (i : Int) + d) = true then (1 : Int) else 0) = _
  rw [show first + (i : Int) + d = first + d + i by omega]
/-- turning round -/
theorem tot_turn (p : Int → Bool) (first last : Int) : tot (fun x => p (-x)) first last = tot p (-last) (-first) := by
  unfold tot cN
  rw [show (-first - -last + 1).toNat = (last - first + 1).toNat by omega, ← sZ_rev]
  refine sZ_congr fun i hi => ?_
  show (if p (-(first + (((last - first + 1).toNat - 1 - i : Nat) : Int))) = true then (1 : Int) else 0) = _
  rw [show -(first + (((last - first + 1).toNat - 1 - i : Nat) : Int)) = -last + i by omega]
/-! ### the results of a line within bounds -/
/-- of the integers that are equal to y modulo m, one is from lo to hi -/
def inR (m lo hi y : Int) : Bool := decide (lo ≤ hi ∧ (y - lo) % m ≤ hi - lo)
theorem inR_quot {m lo hi : Int} (hm : 0 < m) (h1 : lo ≤ hi) (h2 : hi - lo < m) (y : Int) : (y - lo) / m - (y - hi - 1) / m = if inR m lo hi y = true then 1 else 0 := by
  have d1 := Int.emod_add_mul_ediv (y - lo) m
  have r0 := Int.emod_nonneg (y - lo) (Int.ne_of_gt hm)
  have r1 := Int.emod_lt_of_pos (y - lo) hm
  unfold inR
  by_cases c : (y - lo) % m ≤ hi - lo
  · rw [if_pos (decide_eq_true ⟨h1, c⟩)]
    have e : y - hi - 1 = ((y - lo) % m + (m - (hi - lo) - 1)) + m * ((y - lo) / m - 1) := by
      rw [Int.mul_sub, Int.mul_one]; omega
    have z := Int.ediv_eq_zero_of_lt (a := (y - lo) % m + (m - (hi - lo) - 1)) (b := m) (by omega) (by omega)
    rw [e, Int.add_mul_ediv_left _ _ (Int.ne_of_gt hm), z]
    omega
  · rw [if_neg (by rw [decide_eq_true_eq]; exact fun z => c z.2)]
    have e : y - hi - 1 = ((y - lo) % m - (hi - lo) - 1) + m * ((y - lo) / m) := by omega
    have z := Int.ediv_eq_zero_of_lt (a := (y - lo) % m - (hi - lo) - 1) (b := m) (by omega) (by omega)
    rw [e, Int.add_mul_ediv_left _ _ (Int.ne_of_gt hm), z]
    omega
/-- what quotient_total tells -/
def QT (a b m first last : Int) : Int := sZ (fun i => (a * (first + i) + b) / m) (last - first + 1).toNat
theorem QT_QS (a b m first last : Int) : QT a b m first last = QS a (b + a * first) m (last - first + 1).toNat := by
  unfold QT QS
  refine sZ_congr fun i _ => ?_
  rw [Int.mul_add]
  congr 1; omega
theorem QT_between {a b m first last lo hi : Int} (hm : 0 < m) (h1 : lo ≤ hi) (h2 : hi - lo < m) : QT a (b - lo) m first last - QT a (b - hi - 1) m first last = tot (fun x => inR m lo hi (a * x + b)) first last := by
  unfold QT tot cN
  rw [← sZ_sub]
  refine sZ_congr fun i _ => ?_
  rw [← inR_quot hm h1 h2]
  rw [show a * (first + (i : Int)) + (b - lo) = a * (first + (i : Int)) + b - lo by omega, show a * (first + (i : Int)) + (b - hi - 1) = a * (first + (i : Int)) + b - hi - 1 by omega]
theorem inR_none {m lo hi : Int} (h : hi < lo) (y : Int) : inR m lo hi y = false := decide_eq_false fun z => by omega
theorem tot_never {p : Int → Bool} (h : ∀ x, p x = false) (first last : Int) : tot p first last = 0 := tot_zero_iff.mpr fun x _ _ => h x
end Fw
namespace Fw
/-! ### the wanted ones, in a row -/
def wl (p : Int → Bool) (f : Int) (n : Nat) : List Int := ((List.range n).map fun i : Nat => f + (i : Int)).filter p
theorem wl_succ (p : Int → Bool) (f : Int) (n : Nat) : wl p f (n + 1) = wl p f n ++ (if p (f + n) = true then [f + (n : Int)] else []) := by
  unfold wl
  rw [List.range_succ, List.map_append, List.filter_append, List.map_singleton]
  congr 1
  cases h : p (f + (n : Int)) with
  | true => rw [List.filter_cons_of_pos h, if_pos rfl]; rfl
  | false => rw [List.filter_cons_of_neg (by rw [h]; exact Bool.false_ne_true), if_neg Bool.false_ne_true]; rfl
theorem wl_len (p : Int → Bool) (f : Int) : ∀ n : Nat, ((wl p f n).length : Int) = cN p f n
  | 0 => rfl
  | n + 1 => by
    rw [wl_succ, List.length_append]
    show _ = cN p f n + (if p (f + n) = true then 1 else 0)
    rw [← wl_len p f n]
    split <;> simp
theorem wl_tot {p : Int → Bool} {f l : Int} {n : Nat} (h : l - f + 1 = n) : ((wl p f n).length : Int) = tot p f l := by
  rw [wl_len]
  unfold tot
  rw [show (l - f + 1).toNat = n by omega]
theorem wl_mem {p : Int → Bool} {f : Int} {n : Nat} {x : Int} : x ∈ wl p f n ↔ f ≤ x ∧ x < f + n ∧ p x = true := by
  unfold wl
  rw [List.mem_filter, List.mem_map]
  constructor
  · rintro ⟨⟨i, hi, rfl⟩, h⟩
    have := List.mem_range.mp hi
    exact ⟨by omega, by omega, h⟩
  · rintro ⟨h1, h2, h3⟩
    exact ⟨⟨(x - f).toNat, List.mem_range.mpr (by omega), by omega⟩, h3⟩
/-- number k has k ahead -/
theorem wl_get {p : Int → Bool} {f : Int} : ∀ {n k : Nat} {x : Int}, (wl p f n)[k]? = some x → f ≤ x ∧ x < f + n ∧ p x = true ∧ tot p f (x - 1) = k
  | 0, k, x, h => by simp [wl] at h
  | n + 1, k, x, h => by
    rw [wl_succ] at h
    by_cases c : k < (wl p f n).length
    · rw [List.getElem?_append_left c] at h
      obtain ⟨a, b, d, e⟩ := wl_get h
      exact ⟨a, by omega, d, e⟩
    · rw [List.getElem?_append_right (by omega)] at h
      by_cases hp : p (f + n) = true
      · rw [if_pos hp] at h
        have e0 : k - (wl p f n).length = 0 := by
          have := (List.getElem?_eq_some_iff.mp h).1
          simpa using this
        rw [e0] at h
        have ex : f + (n : Int) = x := by simpa using h
        subst ex
        refine ⟨by omega, by omega, hp, ?_⟩
        rw [← wl_tot (n := n) (by omega)]
        omega
      · rw [if_neg hp] at h
        simp at h
theorem at_unique {p : Int → Bool} {f x y j : Int} (x1 : f ≤ x) (px : p x = true) (xj : tot p f (x - 1) = j) (y1 : f ≤ y) (py : p y = true) (yj : tot p f (y - 1) = j) : x = y := by
  rcases Int.lt_trichotomy x y with h | h | h
  · have := tot_mono p (first := f) (show x ≤ y - 1 by omega)
    rw [tot_step p x1, if_pos px] at this
    omega
  · exact h
  · have := tot_mono p (first := f) (show y ≤ x - 1 by omega)
    rw [tot_step p y1, if_pos py] at this
    omega
theorem wl_at {p : Int → Bool} {f : Int} {n k : Nat} {x y : Int} (h : (wl p f n)[k]? = some x) (y1 : f ≤ y) (py : p y = true) (yj : tot p f (y - 1) = k) : y = x := by
  obtain ⟨a, _, c, d⟩ := wl_get h
  exact at_unique y1 py yj a c d
theorem wl_nil {p : Int → Bool} {f l : Int} {n : Nat} (h : l - f + 1 = n) : wl p f n = [] ↔ tot p f l = 0 := by
  rw [← wl_tot h, ← List.length_eq_zero_iff]; omega
end Fw
namespace Fw
open PySem PySem.Spec PyProof.Rows L2
/-! ### ranges of any ints -/
theorem turn_long {P : Program} {w : World} {K : PySem.W.Frag} {tg : Expr} (it : Addr) (lo : Int) (n : Nat) : Turn P w K tg (Itr lo n) [it] it (fun i h => IsLongIter h it (lo + (i : Nat) * 1) ((n : Int) - (i : Nat)) 1) where
  mem := by simp
  obj := fun i h st b hb => by
    have e : b = it := by simpa using hb
    subst e
    exact ⟨_, st, fun v z => by
      have z' : Data.fields _ = Data.cell v := z
      cases z'⟩
  keep := fun i h h' st k => k it (by simp) _ st
  item := by
    intro X hP hw hK hc i pins s σ H E I hf st hg
    subst hP hw hK
    obtain ⟨f0, f1, f2, f3, f4, f5⟩ := hf it (by simp)
    have W := Walks.longrange (prog := X.prog) (w := X.w) (I.ok.hd hc) it lo 1 n
    refine W.item i s _ _ hg st fun v h' tk hv st' kk => ?_
    obtain ⟨t, rfl⟩ := hv
    have I1 : Inv X pins σ H { s with heap := h', toks := tk } := I.turned (fun b o hb e => kk b o (by simpa using hb) e) f0 f1 f3 f4 f5
    refine ⟨_, rfl, go_of (s := { s with heap := h', toks := tk }) (n := "longrange_iterator") st' rfl rfl (by decide) ⟨.int (lo + i), H, I1, ⟨t, ?_⟩, ⟨rfl, rfl⟩, st', fun b hb => (hf b hb).1⟩⟩
    rw [Int.mul_one]
  done := by
    intro X hP hw hK hc i pins s σ H E I hf st hg
    subst hP hw hK
    obtain ⟨f0, f1, f2, f3, f4, f5⟩ := hf it (by simp)
    exact wpAny_pyNext_long_end (I.ok.hd hc) st (by have : n ≤ i := hg; omega) fun h' eb => ⟨rfl, I.turned (t' := s.toks) (fun b o hb e => eb b o hb e) f0 f1 f3 f4 f5⟩
  self := fun _ _ _ _ _ st h => wpAny_pyIter_longiter st h
section
variable {X : Cx} {tg : Expr}
theorem range_itL {pins : List (Addr × Obj)} {σ : L2.St} {H : Hp} {s : Shared} {R : It → Hp → Prop} {E : Value → Shared → Prop} {lo hi : Int} {t u v : Tok} {tk : Nat} (I : Inv X pins σ H s)
    (q : R (Itr lo (hi - lo).toNat) H) : wpAny (model X.prog X.w) X.A (pyIter (.ref s.heap.objs.size)) (PIE X pins σ tg R) E { s with heap := s.heap.push { cls := .type "range", data := .fields #[.int lo t, .int hi u, .int 1 v] }, toks := tk } := by
  have I1 : Inv X pins σ H { s with heap := s.heap.push { cls := .type "range", data := .fields #[.int lo t, .int hi u, .int 1 v] }, toks := tk } := I.kept fun b o e => Heap.get?_push_of_some _ e
  have e1 : lo + ((0 : Nat) : Int) * 1 = lo := by simp
  have e2 : (((hi - lo).toNat : Nat) : Int) - ((0 : Nat) : Int) = Builtin.Range.rangeSize lo hi 1 := by rw [rangeSize_one]; split <;> omega
  cases hsm : Builtin.Range.small lo hi 1 with
  | true =>
    refine wpAny_pyIter_range (IsRange.new ..) hsm ?_
    refine ⟨(s.heap.push { cls := .type "range", data := .fields #[.int lo t, .int hi u, .int 1 v] }).objs.size, [(s.heap.push { cls := .type "range", data := .fields #[.int lo t, .int hi u, .int 1 v] }).objs.size], _, _, H, rfl,
      I1.kept (t' := tk) fun b o e => Heap.get?_push_of_some _ e, turn_range _ lo (hi - lo).toNat, ?_, fun b hb => ?_, q⟩
    · show IsRangeIter _ _ (lo + ((0 : Nat) : Int) * 1) ((((hi - lo).toNat : Nat) : Int) - ((0 : Nat) : Int)) 1
      rw [e1, e2]
      exact Heap.get?_push_size _ rfl
    · have e : b = (s.heap.push { cls := .type "range", data := .fields #[.int lo t, .int hi u, .int 1 v] }).objs.size := by simpa using hb
      subst e
      exact I1.fpOk (Nat.le_refl _) (I1.hok.fresh (Nat.le_refl _))
  | false =>
    refine wpAny_pyIter_longrange (IsRange.new ..) hsm ?_
    refine ⟨(s.heap.push { cls := .type "range", data := .fields #[.int lo t, .int hi u, .int 1 v] }).objs.size, [(s.heap.push { cls := .type "range", data := .fields #[.int lo t, .int hi u, .int 1 v] }).objs.size], _, _, H, rfl,
      I1.kept (t' := tk) fun b o e => Heap.get?_push_of_some _ e, turn_long _ lo (hi - lo).toNat, ?_, fun b hb => ?_, q⟩
    · show IsLongIter _ _ (lo + ((0 : Nat) : Int) * 1) ((((hi - lo).toNat : Nat) : Int) - ((0 : Nat) : Int)) 1
      rw [e1, e2]
      exact Heap.get?_push_size _ rfl
    · have e : b = (s.heap.push { cls := .type "range", data := .fields #[.int lo t, .int hi u, .int 1 v] }).objs.size := by simpa using hb
      subst e
      exact I1.fpOk (Nat.le_refl _) (I1.hok.fresh (Nat.le_refl _))
def iRngL (ta : TA) : TI := fun σ H R => ta σ H fun vs H1 => ∃ i j : Int, vs = [.int i, .int j] ∧ R (Itr i (j - i).toNat) H1
theorem pi_rangeL {a b : Expr} {ta : TA} {p pos : Pos} (hg : Gl X "range") (hm : X.mg "range" = none) (ha : PA X [a, b] ta) (hs : starEach [a, b] X.env = [(false, eval a X.env), (false, eval b X.env)] := by rfl) (hs2 : starEach [b] X.env = [(false, eval b X.env)] := by rfl) :
    PI X tg (.Call (.Name "range" p) [a, b] [] pos) (iRngL ta) := by
  refine ⟨fun pins s σ H R I h => ?_⟩
  refine Call_ (ld_blt I hg hm boot_range (PyProof.Rows.callWith_type1 (thn (ha.run pos pins s σ H _ I h) fun us s1 ⟨vs, H1, I1, r1, q1⟩ => ?_) (by rw [hs, hs2]) (by rw [hs2]; rfl)))
  obtain ⟨i, j, e, q⟩ := q1
  subst e
  cases r1 with
  | cons r rr =>
    cases rr with
    | cons r' rr =>
      cases rr
      obtain ⟨t, rfl⟩ := r
      obtain ⟨t', rfl⟩ := r'
      exact call_range_2 (range_itL I1 q)
end
end Fw
namespace Fw
/-! ### walks around a circle -/
structure Wk where
  (s t m e k r : Int)
def hn (s t p : Int) : Int := if s ≤ p + t then p + t - s else p + t
def hc (w : Wk) (p : Int) : Int := w.e + (if p < w.m then w.k else 0) + (if w.s ≤ p + w.t then w.r else 0)
def hP (w : Wk) : Nat → Int → Int
  | 0, p => p
  | n + 1, p => hn w.s w.t (hP w n p)
def hC (w : Wk) : Nat → Int → Int
  | 0, _ => 0
  | n + 1, p => hC w n p + hc w (hP w n p)
theorem hP_add (w : Wk) (m : Nat) (p : Int) : ∀ n : Nat, hP w (m + n) p = hP w n (hP w m p)
  | 0 => rfl
  | n + 1 => by
    show hn w.s w.t (hP w (m + n) p) = hn w.s w.t (hP w n (hP w m p))
    rw [hP_add w m p n]
theorem hC_add (w : Wk) (m : Nat) (p : Int) : ∀ n : Nat, hC w (m + n) p = hC w m p + hC w n (hP w m p)
  | 0 => by show hC w m p = hC w m p + 0; omega
  | n + 1 => by
    show hC w (m + n) p + hc w (hP w (m + n) p) = hC w m p + (hC w n (hP w m p) + hc w (hP w n (hP w m p)))
    rw [hC_add w m p n, hP_add w m p n]; omega
structure WF (w : Wk) : Prop where
  s0 : 0 < w.s
  t0 : 0 ≤ w.t
  ts : w.t < w.s
  m0 : 0 ≤ w.m
  ms : w.m ≤ w.s
  nn : ∀ p, 0 ≤ p → p < w.s → 0 ≤ hc w p
theorem hP_rng {w : Wk} (h : WF w) {p : Int} (p0 : 0 ≤ p) (p1 : p < w.s) : ∀ n : Nat, 0 ≤ hP w n p ∧ hP w n p < w.s
  | 0 => ⟨p0, p1⟩
  | n + 1 => by
    obtain ⟨a, b⟩ := hP_rng h p0 p1 n
    have t0 := h.t0
    have ts := h.ts
    show 0 ≤ hn w.s w.t (hP w n p) ∧ hn w.s w.t (hP w n p) < w.s
    unfold hn
    split <;> omega
theorem hC_nn {w : Wk} (h : WF w) {p : Int} (p0 : 0 ≤ p) (p1 : p < w.s) : ∀ n : Nat, 0 ≤ hC w n p
  | 0 => Int.le_refl _
  | n + 1 => by
    have a := hC_nn h p0 p1 n
    obtain ⟨b, c⟩ := hP_rng h p0 p1 n
    have := h.nn _ b c
    show 0 ≤ hC w n p + hc w (hP w n p)
    omega
theorem hC_mono {w : Wk} (h : WF w) {p : Int} (p0 : 0 ≤ p) (p1 : p < w.s) {m n : Nat} (hmn : m ≤ n) : hC w m p ≤ hC w n p := by
  obtain ⟨k, rfl⟩ : ∃ k, n = m + k := ⟨n - m, by omega⟩
  rw [hC_add]
  obtain ⟨a, b⟩ := hP_rng h p0 p1 m
  have := hC_nn h a b k
  omega
/-- n steps are done within the budget b, one more is not; g is left -/
def hT (w : Wk) (p b : Int) (n : Nat) (g : Int) : Prop := hC w n p + g = b ∧ 0 ≤ g ∧ g < hc w (hP w n p)
theorem hT_lt {w : Wk} (h : WF w) {p b g : Int} {n N : Nat} (p0 : 0 ≤ p) (p1 : p < w.s) (t : hT w p b n g) (hN : b < hC w N p) : n < N := by
  refine Nat.lt_of_not_le fun c => ?_
  have := hC_mono h p0 p1 c
  have := t.1
  have := t.2.1
  omega
theorem hT_ge {w : Wk} (h : WF w) {p b g : Int} {n N : Nat} (p0 : 0 ≤ p) (p1 : p < w.s) (t : hT w p b n g) (hN : hC w N p ≤ b) : N ≤ n := by
  refine Nat.le_of_not_lt fun c => ?_
  have h1 := hC_mono h p0 p1 (show n + 1 ≤ N from c)
  have h2 : hC w (n + 1) p = hC w n p + hc w (hP w n p) := rfl
  have := t.1
  have := t.2.2
  omega
/-! ceilings -/
theorem hceil {b t m i : Int} (ht : 0 < t) : b + i * t < m ↔ i < -((b - m) / t) := by
  have e := Int.ediv_lt_iff_lt_mul (a := b - m) (b := -i) ht
  rw [Int.neg_mul] at e
  constructor
  · intro h
    have := e.mpr (by omega)
    omega
  · intro h
    have := e.mp (by omega)
    omega
def Wk.mst (w : Wk) (b : Int) : Int := max 0 (-((b - w.m) / w.t))
def Wk.most (w : Wk) (b : Int) : Int := -((b - w.s) / w.t) - 1
def Wk.cost (w : Wk) (b n : Int) : Int := n * w.e + min n (w.mst b) * w.k
theorem mst_iff {w : Wk} (ht : 0 < w.t) {b i : Int} (hi : 0 ≤ i) : i < w.mst b ↔ b + i * w.t < w.m := by
  rw [hceil ht]; unfold Wk.mst; omega
theorem most_iff {w : Wk} (ht : 0 < w.t) {b i : Int} : i ≤ w.most b ↔ b + i * w.t < w.s := by
  rw [hceil ht]; unfold Wk.most; omega
/-- within a lap -/
theorem lap_in {w : Wk} (h : WF w) (ht : 0 < w.t) {b : Int} (b0 : 0 ≤ b) : ∀ n : Nat, (n : Int) ≤ w.most b → hP w n b = b + n * w.t ∧ hC w n b = w.cost b n
  | 0, _ => by
    refine ⟨?_, ?_⟩
    · show b = b + (0 : Nat) * w.t
      rw [show ((0 : Nat) : Int) = 0 from rfl, Int.zero_mul]; omega
    · show (0 : Int) = w.cost b (0 : Nat)
      unfold Wk.cost
      have : 0 ≤ w.mst b := by unfold Wk.mst; omega
      rw [show ((0 : Nat) : Int) = 0 from rfl, Int.zero_mul, show min 0 (w.mst b) = 0 by omega, Int.zero_mul]; rfl
  | n + 1, hn' => by
    obtain ⟨e1, e2⟩ := lap_in h ht b0 n (by omega)
    have a1 := (most_iff (w := w) ht).mp hn'
    have e3 : ((n + 1 : Nat) : Int) * w.t = n * w.t + w.t := by rw [Int.natCast_succ, Int.add_mul, Int.one_mul]
    have m1 := mst_iff (w := w) ht (b := b) (i := (n : Int)) (by omega)
    constructor
    · show hn w.s w.t (hP w n b) = _
      unfold hn
      rw [e1, if_neg (by omega), e3]; omega
    · show hC w n b + hc w (hP w n b) = _
      rw [e2, e1]
      unfold hc Wk.cost
      rw [if_neg (show ¬ w.s ≤ b + n * w.t + w.t by omega)]
      have e4 : ((n + 1 : Nat) : Int) * w.e = n * w.e + w.e := by rw [Int.natCast_succ, Int.add_mul, Int.one_mul]
      by_cases c : b + n * w.t < w.m
      · have c2 := m1.mpr c
        rw [if_pos c, show min (n : Int) (w.mst b) = n by omega, show min ((n + 1 : Nat) : Int) (w.mst b) = (n : Int) + 1 by omega, e4, Int.add_mul, Int.one_mul]; omega
      · have c2 := fun z => c (m1.mp z)
        rw [if_neg c, show min (n : Int) (w.mst b) = w.mst b by omega, show min ((n + 1 : Nat) : Int) (w.mst b) = w.mst b by omega, e4]; omega
def Wk.lng (w : Wk) : Int := -(-w.s / w.t)
def Wk.laps (w : Wk) : Wk := ⟨w.t, w.lng * w.t - w.s, w.m % w.t, w.lng * w.e + w.m / w.t * w.k + w.r, w.k, -w.e⟩
theorem lng_b {w : Wk} (ht : 0 < w.t) : w.s ≤ w.lng * w.t ∧ w.lng * w.t < w.s + w.t := by
  have e := Int.mul_ediv_add_emod (-w.s) w.t
  have r0 := Int.emod_nonneg (-w.s) (Int.ne_of_gt ht)
  have r1 := Int.emod_lt_of_pos (-w.s) ht
  unfold Wk.lng
  rw [Int.neg_mul, Int.mul_comm]
  omega
theorem mst_val {w : Wk} (h : WF w) (ht : 0 < w.t) {b : Int} (b0 : 0 ≤ b) (b1 : b < w.t) : w.mst b = w.m / w.t + (if b < w.m % w.t then 1 else 0) := by
  have e := Int.mul_ediv_add_emod w.m w.t
  have r0 := Int.emod_nonneg w.m (Int.ne_of_gt ht)
  have r1 := Int.emod_lt_of_pos w.m ht
  have q0 : 0 ≤ w.m / w.t := Int.ediv_nonneg h.m0 (Int.le_of_lt ht)
  have key : ∀ i : Int, 0 ≤ i → (i < w.mst b ↔ i < w.m / w.t + (if b < w.m % w.t then 1 else 0)) := fun i i0 => by
    rw [mst_iff ht i0]
    rw [Int.mul_comm i]
    rw [Int.mul_comm] at e
    rw [Int.mul_comm w.t]
    constructor
    · intro z
      by_cases c : i < w.m / w.t
      · split <;> omega
      · have := Int.mul_le_mul_of_nonneg_right (show w.m / w.t ≤ i by omega) (Int.le_of_lt ht)
        by_cases c2 : i = w.m / w.t
        · rw [c2] at z
          rw [if_pos (by omega)]; omega
        · have := Int.mul_le_mul_of_nonneg_right (show w.m / w.t + 1 ≤ i by omega) (Int.le_of_lt ht)
          rw [Int.add_mul, Int.one_mul] at this
          omega
    · intro z
      by_cases c : i < w.m / w.t
      · have := Int.mul_le_mul_of_nonneg_right (show i + 1 ≤ w.m / w.t by omega) (Int.le_of_lt ht)
        rw [Int.add_mul, Int.one_mul] at this
        omega
      · split at z
        · have c2 : i = w.m / w.t := by omega
          rw [c2]; omega
        · omega
  have n0 : 0 ≤ w.mst b := by unfold Wk.mst; omega
  have n1 : 0 ≤ w.m / w.t + (if b < w.m % w.t then (1 : Int) else 0) := by split <;> omega
  generalize w.m / w.t + (if b < w.m % w.t then (1 : Int) else 0) = z at *
  rcases Int.lt_trichotomy (w.mst b) z with c | c | c
  · have := (key _ n0).mpr c; omega
  · exact c
  · have := (key _ n1).mp c; omega
/-- a whole lap is a step of the walk of laps -/
theorem lap_one {w : Wk} (h : WF w) (ht : 0 < w.t) {b : Int} (b0 : 0 ≤ b) (b1 : b < w.t) : ∃ L : Nat, (L : Int) = w.most b + 1 ∧ 1 ≤ L ∧ hP w L b = hn w.laps.s w.laps.t b ∧ hC w L b = hc w.laps b ∧ b + L * w.t - w.s = hn w.laps.s w.laps.t b := by
  have ts := h.ts
  obtain ⟨l1, l2⟩ := lng_b (w := w) ht
  have mo0 : 0 ≤ w.most b := (most_iff (w := w) ht).mpr (by rw [Int.zero_mul]; omega)
  obtain ⟨n, hn'⟩ := Int.eq_ofNat_of_zero_le mo0
  obtain ⟨e1, e2⟩ := lap_in h ht b0 n (by omega)
  have a1 := (most_iff (w := w) ht (b := b) (i := (n : Int))).mp (by omega)
  have a2 : ¬ b + ((n : Int) + 1) * w.t < w.s := fun z => by
    have := (most_iff (w := w) ht).mpr z
    omega
  rw [Int.add_mul, Int.one_mul] at a2
  have e3 : ((n + 1 : Nat) : Int) * w.t = n * w.t + w.t := by rw [Int.natCast_succ, Int.add_mul, Int.one_mul]
  have pos : b + (n * w.t + w.t) - w.s = hn w.laps.s w.laps.t b := by
    show _ = hn w.t (w.lng * w.t - w.s) b
    unfold hn
    -- n + 1 is lng or one less
    have c1 : (n : Int) + 1 ≤ w.lng := by
      refine Int.not_lt.mp fun z => ?_
      have := Int.mul_le_mul_of_nonneg_right (show w.lng ≤ (n : Int) by omega) (Int.le_of_lt ht)
      omega
    have c2 : w.lng ≤ (n : Int) + 2 := by
      refine Int.not_lt.mp fun z => ?_
      have := Int.mul_le_mul_of_nonneg_right (show (n : Int) + 3 ≤ w.lng by omega) (Int.le_of_lt ht)
      rw [Int.add_mul] at this
      omega
    by_cases c : w.lng = (n : Int) + 1
    · have : w.lng * w.t = n * w.t + w.t := by rw [c, Int.add_mul, Int.one_mul]
      rw [if_neg (by omega)]; omega
    · have c3 : w.lng = (n : Int) + 2 := by omega
      have : w.lng * w.t = n * w.t + 2 * w.t := by rw [c3, Int.add_mul]
      rw [if_pos (by omega)]; omega
  refine ⟨n + 1, by omega, by omega, ?_, ?_, by rw [e3]; exact pos⟩
  · show hn w.s w.t (hP w n b) = _
    rw [← pos, e1]
    unfold hn
    rw [if_pos (by omega)]; omega
  · show hC w n b + hc w (hP w n b) = _
    rw [e2, e1]
    have mv := mst_val h ht b0 b1
    have mm : ∀ i : Int, 0 ≤ i → (i < w.mst b ↔ b + i * w.t < w.m) := fun i hi => mst_iff ht hi
    have mn := mm (n : Int) (by omega)
    have ml : w.mst b ≤ (n : Int) + 1 := by
      refine Int.not_lt.mp fun z => ?_
      have := (mm ((n : Int) + 1) (by omega)).mp z
      rw [Int.add_mul, Int.one_mul] at this
      have := h.ms
      omega
    have lhs : w.cost b n + hc w (b + n * w.t) = (n + 1) * w.e + w.mst b * w.k + w.r := by
      unfold Wk.cost hc
      rw [if_pos (show w.s ≤ b + n * w.t + w.t by omega), Int.add_mul, Int.one_mul]
      by_cases c : b + n * w.t < w.m
      · have := mn.mpr c
        rw [if_pos c, show min (n : Int) (w.mst b) = n by omega, show w.mst b = (n : Int) + 1 by omega, Int.add_mul, Int.one_mul]; omega
      · have := fun z => c (mn.mp z)
        rw [if_neg c, show min (n : Int) (w.mst b) = w.mst b by omega]; omega
    rw [lhs, mv]
    show _ = (w.lng * w.e + w.m / w.t * w.k + w.r) + (if b < w.m % w.t then w.k else 0) + (if w.t ≤ b + (w.lng * w.t - w.s) then -w.e else 0)
    have en : ((n : Int) + 1) * w.e = w.lng * w.e + (if w.t ≤ b + (w.lng * w.t - w.s) then -w.e else 0) := by
      have p2 := pos
      change _ = hn w.t (w.lng * w.t - w.s) b at p2
      unfold hn at p2
      split at p2
      · rename_i c
        rw [if_pos c]
        have : (w.lng - ((n : Int) + 1) - 1) * w.t = 0 := by
          rw [Int.sub_mul, Int.sub_mul, Int.add_mul, Int.one_mul]; omega
        have : w.lng - ((n : Int) + 1) - 1 = 0 := by
          rcases Int.mul_eq_zero.mp this with z | z
          · exact z
          · omega
        rw [show w.lng = (n : Int) + 1 + 1 by omega, Int.add_mul ((n : Int) + 1), Int.one_mul]; omega
      · rename_i c
        rw [if_neg c]
        have : (w.lng - ((n : Int) + 1)) * w.t = 0 := by
          rw [Int.sub_mul, Int.add_mul, Int.one_mul]; omega
        have : w.lng - ((n : Int) + 1) = 0 := by
          rcases Int.mul_eq_zero.mp this with z | z
          · exact z
          · omega
        rw [show w.lng = (n : Int) + 1 by omega]; omega
    rw [en, Int.add_mul]
    by_cases c : b < w.m % w.t
    · rw [if_pos c, if_pos c, Int.one_mul]; omega
    · rw [if_neg c, if_neg c, Int.zero_mul]; omega
theorem laps_wf {w : Wk} (h : WF w) (ht : 0 < w.t) : WF w.laps := by
  obtain ⟨l1, l2⟩ := lng_b (w := w) ht
  refine ⟨ht, by show 0 ≤ w.lng * w.t - w.s; omega, by show w.lng * w.t - w.s < w.t; omega, Int.emod_nonneg _ (Int.ne_of_gt ht), Int.le_of_lt (Int.emod_lt_of_pos _ ht), fun p p0 p1 => ?_⟩
  obtain ⟨L, _, _, _, e, _⟩ := lap_one h ht p0 p1
  rw [← e]
  exact hC_nn h p0 (by have := h.ts; have : p < w.t := p1; omega) L
/-- many laps -/
theorem lap_many {w : Wk} (h : WF w) (ht : 0 < w.t) {b : Int} (b0 : 0 ≤ b) (b1 : b < w.t) : ∀ N : Nat, ∃ S : Nat, N ≤ S ∧ hP w S b = hP w.laps N b ∧ hC w S b = hC w.laps N b ∧ b + S * w.t - N * w.s = hP w.laps N b
  | 0 => ⟨0, Nat.le_refl _, rfl, rfl, by
    show b + (0 : Nat) * w.t - (0 : Nat) * w.s = b
    rw [show ((0 : Nat) : Int) = 0 from rfl, Int.zero_mul, Int.zero_mul]; omega⟩
  | N + 1 => by
    obtain ⟨S, hS, e1, e2, e3⟩ := lap_many h ht b0 b1 N
    obtain ⟨r0, r1⟩ := hP_rng (laps_wf h ht) b0 (show b < w.laps.s from b1) N
    obtain ⟨L, _, hL, f1, f2, f3⟩ := lap_one h ht r0 r1
    refine ⟨S + L, by omega, ?_, ?_, ?_⟩
    · rw [hP_add, e1, f1]; rfl
    · rw [hC_add, e1, e2, f2]; rfl
    · show _ = hn w.laps.s w.laps.t (hP w.laps N b)
      rw [← f3, ← e3, Int.natCast_add, Int.add_mul, Int.natCast_succ, Int.add_mul, Int.one_mul]; omega
/-! mirrored -/
def Wk.mir (w : Wk) : Wk := ⟨w.s, w.s - w.t, w.s - w.m, w.e + w.k + w.r, -w.k, -w.r⟩
theorem mir_hc {w : Wk} (h : WF w) {p : Int} (p0 : 0 ≤ p) (p1 : p < w.s) : hc w.mir (w.s - 1 - p) = hc w p := by
  show (w.e + w.k + w.r) + (if w.s - 1 - p < w.s - w.m then -w.k else 0) + (if w.s ≤ w.s - 1 - p + (w.s - w.t) then -w.r else 0) = w.e + (if p < w.m then w.k else 0) + (if w.s ≤ p + w.t then w.r else 0)
  have ts := h.ts
  by_cases c1 : p < w.m
  · rw [if_neg (show ¬ w.s - 1 - p < w.s - w.m by omega), if_pos c1]
    by_cases c2 : w.s ≤ p + w.t
    · rw [if_neg (show ¬ w.s ≤ w.s - 1 - p + (w.s - w.t) by omega), if_pos c2]; omega
    · rw [if_pos (show w.s ≤ w.s - 1 - p + (w.s - w.t) by omega), if_neg c2]; omega
  · rw [if_pos (show w.s - 1 - p < w.s - w.m by omega), if_neg c1]
    by_cases c2 : w.s ≤ p + w.t
    · rw [if_neg (show ¬ w.s ≤ w.s - 1 - p + (w.s - w.t) by omega), if_pos c2]; omega
    · rw [if_pos (show w.s ≤ w.s - 1 - p + (w.s - w.t) by omega), if_neg c2]; omega
theorem mir_wf {w : Wk} (h : WF w) (ht : 0 < w.t) : WF w.mir := by
  have ts := h.ts
  have m0 := h.m0
  have ms := h.ms
  refine ⟨h.s0, by show 0 ≤ w.s - w.t; omega, by show w.s - w.t < w.s; omega, by show 0 ≤ w.s - w.m; omega, by show w.s - w.m ≤ w.s; omega, fun p p0 p1 => ?_⟩
  have p1 : p < w.s := p1
  have e := mir_hc h (p := w.s - 1 - p) (by omega) (by omega)
  rw [show w.s - 1 - (w.s - 1 - p) = p by omega] at e
  rw [e]
  exact h.nn _ (by omega) (by omega)
theorem mir_hP {w : Wk} (h : WF w) {p : Int} (p0 : 0 ≤ p) (p1 : p < w.s) : ∀ n : Nat, hP w.mir n (w.s - 1 - p) = w.s - 1 - hP w n p ∧ hC w.mir n (w.s - 1 - p) = hC w n p
  | 0 => ⟨rfl, rfl⟩
  | n + 1 => by
    obtain ⟨e1, e2⟩ := mir_hP h p0 p1 n
    obtain ⟨r0, r1⟩ := hP_rng h p0 p1 n
    constructor
    · show hn w.s (w.s - w.t) (hP w.mir n (w.s - 1 - p)) = w.s - 1 - hn w.s w.t (hP w n p)
      rw [e1]
      unfold hn
      by_cases c : w.s ≤ hP w n p + w.t
      · rw [if_pos c, if_neg (by omega)]; omega
      · rw [if_neg c, if_pos (by omega)]; omega
    · show hC w.mir n (w.s - 1 - p) + hc w.mir (hP w.mir n (w.s - 1 - p)) = hC w n p + hc w (hP w n p)
      rw [e2, e1, mir_hc h r0 r1]
theorem mir_hT {w : Wk} (h : WF w) {p b g : Int} {n : Nat} (p0 : 0 ≤ p) (p1 : p < w.s) (t : hT w.mir (w.s - 1 - p) b n g) : hT w p b n g := by
  obtain ⟨e1, e2⟩ := mir_hP h p0 p1 n
  obtain ⟨r0, r1⟩ := hP_rng h p0 p1 n
  obtain ⟨t1, t2, t3⟩ := t
  rw [e2] at t1
  rw [e1, mir_hc h r0 r1] at t3
  exact ⟨t1, t2, t3⟩
/-! as many steps of a lap as a budget allows -/
def Wk.sfor (w : Wk) (b g : Int) : Int :=
  if min (w.most b) (w.mst b) * (w.e + w.k) > g then g / (w.e + w.k)
  else if (w.most b - min (w.most b) (w.mst b)) * w.e > g - min (w.most b) (w.mst b) * (w.e + w.k) then min (w.most b) (w.mst b) + (g - min (w.most b) (w.mst b) * (w.e + w.k)) / w.e
  else w.most b
theorem sfor_ok {w : Wk} (h : WF w) (ht : 0 < w.t) {b g : Int} (b0 : 0 ≤ b) (b1 : b < w.t) (g0 : 0 ≤ g) : ∃ n : Nat, w.sfor b g = (n : Int) ∧ (n : Int) ≤ w.most b ∧ w.cost b n ≤ g ∧ ((n : Int) < w.most b → g < w.cost b ((n : Int) + 1)) := by
  have ts := h.ts
  have mo0 : 0 ≤ w.most b := (most_iff (w := w) ht).mpr (by rw [Int.zero_mul]; omega)
  have ms0 : 0 ≤ w.mst b := by unfold Wk.mst; omega
  -- what a step costs
  have stp : ∀ i : Int, 0 ≤ i → i < w.most b → 0 ≤ w.e + (if i < w.mst b then w.k else 0) := fun i i0 i1 => by
    have c1 := (most_iff (w := w) ht (b := b) (i := i + 1)).mp (by omega)
    rw [Int.add_mul, Int.one_mul] at c1
    have c2 := Int.mul_nonneg i0 (Int.le_of_lt ht)
    have e := h.nn (b + i * w.t) (by omega) (by omega)
    have c3 := mst_iff (w := w) ht (b := b) i0
    unfold hc at e
    rw [if_neg (show ¬ w.s ≤ b + i * w.t + w.t by omega)] at e
    by_cases c : i < w.mst b
    · rw [if_pos c]; rw [if_pos (c3.mp c)] at e; omega
    · rw [if_neg c]; rw [if_neg (fun z => c (c3.mpr z))] at e; omega
  unfold Wk.sfor
  obtain ⟨n0, hn0⟩ : ∃ n0, n0 = min (w.most b) (w.mst b) := ⟨_, rfl⟩
  rw [← hn0]
  have e1 : 0 ≤ n0 ∧ n0 ≤ w.most b ∧ n0 ≤ w.mst b := by omega
  have cost1 : ∀ n : Int, n ≤ n0 → w.cost b n = n * (w.e + w.k) := fun n z => by
    unfold Wk.cost
    rw [show min n (w.mst b) = n by omega, Int.mul_add]
  have cost2 : ∀ n : Int, n0 ≤ n → n ≤ w.most b → w.cost b n = n0 * (w.e + w.k) + (n - n0) * w.e := fun n z1 z2 => by
    unfold Wk.cost
    have : min n (w.mst b) = n0 := by omega
    rw [this, Int.mul_add, Int.sub_mul]; omega
  by_cases c1 : n0 * (w.e + w.k) > g
  · rw [if_pos c1]
    have n0p : 0 < n0 := by
      refine Int.not_le.mp fun z => ?_
      have : n0 = 0 := by omega
      rw [this, Int.zero_mul] at c1; omega
    have ek : 0 < w.e + w.k := by
      refine Int.not_le.mp fun z => ?_
      have := Int.mul_nonneg (show 0 ≤ n0 by omega) (show 0 ≤ -(w.e + w.k) by omega)
      rw [Int.mul_neg] at this; omega
    have q0 := Int.ediv_nonneg g0 (Int.le_of_lt ek)
    have e := Int.mul_ediv_add_emod g (w.e + w.k)
    have r0 := Int.emod_nonneg g (Int.ne_of_gt ek)
    have r1 := Int.emod_lt_of_pos g ek
    obtain ⟨n, hn'⟩ := Int.eq_ofNat_of_zero_le q0
    have lt : g / (w.e + w.k) < n0 := (Int.ediv_lt_iff_lt_mul ek).mpr c1
    rw [Int.mul_comm] at e
    refine ⟨n, hn', by omega, ?_, fun _ => ?_⟩
    · rw [cost1 _ (by omega), ← hn']; omega
    · rw [cost1 _ (by omega), ← hn', Int.add_mul, Int.one_mul]; omega
  · rw [if_neg c1]
    by_cases c2 : (w.most b - n0) * w.e > g - n0 * (w.e + w.k)
    · rw [if_pos c2]
      have lt : n0 < w.most b := by
        refine Int.not_le.mp fun z => ?_
        rw [show w.most b - n0 = 0 by omega, Int.zero_mul] at c2; omega
      have ep : 0 < w.e := by
        refine Int.not_le.mp fun z => ?_
        have := Int.mul_nonneg (show 0 ≤ w.most b - n0 by omega) (show 0 ≤ -w.e by omega)
        rw [Int.mul_neg] at this; omega
      obtain ⟨rest, hr⟩ : ∃ rest, rest = g - n0 * (w.e + w.k) := ⟨_, rfl⟩
      rw [← hr] at c2 ⊢
      have q0 := Int.ediv_nonneg (show 0 ≤ rest by omega) (Int.le_of_lt ep)
      have e := Int.mul_ediv_add_emod rest w.e
      have r0 := Int.emod_nonneg rest (Int.ne_of_gt ep)
      have r1 := Int.emod_lt_of_pos rest ep
      have lt2 : rest / w.e < w.most b - n0 := (Int.ediv_lt_iff_lt_mul ep).mpr c2
      obtain ⟨n, hn'⟩ := Int.eq_ofNat_of_zero_le (show 0 ≤ n0 + rest / w.e by omega)
      rw [Int.mul_comm] at e
      refine ⟨n, hn', by omega, ?_, fun _ => ?_⟩
      · rw [cost2 _ (by omega) (by omega), show (n : Int) - n0 = rest / w.e by omega]; omega
      · rw [cost2 _ (by omega) (by omega), show (n : Int) + 1 - n0 = rest / w.e + 1 by omega, Int.add_mul, Int.one_mul]; omega
    · rw [if_neg c2]
      obtain ⟨n, hn'⟩ := Int.eq_ofNat_of_zero_le mo0
      refine ⟨n, hn', by omega, ?_, fun z => by omega⟩
      rw [cost2 _ (by omega) (by omega), ← hn']; omega
/-- from laps back to steps -/
def Wk.steps (w : Wk) (p N : Int) : Int := -(-(N * w.s - p) / w.t)
theorem back_ok {w : Wk} (h : WF w) (ht : 0 < w.t) {p b g : Int} {N : Nat} (p0 : 0 ≤ p) (p1 : p < w.t) (t : hT w.laps p b N g) :
    ∃ S n : Nat, w.steps p N = (S : Int) ∧ 0 ≤ S * w.t - (N * w.s - p) ∧ S * w.t - (N * w.s - p) < w.t ∧ w.sfor (S * w.t - (N * w.s - p)) g = (n : Int) ∧ hT w p b (S + n) (g - w.cost (S * w.t - (N * w.s - p)) n) := by
  obtain ⟨S, hS, e1, e2, e3⟩ := lap_many h ht p0 p1 N
  obtain ⟨r0, r1⟩ := hP_rng (laps_wf h ht) p0 (show p < w.laps.s from p1) N
  have r1 : hP w.laps N p < w.t := r1
  have eb : S * w.t - (N * w.s - p) = hP w.laps N p := by omega
  have eS : w.steps p N = (S : Int) := by
    unfold Wk.steps
    have : -(N * w.s - p) = hP w.laps N p + w.t * (-(S : Int)) := by rw [Int.mul_neg, Int.mul_comm w.t]; omega
    rw [this, Int.add_mul_ediv_left _ _ (Int.ne_of_gt ht), Int.ediv_eq_zero_of_lt r0 r1]; omega
  obtain ⟨t1, t2, t3⟩ := t
  obtain ⟨n, n1, n2, n3, n4⟩ := sfor_ok h ht r0 r1 t2
  obtain ⟨i1, i2⟩ := lap_in h ht r0 n n2
  obtain ⟨L, hL, _, _, f2, _⟩ := lap_one h ht r0 r1
  refine ⟨S, n, eS, by omega, by omega, by rw [eb]; exact n1, ?_⟩
  rw [eb]
  refine ⟨?_, by omega, ?_⟩
  · rw [hC_add, e1, e2, i2]; omega
  · rw [hP_add, e1]
    by_cases c : (n : Int) < w.most (hP w.laps N p)
    · obtain ⟨_, j2⟩ := lap_in h ht r0 (n + 1) (by omega)
      have : hC w (n + 1) (hP w.laps N p) = hC w n (hP w.laps N p) + hc w (hP w n (hP w.laps N p)) := rfl
      have := n4 c
      rw [show ((n : Int) + 1) = ((n + 1 : Nat) : Int) by omega] at this
      omega
    · have eL : L = n + 1 := by omega
      rw [eL] at f2
      have : hC w (n + 1) (hP w.laps N p) = hC w n (hP w.laps N p) + hc w (hP w n (hP w.laps N p)) := rfl
      omega
/-- the walk that began where the lap of its first place does -/
theorem ahead_ok {w : Wk} (h : WF w) (ht : 0 < w.t) {p : Int} (p0 : 0 ≤ p) (p1 : p < w.s) : ∃ A : Nat, p / w.t = (A : Int) ∧ hP w A (p % w.t) = p ∧ hC w A (p % w.t) = w.cost (p % w.t) A := by
  have e := Int.mul_ediv_add_emod p w.t
  have r0 := Int.emod_nonneg p (Int.ne_of_gt ht)
  obtain ⟨A, hA⟩ := Int.eq_ofNat_of_zero_le (Int.ediv_nonneg p0 (Int.le_of_lt ht))
  rw [hA, Int.mul_comm] at e
  obtain ⟨e1, e2⟩ := lap_in h ht r0 A ((most_iff ht).mpr (by omega))
  exact ⟨A, hA, by rw [e1]; omega, e2⟩
theorem ahead_hT {w : Wk} (h : WF w) {q p b g : Int} {A X : Nat} (q0 : 0 ≤ q) (q1 : q < w.s) (b0 : 0 ≤ b) (e1 : hP w A q = p) (t : hT w q (b + hC w A q) X g) : A ≤ X ∧ hT w p b (X - A) g := by
  have ax := hT_ge h q0 q1 t (show hC w A q ≤ b + hC w A q by omega)
  obtain ⟨t1, t2, t3⟩ := t
  obtain ⟨k, rfl⟩ : ∃ k, X = A + k := ⟨X - A, by omega⟩
  rw [hC_add, e1] at t1
  rw [hP_add, e1] at t3
  rw [Nat.add_sub_cancel_left]
  exact ⟨ax, by omega, t2, t3⟩
/-- where no place changes -/
theorem base_hT {w : Wk} (h : WF w) (ht : w.t = 0) {p b : Int} {N : Nat} (p0 : 0 ≤ p) (p1 : p < w.s) (b0 : 0 ≤ b) (hN : b < hC w N p) : 0 < w.e + (if p < w.m then w.k else 0) ∧ ∃ n : Nat, b / (w.e + (if p < w.m then w.k else 0)) = (n : Int) ∧ hT w p b n (b % (w.e + (if p < w.m then w.k else 0))) := by
  have eP : ∀ n, hP w n p = p := fun n => by
    induction n with
    | zero => rfl
    | succ n ih =>
      show hn w.s w.t (hP w n p) = p
      rw [ih]
      unfold hn
      rw [if_neg (by omega), ht]; omega
  have ec : hc w p = w.e + (if p < w.m then w.k else 0) := by
    unfold hc
    rw [if_neg (show ¬ w.s ≤ p + w.t by omega)]; omega
  have eC : ∀ n : Nat, hC w n p = n * hc w p := fun n => by
    induction n with
    | zero => show (0 : Int) = (0 : Nat) * hc w p; rw [show ((0 : Nat) : Int) = 0 from rfl, Int.zero_mul]
    | succ n ih =>
      show hC w n p + hc w (hP w n p) = _
      rw [ih, eP, Int.natCast_succ, Int.add_mul, Int.one_mul]
  have c0 : 0 < hc w p := by
    refine Int.not_le.mp fun z => ?_
    rw [eC] at hN
    have := Int.mul_nonneg (show (0 : Int) ≤ N by omega) (show 0 ≤ -hc w p by omega)
    rw [Int.mul_neg] at this; omega
  rw [← ec]
  refine ⟨c0, ?_⟩
  have e := Int.mul_ediv_add_emod b (hc w p)
  obtain ⟨n, hn'⟩ := Int.eq_ofNat_of_zero_le (Int.ediv_nonneg b0 (Int.le_of_lt c0))
  rw [hn', Int.mul_comm] at e
  refine ⟨n, hn', ?_, Int.emod_nonneg _ (Int.ne_of_gt c0), ?_⟩
  · rw [eC]; exact e
  · rw [eP]; exact Int.emod_lt_of_pos _ c0
/-! how great all that is -/
structure WB (w : Wk) : Prop where
  s1 : w.s ≤ 2 ^ 129
  ex : ∃ E : Int, 0 ≤ E ∧ (-E ≤ w.e ∧ w.e ≤ E) ∧ (-E ≤ w.k ∧ w.k ≤ E) ∧ (-E ≤ w.r ∧ w.r ≤ E) ∧ E * w.s ^ 5 ≤ 2 ^ 700
theorem wb_top {s t m : Int} (s0 : 0 < s) (s1 : s ≤ 2 ^ 129) : WB ⟨s, t, m, 0, 1, 0⟩ := by
  refine ⟨s1, 1, by decide, ⟨by show -1 ≤ (0 : Int); decide, by show (0 : Int) ≤ 1; decide⟩, ⟨by show -1 ≤ (1 : Int); decide, Int.le_refl _⟩, ⟨by show -1 ≤ (0 : Int); decide, by show (0 : Int) ≤ 1; decide⟩, ?_⟩
  show 1 * s ^ 5 ≤ 2 ^ 700
  rw [Int.one_mul]
  have h : s.toNat ^ 5 ≤ (2 ^ 129) ^ 5 := Nat.pow_le_pow_left (by omega) 5
  have h2 : (2 ^ 129) ^ 5 ≤ 2 ^ 700 := by decide +kernel
  have e : s = (s.toNat : Int) := by omega
  rw [e]
  have h3 := Nat.le_trans h h2
  exact_mod_cast h3
theorem wb_mul {E a b : Int} (h : -E ≤ a ∧ a ≤ E) (b0 : 0 ≤ b) : -(b * E) ≤ b * a ∧ b * a ≤ b * E := by
  have h1 := Int.mul_le_mul_of_nonneg_left h.1 b0
  have h2 := Int.mul_le_mul_of_nonneg_left h.2 b0
  rw [Int.mul_neg] at h1
  exact ⟨h1, h2⟩
/-- the walk whose laps are taken: this one, or mirrored -/
def Wk.low (w : Wk) : Wk := if w.s < 2 * w.t then w.mir else w
theorem low_facts {w : Wk} (h : WF w) (ht : 0 < w.t) : WF w.low ∧ 0 < w.low.t ∧ 2 * w.low.t ≤ w.s ∧ w.low.s = w.s := by
  have ts := h.ts
  unfold Wk.low
  split
  · exact ⟨mir_wf h ht, by show 0 < w.s - w.t; omega, by show 2 * (w.s - w.t) ≤ w.s; omega, rfl⟩
  · exact ⟨h, ht, by omega, rfl⟩
theorem low_ex {w : Wk} (b : WB w) : ∃ E : Int, 0 ≤ E ∧ (-(3 * E) ≤ w.low.e ∧ w.low.e ≤ 3 * E) ∧ (-(3 * E) ≤ w.low.k ∧ w.low.k ≤ 3 * E) ∧ (-(3 * E) ≤ w.low.r ∧ w.low.r ≤ 3 * E) ∧ E * w.s ^ 5 ≤ 2 ^ 700 := by
  obtain ⟨_, E, e0, ee, ek, er, c⟩ := b
  refine ⟨E, e0, ?_, ?_, ?_, c⟩
  all_goals
    unfold Wk.low
    split
  · show -(3 * E) ≤ w.e + w.k + w.r ∧ w.e + w.k + w.r ≤ 3 * E; omega
  · omega
  · show -(3 * E) ≤ -w.k ∧ -w.k ≤ 3 * E; omega
  · omega
  · show -(3 * E) ≤ -w.r ∧ -w.r ≤ 3 * E; omega
  · omega
theorem wb_laps {w : Wk} (h : WF w) (ht : 0 < w.t) (b : WB w) : WB w.low.laps := by
  obtain ⟨hl, tl, t2, es⟩ := low_facts h ht
  obtain ⟨E, e0, ee, ek, er, c⟩ := low_ex b
  obtain ⟨l1, l2⟩ := lng_b (w := w.low) tl
  have s0 := h.s0
  have m0 := hl.m0
  have ms := hl.ms
  rw [es] at l1 l2 ms
  have q0 : 0 ≤ w.low.m / w.low.t := Int.ediv_nonneg m0 (Int.le_of_lt tl)
  have q1 : w.low.m / w.low.t * w.low.t ≤ w.low.m := Int.ediv_mul_le _ (Int.ne_of_gt tl)
  have n0 : 0 ≤ w.low.lng := by
    refine Int.not_lt.mp fun z => ?_
    have := Int.mul_le_mul_of_nonneg_right (show w.low.lng ≤ 0 by omega) (Int.le_of_lt tl)
    rw [Int.zero_mul] at this; omega
  have f1 := wb_mul ee n0
  have f2 := wb_mul ek q0
  have s1 := b.s1
  obtain ⟨M, hM⟩ : ∃ M, M = w.low.lng + w.low.m / w.low.t + 1 := ⟨_, rfl⟩
  have sum : M * (3 * E) = w.low.lng * (3 * E) + w.low.m / w.low.t * (3 * E) + 3 * E := by rw [hM, Int.add_mul, Int.add_mul, Int.one_mul]
  have M1 : 1 ≤ M := by omega
  have M3 : 3 * E ≤ M * (3 * E) := by
    have := Int.mul_le_mul_of_nonneg_right M1 (show 0 ≤ 3 * E by omega)
    rw [Int.one_mul] at this; exact this
  refine ⟨by show w.low.t ≤ 2 ^ 129; omega, M * (3 * E), Int.mul_nonneg (by omega) (by omega), ?_, ?_, ?_, ?_⟩
  · show -(M * (3 * E)) ≤ w.low.lng * w.low.e + w.low.m / w.low.t * w.low.k + w.low.r ∧ w.low.lng * w.low.e + w.low.m / w.low.t * w.low.k + w.low.r ≤ M * (3 * E)
    omega
  · show -(M * (3 * E)) ≤ w.low.k ∧ w.low.k ≤ M * (3 * E)
    omega
  · show -(M * (3 * E)) ≤ -w.low.e ∧ -w.low.e ≤ M * (3 * E)
    omega
  · show M * (3 * E) * w.low.t ^ 5 ≤ 2 ^ 700
    refine Int.le_trans ?_ c
    have Mt : M * w.low.t ≤ 3 * w.s := by
      rw [hM, Int.add_mul, Int.add_mul, Int.one_mul]; omega
    have t4 : 9 * w.low.t ^ 4 ≤ w.s ^ 4 := by
      have h1 : (2 * w.low.t.toNat) ^ 4 ≤ w.s.toNat ^ 4 := Nat.pow_le_pow_left (by omega) 4
      have e1 : w.low.t = (w.low.t.toNat : Int) := by omega
      have e2 : w.s = (w.s.toNat : Int) := by omega
      rw [Nat.mul_pow] at h1
      have h2 : 9 * w.low.t.toNat ^ 4 ≤ w.s.toNat ^ 4 := by
        have : 2 ^ 4 * w.low.t.toNat ^ 4 = 16 * w.low.t.toNat ^ 4 := rfl
        omega
      rw [e1, e2]
      exact_mod_cast h2
    have p4 : 0 ≤ w.low.t ^ 4 := Int.pow_nonneg (Int.le_of_lt tl)
    have g1 : M * (3 * E) * w.low.t ^ 5 = (M * w.low.t) * (3 * E * w.low.t ^ 4) := by
      rw [show (5 : Nat) = 4 + 1 from rfl, Int.pow_succ]
      rw [Int.mul_assoc M, Int.mul_assoc M, ← Int.mul_assoc (3 * E), Int.mul_comm (3 * E * w.low.t ^ 4) w.low.t]
    have g2 := Int.mul_le_mul_of_nonneg_right Mt (show 0 ≤ 3 * E * w.low.t ^ 4 from Int.mul_nonneg (by omega) p4)
    have g3 : 3 * w.s * (3 * E * w.low.t ^ 4) = (E * w.s) * (9 * w.low.t ^ 4) := by
      rw [show 3 * w.s * (3 * E * w.low.t ^ 4) = 3 * (w.s * (3 * E * w.low.t ^ 4)) by rw [Int.mul_assoc], show 3 * E * w.low.t ^ 4 = 3 * (E * w.low.t ^ 4) by rw [Int.mul_assoc], Int.mul_left_comm w.s 3, Int.mul_left_comm (E * w.s) 9, Int.mul_comm E w.s, Int.mul_assoc w.s E]
      omega
    have g4 := Int.mul_le_mul_of_nonneg_left t4 (show 0 ≤ E * w.s from Int.mul_nonneg e0 (Int.le_of_lt s0))
    have g5 : E * w.s * w.s ^ 4 = E * w.s ^ 5 := by
      have p5 : w.s ^ 5 = w.s ^ 4 * w.s := Int.pow_succ _ _
      rw [p5, Int.mul_comm (w.s ^ 4) w.s, Int.mul_assoc]
    omega
theorem wb_E {w : Wk} (h : WF w) (b : WB w) : ∃ E : Int, 0 ≤ E ∧ (-E ≤ w.e ∧ w.e ≤ E) ∧ (-E ≤ w.k ∧ w.k ≤ E) ∧ (-E ≤ w.r ∧ w.r ≤ E) ∧ E ≤ 2 ^ 700 ∧ E * w.s ≤ 2 ^ 700 := by
  obtain ⟨_, E, e0, ee, ek, er, c⟩ := b
  have s0 := h.s0
  have one : ∀ n : Nat, 1 ≤ w.s ^ n := fun n => by
    have := Int.pow_pos (m := n) s0; omega
  refine ⟨E, e0, ee, ek, er, ?_, ?_⟩
  · have := Int.mul_le_mul_of_nonneg_left (one 5) e0
    rw [Int.mul_one] at this; omega
  · have g5 : E * w.s * w.s ^ 4 = E * w.s ^ 5 := by
      have p5 : w.s ^ 5 = w.s ^ 4 * w.s := Int.pow_succ _ _
      rw [p5, Int.mul_comm (w.s ^ 4) w.s, Int.mul_assoc]
    have := Int.mul_le_mul_of_nonneg_left (one 4) (show 0 ≤ E * w.s from Int.mul_nonneg e0 (Int.le_of_lt s0))
    rw [Int.mul_one] at this; omega
end Fw
namespace Fw
open PySem L2
def rDivC : List V → Hp → VK → Prop := fun xs H Q => ∃ i j, xs = [.int i, .int j] ∧ CDivP i j ∧ ∀ p, H p = none → Q (.ref p) (upd H p (.tup [.int (i / j), .int (i % j)]))
def rmax2C : List V → Hp → VK → Prop := fun xs H Q => ∃ i j : Int, xs = [.int i, .int j] ∧ Q (.int (if j > i then j else i)) H
def rmin2C : List V → Hp → VK → Prop := fun xs H Q => ∃ i j : Int, xs = [.int i, .int j] ∧ Q (.int (if j < i then j else i)) H
section
variable {σ : L2.St} {H : Hp} {Q : VK} {D : Ends} {te : TE}
theorem w_aug {i : Nat} {x : V} {g : Int → Int → Int} (hx : σ[i]? = some (some x)) (q : te σ H fun y H1 => ∃ u v : Int, x = .int u ∧ y = .int v ∧ D.nx (σ.set i (some (.int (g u v)))) H1) : tAug i te (ipI g) D σ H := ⟨x, hx, q⟩
theorem w_augR {i : Nat} {x : V} {r : R2} (hx : σ[i]? = some (some x)) (q : te σ H fun y H1 => r x y H1 fun z H2 => D.nx (σ.set i (some z)) H2) : tAug i te r D σ H := ⟨x, hx, q⟩
theorem w_ipi {u v : Int} {P : Int → Int → Prop} (q : P u v) : ∃ a b : Int, V.int u = .int a ∧ V.int v = .int b ∧ P a b := ⟨u, v, rfl, rfl, q⟩
theorem w_max2 {i j : Int} (q : Q (.int (max i j)) H) : rmax2C [.int i, .int j] H Q := ⟨i, j, rfl, by
  have e : (if j > i then j else i) = max i j := by split <;> omega
  rw [e]; exact q⟩
theorem w_min2 {i j : Int} (q : Q (.int (min i j)) H) : rmin2C [.int i, .int j] H Q := ⟨i, j, rfl, by
  have e : (if j < i then j else i) = min i j := by split <;> omega
  rw [e]; exact q⟩
theorem w_lenT {K : PySem.W.Frag} {p : Addr} {ys : List V} (h : H p = some (.tup ys)) (q : Q (.int (ys.length : Int)) H) : rLenS K [.ref p] H Q := ⟨p, ys, rfl, .inr (SqT.of h), q⟩
theorem w_stJ {c : Prop} [Decidable c] {ta tb : TS} (R : L2.St → Hp → Prop) (h1 : c → ∀ D' : Ends, (∀ σ' H', R σ' H' → D'.nx σ' H') → ta D' σ H) (h2 : ¬ c → ∀ D' : Ends, (∀ σ' H', R σ' H' → D'.nx σ' H') → tb D' σ H) (q : ∀ σ' H', R σ' H' → D.nx σ' H') : if decide c = true then ta D σ H else tb D σ H := w_dec (fun z => h1 z D q) (fun z => h2 z D q)
theorem w_bm {K : PySem.W.Frag} {T : String} {r : V → List V → Hp → VK → Prop} {to : TE} {t : TA} (q : to σ H fun x H1 => tyV K T x H1 ∧ t σ H1 fun xs H2 => r x xs H2 Q) : tBM K T r to t σ H Q := q
theorem w_ifJ {tt : TT} {ta tb : TE} (R : V → Hp → Prop) (h1 : ∀ Q : VK, (∀ x H', R x H' → Q x H') → tIf tt ta tb σ H Q) (q : ∀ x H', R x H' → Q x H') : tIf tt ta tb σ H Q := h1 Q q
/-- whatever an expression's value is, as far as R tells of it -/
theorem w_any (R : V → Hp → Prop) (h1 : ∀ Q : VK, (∀ x H', R x H' → Q x H') → te σ H Q) (q : ∀ x H', R x H' → Q x H') : te σ H Q := h1 Q q
theorem w_tst {tt : TT} {Q : Bool → Hp → Prop} (R : Bool → Hp → Prop) (h : ∀ Q : Bool → Hp → Prop, (∀ b H', R b H' → Q b H') → tt σ H Q) (q : ∀ b H', R b H' → Q b H') : tt σ H Q := h Q q
/-- c and tt, as a test that comes out false -/
theorem w_decJ {c : Prop} [Decidable c] {tt : TT} {Q : Bool → Hp → Prop} (R : Hp → Prop) (h1 : c → ∀ Q : Bool → Hp → Prop, (∀ H', R H' → Q false H') → tt σ H Q) (h2 : ¬ c → R H) (q : ∀ H', R H' → Q false H') : if decide c = true then tt σ H Q else Q false H := w_dec (fun z => h1 z Q q) (fun z => q H (h2 z))
end
section
variable {K : PySem.W.Frag} {σ : L2.St} {H : Hp} {Q : VK} {D : Ends} {te : TE}
theorem w_itT {tl : TE} {R : It → Hp → Prop} (q : tl σ H fun x H1 => ∃ a, x = .ref a ∧ (∃ xs, SqT K H1 a xs) ∧ R (Itt K a) H1) : iTup K tl σ H R := q
theorem w_itE {ta : TA} {R : It → Hp → Prop} (q : ta σ H fun vs H1 => ∃ a xs, vs = [.ref a] ∧ SqL K H1 a xs ∧ R (Ite K a) H1) : iEnum K ta σ H R := q
theorem w_minL {a : Addr} {ns : List Int} (h : SqL K H a (ns.map V.int)) (n : 0 < ns.length) (q : ∀ m, m ∈ ns → (∀ y, y ∈ ns → m ≤ y) → Q (.int m) H) : rMin K [.ref a] H Q := ⟨a, ns, rfl, h, n, q⟩
theorem w_truL {p : Addr} {xs : List V} {P : Bool → Prop} (h : SqL K H p xs) (q : P (!xs.isEmpty)) : ∃ k, TruV K (.ref p) H k ∧ P k := ⟨_, .inl ⟨xs, h, rfl⟩, q⟩
theorem w_notinL {p : Addr} {x : V} {xs : List V} (h : SqL K H p xs) (f1 : flatV x = true) (f2 : xs.all flatV = true) (q : Q (.bl (!inV x xs)) H) : rIn K true x (.ref p) H Q := ⟨p, xs, rfl, .inl h, f1, f2, q⟩
theorem w_inL {p : Addr} {x : V} {xs : List V} (h : SqL K H p xs) (f1 : flatV x = true) (f2 : xs.all flatV = true) (q : Q (.bl (inV x xs)) H) : rIn K false x (.ref p) H Q := ⟨p, xs, rfl, .inl h, f1, f2, q⟩
theorem w_eqDg {x y : V} {d e : PyData} (hx : Dp K H x d) (hy : Dp K H y e) (sd : SeqAt.shaped d = true) (se : SeqAt.shaped e = true) (q : Q (.bl (PyData.eqv d e)) H) : rEqD K x y H Q := ⟨d, e, hx, hy, sd, se, q⟩
theorem w_neDg {x y : V} {d e : PyData} (hx : Dp K H x d) (hy : Dp K H y e) (sd : SeqAt.shaped d = true) (se : SeqAt.shaped e = true) (q : Q (.bl (!PyData.eqv d e)) H) : rNeD K x y H Q := ⟨d, e, hx, hy, sd, se, q⟩
end
theorem flat_ints (is : List Int) : (is.map V.int).all flatV = true := by
  induction is with
  | nil => rfl
  | cons x r ih => rw [List.map_cons, List.all_cons, ih]; rfl
theorem inV_ints (i : Int) (is : List Int) : inV (.int i) (is.map V.int) = decide (i ∈ is) := by
  unfold inV
  induction is with
  | nil => simp
  | cons x r ih =>
    rw [List.map_cons, List.any_cons, ih]
    by_cases h : i = x
    · subst h
      rw [show eqV (V.int i) (V.int i) = true by simp [eqV]]; simp
    · have e1 : eqV (V.int x) (V.int i) = false := by simp [eqV]; exact fun z => h z.symm
      have e2 : eqV (V.int i) (V.int x) = false := by simp [eqV]; exact h
      first | rw [e1] | rw [e2]
      simp [h]
theorem w_rng2 {σ : L2.St} {H : Hp} {ta : TA} {R : It → Hp → Prop} (q : ta σ H fun vs H1 => ∃ i j : Int, vs = [.int i, .int j] ∧ (-(2 ^ 62) ≤ i ∧ i < 2 ^ 62 ∧ -(2 ^ 62) ≤ j ∧ j < 2 ^ 62) ∧ R (Itr i (j - i).toNat) H1) : iRng2 ta σ H R := q
theorem w_neOg {H : Hp} {Q : VK} {x y : V} (hx : x = .non ∨ ∃ i, x = .int i) (hy : y = .non ∨ ∃ i, y = .int i) (q : Q (.bl (!decide (x = y))) H) : rNe x y H Q := ⟨by
  rcases hx with rfl | ⟨i, rfl⟩ <;> rcases hy with rfl | ⟨j, rfl⟩ <;> rfl, q⟩
theorem w_itZ {K : PySem.W.Frag} {σ : L2.St} {H : Hp} {ta : TA} {R : It → Hp → Prop} (q : ta σ H fun vs H1 => ∃ a b xs ys, vs = [.ref a, .ref b] ∧ SqL K H1 a xs ∧ SqL K H1 b ys ∧ R (Itz K a b) H1) : iZip K ta σ H R := q
theorem w_srt {K : PySem.W.Frag} {H : Hp} {Q : VK} {a : Addr} {ns : List Int} (h : SqL K H a (ns.map V.int)) (q : ∀ (ns' : List Int) (p : Addr), ns'.Perm ns → ns'.Pairwise (· ≤ ·) → H p = none → Q (.ref p) (upd H p (.lst (ns'.map V.int)))) : rSortedI K [.ref a] H Q := ⟨a, ns, rfl, h, q⟩
theorem w_isNr {H : Hp} {Q : VK} {r : Addr} (q : Q (.bl false) H) : rIsNn (.ref r) .non H Q := ⟨rfl, q⟩
theorem w_boolJ {b : Bool} {tt : TT} {σ : L2.St} {H : Hp} {Q : Bool → Hp → Prop} (R : Hp → Prop) (h1 : b = true → ∀ Q : Bool → Hp → Prop, (∀ H', R H' → Q false H') → tt σ H Q) (h2 : b = false → R H) (q : ∀ H', R H' → Q false H') : if b = true then tt σ H Q else Q false H := by
  cases b with
  | true => exact iteT (h1 rfl Q q)
  | false => exact iteF (q H (h2 rfl))
theorem w_par3 {i j l : Nat} {t : TA} {D : Ends} {σ : L2.St} {H : Hp} (q : t σ H fun vs H1 => ∃ u v w, vs = [u, v, w] ∧ D.nx (((σ.set i (some u)).set j (some v)).set l (some w)) H1) : tPar3 i j l t D σ H := q
theorem w_itR {K : PySem.W.Frag} {σ : L2.St} {H : Hp} {ta : TA} {R : It → Hp → Prop} (q : ta σ H fun vs H1 => ∃ a xs, vs = [.ref a] ∧ SqL K H1 a xs ∧ R (Itv K a xs.length) H1) : iRev K ta σ H R := q
theorem w_methA {C : Addr} {m : Str} {sp : Sp} {E : XK} {ta : TE} {t : TA} {σ : L2.St} {H : Hp} {Q : VK} (q : ta σ H fun x H1 => ∃ a dx fs, x = .ref a ∧ H1 a = some (.ins C dx fs) ∧ fs.lookup m = none ∧ t σ H1 fun vs H2 => sp (x :: (vs ++ [])) H2 Q E) : tMeth C m sp [] E ta t σ H Q := q
end Fw
namespace Fw

/-! ### the least remainder of a line -/
theorem emod_sub_mul (n m k : Int) : (n - m * k) % m = n % m := by
  rw [show n - m * k = n + m * (-k) by rw [Int.mul_neg]; omega, Int.add_mul_emod_self_left]
theorem emod_is {n m q r : Int} (h : n = r + m * q) (r0 : 0 ≤ r) (r1 : r < m) : n % m = r := by
  rw [h, Int.add_mul_emod_self_left, Int.emod_eq_of_lt r0 r1]
structure Lr (m0 start step size steps least : Int) : Prop where
  a0 : 0 ≤ start
  a1 : start < size
  s0 : 0 ≤ step
  s1 : step < size
  n0 : 0 ≤ steps
  ls : least ≤ start
  ml : m0 ≤ least
  al : ∀ i, 0 ≤ i → i ≤ steps → m0 ≤ (start + step * i) % size
  ex : least = m0 ∨ ∃ i, 0 ≤ i ∧ i ≤ steps ∧ (start + step * i) % size = m0
theorem Lr.z0 {m0 start step size steps least : Int} (h : Lr m0 start step size steps least) (z : ¬ 0 < step) : least = m0 := by
  obtain ⟨a0, a1, s0, s1, n0, ls, ml, al, ex⟩ := h
  have e : step = 0 := by omega
  subst e
  rcases ex with h | ⟨i, i0, i1, h⟩
  · exact h
  · rw [Int.zero_mul, Int.add_zero, Int.emod_eq_of_lt a0 a1] at h
    omega
theorem Lr.z1 {m0 start step size steps least : Int} (h : Lr m0 start step size steps least) (z : (start + step * steps) / size = 0) : least = m0 := by
  obtain ⟨a0, a1, s0, s1, n0, ls, ml, al, ex⟩ := h
  have sz : 0 < size := by omega
  rcases ex with h | ⟨i, i0, i1, h⟩
  · exact h
  · have t := Int.emod_add_mul_ediv (start + step * steps) size
    have t1 := Int.emod_lt_of_pos (start + step * steps) sz
    rw [z, Int.mul_zero] at t
    have m1 : step * i ≤ step * steps := Int.mul_le_mul_of_nonneg_left i1 s0
    have m2 : 0 ≤ step * i := Int.mul_nonneg s0 i0
    rw [Int.emod_eq_of_lt (by omega) (by omega)] at h
    omega
theorem Lr.flip {m0 start step size steps least : Int} (h : Lr m0 start step size steps least) (z : 0 < step) : Lr m0 ((start + step * steps) % size) (size - step) size steps (min least ((start + step * steps) % size)) := by
  obtain ⟨a0, a1, s0, s1, n0, ls, ml, al, ex⟩ := h
  have sz : 0 < size := by omega
  have key : ∀ i, ((start + step * steps) % size + (size - step) * i) % size = (start + step * (steps - i)) % size := fun i => by
    have t := Int.emod_add_mul_ediv (start + step * steps) size
    have e : (start + step * steps) % size + (size - step) * i = (start + step * (steps - i)) + size * (i - (start + step * steps) / size) := by
      rw [Int.sub_mul, Int.mul_sub, Int.mul_sub]; omega
    rw [e, Int.add_mul_emod_self_left]
  have b0 := Int.emod_nonneg (start + step * steps) (Int.ne_of_gt sz)
  have b1 := Int.emod_lt_of_pos (start + step * steps) sz
  have b2 := al steps n0 (Int.le_refl _)
  refine ⟨b0, b1, by omega, by omega, n0, by omega, by omega, fun i i0 i1 => ?_, ?_⟩
  · rw [key i]
    exact al _ (by omega) (by omega)
  · rcases ex with h | ⟨i, i0, i1, h⟩
    · exact .inl (by omega)
    · refine .inr ⟨steps - i, by omega, by omega, ?_⟩
      rw [key, show steps - (steps - i) = i by omega]
      exact h
theorem Lr.next {m0 start step size steps least : Int} (h : Lr m0 start step size steps least) (z : 0 < step) (c : (start + step * steps) / size ≠ 0) : Lr m0 ((start - size) % step) ((-size) % step) step ((start + step * steps) / size - 1) (min least ((start - size) % step)) := by
  obtain ⟨a0, a1, s0, s1, n0, ls, ml, al, ex⟩ := h
  have sz : 0 < size := by omega
  have sn : 0 ≤ step * steps := Int.mul_nonneg s0 n0
  have l0 : 0 ≤ (start + step * steps) / size := Int.ediv_nonneg (by omega) (by omega)
  have t := Int.emod_add_mul_ediv (start + step * steps) size
  have t0 := Int.emod_nonneg (start + step * steps) (Int.ne_of_gt sz)
  obtain ⟨L, hL⟩ : ∃ L, (start + step * steps) / size = L := ⟨_, rfl⟩
  rw [hL] at c t l0 ⊢
  have key : ∀ j, ((start - size) % step + (-size) % step * j) % step = (start - size * (j + 1)) % step := fun j => by
    have u := Int.emod_add_mul_ediv (start - size) step
    have v := Int.emod_add_mul_ediv (-size) step
    have e : (start - size) % step + (-size) % step * j = (start - size * (j + 1)) - step * ((start - size) / step + (-size) / step * j) := by
      have v' : (-size) % step * j = -(size * j) - step * ((-size) / step * j) := by
        have v2 : (-size) % step = -size - step * ((-size) / step) := by omega
        rw [v2, Int.sub_mul, Int.neg_mul, Int.mul_assoc]
      rw [v', Int.mul_add, Int.mul_add]; omega
    rw [e, emod_sub_mul]
  have low : ∀ k, 1 ≤ k → k ≤ L → m0 ≤ (start - size * k) % step := fun k k0 k1 => by
    have u := Int.emod_add_mul_ediv (start - size * k) step
    have u0 := Int.emod_nonneg (start - size * k) (Int.ne_of_gt z)
    have u1 := Int.emod_lt_of_pos (start - size * k) z
    have sk : size * 1 ≤ size * k := Int.mul_le_mul_of_nonneg_left k0 (by omega)
    have sL : size * k ≤ size * L := Int.mul_le_mul_of_nonneg_left k1 (by omega)
    generalize (start - size * k) % step = v at *
    generalize (start - size * k) / step = q at *
    have q0 : q < 0 := Int.not_le.mp fun y => by
      have := Int.mul_nonneg s0 y
      omega
    have e : (start + step * (-q)) % size = v := by
      refine emod_is (q := k) ?_ u0 (by omega)
      rw [Int.mul_neg]; omega
    rw [← e]
    refine al _ (by omega) (Int.not_lt.mp fun y => ?_)
    have y2 : step * (steps + 1) ≤ step * (-q) := Int.mul_le_mul_of_nonneg_left (by omega) s0
    rw [Int.mul_add, Int.mul_neg] at y2
    omega
  have key0 : ∀ j, 0 ≤ j → j ≤ L - 1 → m0 ≤ ((start - size) % step + (-size) % step * j) % step := fun j j0 j1 => by
    rw [key]; exact low _ (by omega) (by omega)
  have b0 := Int.emod_nonneg (start - size) (Int.ne_of_gt z)
  have b1 := Int.emod_lt_of_pos (start - size) z
  have d0 := Int.emod_nonneg (-size) (Int.ne_of_gt z)
  have d1 := Int.emod_lt_of_pos (-size) z
  have f0 : m0 ≤ (start - size) % step := by
    have := low 1 (Int.le_refl _) (by omega)
    rwa [Int.mul_one] at this
  refine ⟨b0, b1, d0, d1, by omega, by omega, by omega, key0, ?_⟩
  rcases ex with h | ⟨i, i0, i1, h⟩
  · exact .inl (by omega)
  have si : 0 ≤ step * i := Int.mul_nonneg s0 i0
  have si1 : step * i ≤ step * steps := Int.mul_le_mul_of_nonneg_left i1 s0
  have w := Int.emod_add_mul_ediv (start + step * i) size
  have w1 := Int.emod_nonneg (start + step * i) (Int.ne_of_gt sz)
  have k0 : 0 ≤ (start + step * i) / size := Int.ediv_nonneg (by omega) (by omega)
  have k1 : (start + step * i) / size ≤ L := by
    rw [← hL]; exact Int.ediv_le_ediv sz (by omega)
  rw [h] at w w1
  generalize (start + step * i) / size = k at *
  by_cases kz : k = 0
  · rw [kz, Int.mul_zero] at w
    exact .inl (by omega)
  · refine .inr ⟨k - 1, by omega, by omega, ?_⟩
    rw [key, show k - 1 + 1 = k by omega]
    have lw := low k (by omega) k1
    have e : start - size * k = m0 - step * i := by omega
    rw [e, emod_sub_mul] at lw ⊢
    by_cases cm : m0 < step
    · exact Int.emod_eq_of_lt w1 cm
    · have := Int.emod_lt_of_pos m0 z
      omega
theorem Lr.laps {m0 start step size steps least : Int} (h : Lr m0 start step size steps least) : 0 ≤ (start + step * steps) / size ∧ (start + step * steps) / size ≤ steps := by
  obtain ⟨a0, a1, s0, s1, n0, ls, ml, al, ex⟩ := h
  have sz : 0 < size := by omega
  have sn : 0 ≤ step * steps := Int.mul_nonneg s0 n0
  refine ⟨Int.ediv_nonneg (by omega) (by omega), ?_⟩
  have : step * steps ≤ size * steps := Int.mul_le_mul_of_nonneg_right (by omega) n0
  have : (start + step * steps) / size < steps + 1 := Int.ediv_lt_of_lt_mul sz (by rw [Int.add_mul, Int.one_mul, Int.mul_comm steps]; omega)
  omega
theorem least_of (g : Int → Int) : ∀ n : Nat, ∃ i : Int, 0 ≤ i ∧ i ≤ (n : Int) ∧ ∀ j, 0 ≤ j → j ≤ (n : Int) → g i ≤ g j
  | 0 => ⟨0, by omega, by omega, fun j j0 j1 => by rw [show j = 0 by omega]; exact Int.le_refl _⟩
  | n + 1 => by
    obtain ⟨i, i0, i1, h⟩ := least_of g n
    by_cases c : g i ≤ g ((n + 1 : Nat) : Int)
    · refine ⟨i, i0, by omega, fun j j0 j1 => ?_⟩
      by_cases e : j = ((n + 1 : Nat) : Int)
      · rw [e]; exact c
      · exact h j j0 (by omega)
    · refine ⟨((n + 1 : Nat) : Int), by omega, by omega, fun j j0 j1 => ?_⟩
      by_cases e : j = ((n + 1 : Nat) : Int)
      · rw [e]; exact Int.le_refl _
      · have := h j j0 (by omega); omega
def LrIs (a b m first last y : Int) : Prop := (∃ x, first ≤ x ∧ x ≤ last ∧ (a * x + b) % m = y) ∧ ∀ x, first ≤ x → x ≤ last → y ≤ (a * x + b) % m
theorem Lr.of {a b m first last : Int} (m0 : 0 < m) (h : first ≤ last) : ∃ y, LrIs a b m first last y ∧ Lr y ((a * first + b) % m) (a % m) m (last - first) ((a * first + b) % m) := by
  obtain ⟨n, hn⟩ := Int.eq_ofNat_of_zero_le (show 0 ≤ last - first by omega)
  have key : ∀ i, ((a * first + b) % m + a % m * i) % m = (a * (first + i) + b) % m := fun i => by
    have u := Int.emod_add_mul_ediv (a * first + b) m
    have v := Int.emod_add_mul_ediv a m
    have v' : a % m * i = a * i - m * (a / m * i) := by
      have v2 : a % m = a - m * (a / m) := by omega
      rw [v2, Int.sub_mul, Int.mul_assoc]
    have e : (a * first + b) % m + a % m * i = (a * (first + i) + b) - m * ((a * first + b) / m + a / m * i) := by
      rw [v', Int.mul_add, Int.mul_add]; omega
    rw [e, emod_sub_mul]
  obtain ⟨i, i0, i1, hi⟩ := least_of (fun i => (a * (first + i) + b) % m) n
  have z0 := hi 0 (Int.le_refl _) (by omega)
  rw [Int.add_zero] at z0
  refine ⟨_, ⟨⟨first + i, by omega, by omega, rfl⟩, fun x x1 x2 => ?_⟩, Int.emod_nonneg _ (Int.ne_of_gt m0), Int.emod_lt_of_pos _ m0, Int.emod_nonneg _ (Int.ne_of_gt m0), Int.emod_lt_of_pos _ m0, by omega, Int.le_refl _, z0, fun j j0 j1 => ?_, .inr ⟨i, i0, by omega, key i⟩⟩
  · have := hi (x - first) (by omega) (by omega)
    rwa [show first + (x - first) = x by omega] at this
  · rw [key]; exact hi j j0 (by omega)
end Fw
namespace Fw
/-! ### steps x -> a * x + c, modulo a power of two -/
theorem gpos (w : Nat) : (0 : Int) < 2 ^ w := Int.pow_pos (by decide)
theorem g2S (w : Nat) : (2 : Int) ^ (w + 1) = 2 * 2 ^ w := by rw [Int.pow_succ, Int.mul_comm]
theorem gmd {S x y : Int} : x % S = y % S ↔ S ∣ x - y := by
  constructor
  · intro h
    exact Int.dvd_of_emod_eq_zero (Int.emod_eq_emod_iff_emod_sub_eq_zero.mp h)
  · intro h
    exact Int.emod_eq_emod_iff_emod_sub_eq_zero.mpr (Int.emod_eq_zero_of_dvd h)
theorem gpp {a b : Nat} (h : a ≤ b) : (2 : Int) ^ a ∣ 2 ^ b := ⟨2 ^ (b - a), by rw [← Int.pow_add]; congr 1; omega⟩
theorem gdv0 {S x : Int} : S ∣ x - x := by rw [Int.sub_self]; exact Int.dvd_zero _
theorem gdvS {S x y : Int} (h : S ∣ x - y) : S ∣ y - x := by
  rw [show y - x = -(x - y) by omega]; exact Int.dvd_neg.mpr h
theorem gdvT {S x y z : Int} (h : S ∣ x - y) (g : S ∣ y - z) : S ∣ x - z := by
  rw [show x - z = (x - y) + (y - z) by omega]; exact Int.dvd_add h g
/-- n steps -/
def gIt (a c : Int) : Nat → Int → Int
  | 0, x => x
  | n + 1, x => a * gIt a c n x + c
theorem gIt_one {a c x : Int} : gIt a c 1 x = a * x + c := rfl
theorem gIt_add (a c : Int) (m : Nat) : ∀ (n : Nat) (x : Int), gIt a c (m + n) x = gIt a c n (gIt a c m x)
  | 0, x => rfl
  | n + 1, x => by
    show a * gIt a c (m + n) x + c = a * gIt a c n (gIt a c m x) + c
    rw [gIt_add a c m n x]
theorem gIt_sub (a c : Int) : ∀ (n : Nat) (x y : Int), gIt a c n x - gIt a c n y = a ^ n * (x - y)
  | 0, x, y => by rw [Int.pow_zero, Int.one_mul]; rfl
  | n + 1, x, y => by
    show a * gIt a c n x + c - (a * gIt a c n y + c) = _
    rw [Int.pow_succ, Int.mul_comm (a ^ n) a, Int.mul_assoc, ← gIt_sub a c n x y, Int.mul_sub]; omega
theorem gIt_cong {S a a' c c' : Int} (ha : S ∣ a - a') (hc : S ∣ c - c') : ∀ (n : Nat) {x y : Int}, S ∣ x - y → S ∣ gIt a c n x - gIt a' c' n y
  | 0, x, y, h => h
  | n + 1, x, y, h => by
    have ih := gIt_cong ha hc n h
    show S ∣ a * gIt a c n x + c - (a' * gIt a' c' n y + c')
    have e : a * gIt a c n x + c - (a' * gIt a' c' n y + c') = a * (gIt a c n x - gIt a' c' n y) + (a - a') * gIt a' c' n y + (c - c') := by
      rw [Int.mul_sub, Int.sub_mul]; omega
    rw [e]
    exact Int.dvd_add (Int.dvd_add (Int.dvd_mul_of_dvd_right ih) (Int.dvd_mul_of_dvd_left ha)) hc
theorem gIt_congx {S a c : Int} (n : Nat) {x y : Int} (h : S ∣ x - y) : S ∣ gIt a c n x - gIt a c n y := gIt_cong gdv0 gdv0 n h
/-- (p, q) leads where n steps do -/
def gRep (S a c p q : Int) (n : Nat) : Prop := ∀ x, S ∣ p * x + q - gIt a c n x
theorem gRep_zero (S a c : Int) : gRep S a c 1 0 0 := fun x => by
  show S ∣ 1 * x + 0 - x
  rw [Int.one_mul, Int.add_zero]; exact gdv0
theorem gRep_one (S a c : Int) : gRep S a c a c 1 := fun x => gdv0
theorem gRep_onem (S a c : Int) : gRep S a c (a % S) (c % S) 1 := fun x => by
  have e1 : S ∣ a % S - a := Int.dvd_emod_sub_self
  have e2 : S ∣ c % S - c := Int.dvd_emod_sub_self
  show S ∣ a % S * x + c % S - (a * x + c)
  rw [show a % S * x + c % S - (a * x + c) = (a % S - a) * x + (c % S - c) by rw [Int.sub_mul]; omega]
  exact Int.dvd_add (Int.dvd_mul_of_dvd_left e1) e2
theorem gRep_comp {S a c p q p' q' : Int} {m n : Nat} (h1 : gRep S a c p q m) (h2 : gRep S a c p' q' n) : gRep S a c (p * p' % S) ((p' * q + q') % S) (m + n) := fun x => by
  have e1 : S ∣ p * p' % S - p * p' := Int.dvd_emod_sub_self
  have e2 : S ∣ (p' * q + q') % S - (p' * q + q') := Int.dvd_emod_sub_self
  have e3 := h2 (p * x + q)
  have e4 := gIt_congx (a := a) (c := c) n (h1 x)
  rw [gIt_add]
  have e : p * p' % S * x + (p' * q + q') % S - gIt a c n (gIt a c m x) = (p * p' % S - p * p') * x + ((p' * q + q') % S - (p' * q + q')) + (p' * (p * x + q) + q' - gIt a c n (p * x + q)) + (gIt a c n (p * x + q) - gIt a c n (gIt a c m x)) := by
    rw [Int.sub_mul, Int.mul_add, ← Int.mul_assoc, Int.mul_comm p' p]; omega
  rw [e]
  exact Int.dvd_add (Int.dvd_add (Int.dvd_add (Int.dvd_mul_of_dvd_left e1) e2) e3) e4
theorem gRep.mod {S a c p q : Int} {n : Nat} (h : gRep S a c p q n) (x : Int) : (p * x + q) % S = gIt a c n x % S := gmd.mpr (h x)
theorem gRep.it {S a c p q : Int} {n : Nat} (h : gRep S a c p q n) : ∀ (k : Nat) (x : Int), S ∣ gIt p q k x - gIt a c (n * k) x
  | 0, x => by rw [Nat.mul_zero]; exact gdv0
  | k + 1, x => by
    rw [Nat.mul_succ, gIt_add a c (n * k) n]
    show S ∣ p * gIt p q k x + q - _
    exact gdvT (h _) (gIt_congx n (h.it k x))
theorem god_pow {a : Int} (ha : a % 2 = 1) : ∀ n : Nat, a ^ n % 2 = 1
  | 0 => by rw [Int.pow_zero]; rfl
  | n + 1 => by rw [Int.pow_succ, Int.mul_emod, god_pow ha n, ha]; rfl
theorem gIt_full {a : Int} (ha : a % 2 = 1) (c : Int) : ∀ (w : Nat) (x : Int), (2 : Int) ^ w ∣ gIt a c (2 ^ w) x - x
  | 0, x => by rw [Int.pow_zero]; exact Int.one_dvd _
  | w + 1, x => by
    have ih := gIt_full ha c w x
    have e : gIt a c (2 ^ (w + 1)) x - x = (a ^ (2 ^ w) + 1) * (gIt a c (2 ^ w) x - x) := by
      rw [show 2 ^ (w + 1) = 2 ^ w + 2 ^ w by rw [Nat.pow_succ]; omega, gIt_add]
      have := gIt_sub a c (2 ^ w) (gIt a c (2 ^ w) x) x
      rw [Int.add_mul, Int.one_mul, ← this]; omega
    rw [e, g2S]
    have := god_pow ha (2 ^ w)
    exact Int.mul_dvd_mul (Int.dvd_of_emod_eq_zero (by omega)) ih
theorem gIt_fullm {a : Int} (ha : a % 2 = 1) (c : Int) (w : Nat) : ∀ (k : Nat) (x : Int), (2 : Int) ^ w ∣ gIt a c (2 ^ w * k) x - x
  | 0, x => gdv0
  | k + 1, x => by
    rw [Nat.mul_succ, gIt_add]
    exact gdvT (gIt_full ha c w _) (gIt_fullm ha c w k x)
theorem gIt_modn {a : Int} (ha : a % 2 = 1) (c : Int) (w : Nat) (m : Nat) (x : Int) : (2 : Int) ^ w ∣ gIt a c m x - gIt a c (m % 2 ^ w) x := by
  have e : m = 2 ^ w * (m / 2 ^ w) + m % 2 ^ w := (Nat.div_add_mod _ _).symm
  have h : gIt a c m x = gIt a c (m % 2 ^ w) (gIt a c (2 ^ w * (m / 2 ^ w)) x) := by
    rw [← gIt_add, ← e]
  rw [h]
  exact gIt_congx _ (gIt_fullm ha c w _ x)
theorem gnat_mod {w m n : Nat} (h : (2 : Int) ^ w ∣ (m : Int) - n) : m % 2 ^ w = n % 2 ^ w := by
  have e := gmd.mpr h
  have c : ((2 ^ w : Nat) : Int) = (2 : Int) ^ w := Int.natCast_pow 2 w
  rw [← c, ← Int.natCast_emod, ← Int.natCast_emod] at e
  exact Int.ofNat_inj.mp e
theorem gIt_modz {a : Int} (ha : a % 2 = 1) (c : Int) {w m n : Nat} (h : (2 : Int) ^ w ∣ (m : Int) - n) (x : Int) : (2 : Int) ^ w ∣ gIt a c m x - gIt a c n x := by
  have e := gnat_mod h
  have h1 := gIt_modn ha c w m x
  have h2 := gIt_modn ha c w n x
  rw [e] at h1
  exact gdvT h1 (gdvS h2)
theorem gpow_even {a : Int} (ha : a % 2 = 0) (w : Nat) : (2 : Int) ^ w ∣ a ^ w := by
  obtain ⟨b, rfl⟩ := Int.dvd_of_emod_eq_zero ha
  rw [Int.mul_pow]; exact Int.dvd_mul_right _ _
theorem gIt_even {a : Int} (ha : a % 2 = 0) (c : Int) {w n : Nat} (h : w ≤ n) (x : Int) : (2 : Int) ^ w ∣ gIt a c n x - gIt a c w x := by
  obtain ⟨k, rfl⟩ : ∃ k, n = k + w := ⟨n - w, by omega⟩
  rw [gIt_add, gIt_sub]
  exact Int.dvd_mul_of_dvd_left (gpow_even ha w)
/-- as many steps as are done for n -/
def gCnt (w : Nat) (a n : Int) : Nat := if a % 2 = 0 then (min n w).toNat else (n % 2 ^ w).toNat
def gAt (w : Nat) (a c x n : Int) : Int := gIt a c (gCnt w a n) x
theorem gAt_odd {w : Nat} {a c x n : Int} (ha : a % 2 = 1) {k : Nat} (h : (2 : Int) ^ w ∣ (k : Int) - n) : (2 : Int) ^ w ∣ gAt w a c x n - gIt a c k x := by
  unfold gAt gCnt
  rw [if_neg (by omega)]
  refine gIt_modz ha c ?_ x
  have h0 := Int.emod_nonneg n (Int.ne_of_gt (gpos w))
  rw [Int.toNat_of_nonneg h0]
  exact gdvT Int.dvd_emod_sub_self (gdvS h)
theorem gAt_nat (w : Nat) (a c x : Int) (n : Nat) : (2 : Int) ^ w ∣ gAt w a c x n - gIt a c n x := by
  rcases Int.emod_two_eq a with ha | ha
  · unfold gAt gCnt
    rw [if_pos ha]
    by_cases h : n ≤ w
    · rw [show (min (n : Int) w).toNat = n by omega]; exact gdv0
    · rw [show (min (n : Int) w).toNat = w by omega]
      exact gdvS (gIt_even ha c (by omega) x)
  · exact gAt_odd ha gdv0
/-- how often 2 divides, w at most -/
def gv : Nat → Int → Nat
  | 0, _ => 0
  | w + 1, n => if n % 2 = 0 then gv w (n / 2) + 1 else 0
theorem gv_le : ∀ (w : Nat) (n : Int), gv w n ≤ w
  | 0, _ => Nat.le_refl _
  | w + 1, n => by
    unfold gv
    have := gv_le w (n / 2)
    split <;> omega
theorem gv_iff : ∀ (w : Nat) (n : Int) (k : Nat), k ≤ gv w n ↔ k ≤ w ∧ (2 : Int) ^ k ∣ n
  | 0, n, k => by
    constructor
    · intro h
      have h : k ≤ 0 := h
      obtain rfl : k = 0 := by omega
      exact ⟨h, by rw [Int.pow_zero]; exact Int.one_dvd _⟩
    · intro h; exact h.1
  | w + 1, n, 0 => ⟨fun _ => ⟨by omega, by rw [Int.pow_zero]; exact Int.one_dvd _⟩, fun _ => by omega⟩
  | w + 1, n, k + 1 => by
    unfold gv
    by_cases h : n % 2 = 0
    · rw [if_pos h]
      have ih := gv_iff w (n / 2) k
      have e : n = 2 * (n / 2) := by omega
      constructor
      · intro hk
        obtain ⟨h1, t, ht⟩ := ih.mp (by omega)
        refine ⟨by omega, t, ?_⟩
        rw [g2S, Int.mul_assoc, ← ht]; exact e
      · rintro ⟨h1, t, ht⟩
        rw [g2S, Int.mul_assoc] at ht
        have := ih.mpr ⟨by omega, t, by omega⟩
        omega
    · rw [if_neg h]
      constructor
      · intro hk; omega
      · rintro ⟨h1, t, ht⟩
        rw [g2S, Int.mul_assoc] at ht
        omega
theorem gv_dvd (w : Nat) (n : Int) : (2 : Int) ^ gv w n ∣ n := ((gv_iff w n _).mp (Nat.le_refl _)).2
theorem gv_full {w : Nat} {n : Int} : (2 : Int) ^ w ∣ n ↔ gv w n = w := by
  have a := gv_le w n
  have b := gv_iff w n w
  constructor
  · intro h
    have := b.mpr ⟨Nat.le_refl _, h⟩
    omega
  · intro h
    exact (b.mp (by omega)).2
theorem gv_cong {w : Nat} {x y : Int} (h : (2 : Int) ^ w ∣ x - y) : gv w x = gv w y := by
  have key : ∀ {x y : Int}, (2 : Int) ^ w ∣ x - y → gv w x ≤ gv w y := fun {x y} h => by
    refine (gv_iff w y _).mpr ⟨gv_le w x, ?_⟩
    have h1 := Int.dvd_trans (gpp (gv_le w x)) h
    have h2 := gv_dvd w x
    rw [show y = x - (x - y) by omega]
    exact Int.dvd_sub h2 h1
  exact Nat.le_antisymm (key h) (key (gdvS h))
theorem gv_val {w j : Nat} {n a : Int} (h : n = 2 ^ j * (2 * a + 1)) (hj : j ≤ w) : gv w n = j := by
  have h1 := (gv_iff w n j).mpr ⟨hj, by rw [h]; exact Int.dvd_mul_right _ _⟩
  refine Nat.le_antisymm (Nat.le_of_not_lt fun c => ?_) h1
  obtain ⟨_, t, ht⟩ := (gv_iff w n (j + 1)).mp c
  have ht' : (2 : Int) ^ j * (2 * a + 1) = 2 ^ j * (2 * t) := by rw [← h, ht, g2S, Int.mul_assoc, Int.mul_left_comm]
  have := Int.eq_of_mul_eq_mul_left (Int.ne_of_gt (gpos j)) ht'
  omega
theorem gv_next (w : Nat) (z : Int) : gv w z = min w (gv (w + 1) z) := by
  have key : ∀ k, k ≤ gv w z ↔ k ≤ min w (gv (w + 1) z) := fun k => by
    rw [gv_iff, Nat.le_min, gv_iff]
    constructor
    · rintro ⟨a, b⟩; exact ⟨a, by omega, b⟩
    · rintro ⟨a, b, c⟩; exact ⟨a, c⟩
  exact Nat.le_antisymm ((key _).mp (Nat.le_refl _)) ((key _).mpr (Nat.le_refl _))
theorem gv_mul : ∀ (w : Nat) (y z : Int), gv w (y * z) = min w (gv w y + gv w z)
  | 0, y, z => by show 0 = min 0 _; omega
  | w + 1, y, z => by
    have nz := gv_next w z
    have ny := gv_next w y
    have lz := gv_le (w + 1) z
    have ly := gv_le (w + 1) y
    rcases Int.emod_two_eq y with hy | hy
    · have e : y * z = 2 * (y / 2 * z) := by rw [← Int.mul_assoc]; congr 1; omega
      have ih := gv_mul w (y / 2) z
      have g1 : gv (w + 1) (y * z) = gv w (y / 2 * z) + 1 := by
        show (if y * z % 2 = 0 then gv w (y * z / 2) + 1 else 0) = _
        rw [if_pos (by omega), show y * z / 2 = y / 2 * z by omega]
      have g2 : gv (w + 1) y = gv w (y / 2) + 1 := by
        show (if y % 2 = 0 then gv w (y / 2) + 1 else 0) = _
        rw [if_pos hy]
      rw [g1, ih, g2]; omega
    · have g0 : gv (w + 1) y = 0 := by
        show (if y % 2 = 0 then gv w (y / 2) + 1 else 0) = _
        rw [if_neg (by omega)]
      rcases Int.emod_two_eq z with hz | hz
      · have e : y * z = 2 * (y * (z / 2)) := by rw [Int.mul_left_comm]; congr 1; omega
        have ih := gv_mul w y (z / 2)
        have g1 : gv (w + 1) (y * z) = gv w (y * (z / 2)) + 1 := by
          show (if y * z % 2 = 0 then gv w (y * z / 2) + 1 else 0) = _
          rw [if_pos (by omega), show y * z / 2 = y * (z / 2) by omega]
        have g2 : gv (w + 1) z = gv w (z / 2) + 1 := by
          show (if z % 2 = 0 then gv w (z / 2) + 1 else 0) = _
          rw [if_pos hz]
        rw [g1, ih, g2]; omega
      · have g1 : gv (w + 1) (y * z) = 0 := by
          show (if y * z % 2 = 0 then gv w (y * z / 2) + 1 else 0) = _
          rw [if_neg (by rw [Int.mul_emod, hy, hz]; decide)]
        have g2 : gv (w + 1) z = 0 := by
          show (if z % 2 = 0 then gv w (z / 2) + 1 else 0) = _
          rw [if_neg (by omega)]
        rw [g1, g0, g2]; omega
theorem gv_pow (w : Nat) (a y : Int) : ∀ k : Nat, gv w (a ^ k * y) = min w (k * gv w a + gv w y)
  | 0 => by
    have := gv_le w y
    rw [Int.pow_zero, Int.one_mul]; omega
  | k + 1 => by
    rw [Int.pow_succ, Int.mul_comm (a ^ k) a, Int.mul_assoc, gv_mul, gv_pow w a y k, Nat.add_mul]; omega
theorem gLead {a : Int} (ha : a % 2 = 0) (c : Int) (w k : Nat) (x : Int) : (2 : Int) ^ w ∣ gIt a c k x - gIt a c w x ↔ w ≤ k * gv w a + gv w (x - gIt a c w x) := by
  have e1 : (2 : Int) ^ w ∣ gIt a c k (gIt a c w x) - gIt a c w x := by
    rw [← gIt_add]; exact gIt_even ha c (by omega) x
  have e2 := gIt_sub a c k x (gIt a c w x)
  have e3 : (2 : Int) ^ w ∣ gIt a c k x - gIt a c w x ↔ (2 : Int) ^ w ∣ a ^ k * (x - gIt a c w x) := by
    rw [← e2]
    exact ⟨fun h => gdvT h (gdvS e1), fun h => gdvT h e1⟩
  rw [e3, gv_full, gv_pow]; omega
/-- the quotient rounded up -/
theorem gceil {l t : Int} (ht : 0 < t) (hl : 0 ≤ l) : ∃ L : Nat, -((-l) / t) = (L : Int) ∧ l ≤ (L : Int) * t ∧ (∀ k : Nat, k < L → (k : Int) * t < l) ∧ (L : Int) ≤ l := by
  have e := Int.mul_ediv_add_emod (-l) t
  have r0 := Int.emod_nonneg (-l) (Int.ne_of_gt ht)
  have r1 := Int.emod_lt_of_pos (-l) ht
  have q0 : (-l) / t ≤ 0 := by
    refine Int.le_of_not_gt fun c => ?_
    have := Int.mul_le_mul_of_nonneg_left (show (1 : Int) ≤ (-l) / t by omega) (Int.le_of_lt ht)
    omega
  obtain ⟨L, hL⟩ := Int.eq_ofNat_of_zero_le (show 0 ≤ -((-l) / t) by omega)
  have eL : (L : Int) * t = l + (-l) % t := by
    have : (-l) / t = -(L : Int) := by omega
    rw [this, Int.mul_neg, Int.mul_comm] at e
    omega
  refine ⟨L, hL, by omega, fun k hk => ?_, ?_⟩
  · have h1 := Int.mul_le_mul_of_nonneg_right (show (k : Int) + 1 ≤ L by omega) (Int.le_of_lt ht)
    rw [Int.add_mul, Int.one_mul] at h1
    omega
  · by_cases c : L = 0
    · omega
    · have h1 := Int.mul_le_mul_of_nonneg_right (show (L : Int) - 1 + 1 ≤ L by omega) (Int.le_of_lt ht)
      have h2 := Int.mul_le_mul_of_nonneg_left (show (1 : Int) ≤ t by omega) (show 0 ≤ (L : Int) - 1 by omega)
      rw [Int.mul_one, Int.sub_mul, Int.one_mul] at h2
      omega
end Fw
namespace Fw
def ind (c : Bool) : Int := if c = true then 1 else 0
theorem sZ_only {f : Nat → Int} {n i0 : Nat} (h : i0 < n) (h0 : ∀ i, i < n → i ≠ i0 → f i = 0) : sZ f n = f i0 := by
  induction n with
  | zero => omega
  | succ n ih =>
    show sZ f n + f n = f i0
    by_cases c : i0 = n
    · subst c
      have : sZ f i0 = 0 := by
        rw [sZ_congr (g := fun _ => 0) fun i hi => h0 i (by omega) (by omega), sZ_zero]
      omega
    · rw [ih (by omega) fun i hi hn => h0 i (by omega) hn, h0 n (by omega) (fun z => c z.symm)]; omega
/-- a range of the small kind is as many of the wide one -/
theorem wide_sum {S M : Int} {m : Nat} {b t : Int} (s0 : 0 < S) (hM : (m : Int) = M) (m0 : 0 < m) (hd : t - b < S) (y : Int) : sZ (fun i => ind (inR (M * S) (b + (i : Int) * S) (t + (i : Int) * S) y)) m = ind (inR S b t y) := by
  have r0 := Int.emod_nonneg (y - b) (Int.ne_of_gt s0)
  have r1 := Int.emod_lt_of_pos (y - b) s0
  have r2 := Int.emod_add_mul_ediv (y - b) S
  obtain ⟨r, hr⟩ : ∃ r, r = (y - b) % S := ⟨_, rfl⟩
  obtain ⟨q, hq⟩ : ∃ q, q = (y - b) / S := ⟨_, rfl⟩
  rw [← hr, ← hq] at r2
  rw [← hr] at r0 r1
  have M0 : 0 < M := by omega
  have q0 := Int.emod_nonneg q (Int.ne_of_gt M0)
  have q1 := Int.emod_lt_of_pos q M0
  have q2 := Int.emod_add_mul_ediv q M
  obtain ⟨i0, hi0⟩ := Int.eq_ofNat_of_zero_le q0
  have MS : 0 < M * S := Int.mul_pos M0 s0
  have eq1 : S * q = S * (i0 : Int) + M * S * (q / M) := by
    have : q = (i0 : Int) + M * (q / M) := by omega
    conv => lhs; rw [this]
    rw [Int.mul_add, ← Int.mul_assoc, Int.mul_comm S M]
  have key : ∀ i : Nat, i < m → ∃ d : Int, (y - (b + (i : Int) * S)) % (M * S) = r + S * d ∧ (i = i0 → d = 0) ∧ (i ≠ i0 → 1 ≤ d) := fun i hi => by
    have e2 : (i : Int) * S = S * (i : Int) := Int.mul_comm _ _
    by_cases c : i ≤ i0
    · refine ⟨(i0 : Int) - i, ?_, fun z => by omega, fun z => by omega⟩
      have a1 : 0 ≤ S * ((i0 : Int) - i) := Int.mul_nonneg (Int.le_of_lt s0) (by omega)
      have a2 : S * ((i0 : Int) - i) ≤ S * (M - 1) := Int.mul_le_mul_of_nonneg_left (by omega) (Int.le_of_lt s0)
      rw [Int.mul_sub S M, Int.mul_one, Int.mul_comm S M] at a2
      rw [show y - (b + (i : Int) * S) = (r + S * ((i0 : Int) - i)) + (M * S) * (q / M) by rw [Int.mul_sub S]; omega, Int.add_mul_emod_self_left, Int.emod_eq_of_lt (by omega) (by omega)]
    · refine ⟨(i0 : Int) - i + M, ?_, fun z => by omega, fun z => by omega⟩
      have a1 : 0 ≤ S * ((i0 : Int) - i + M) := Int.mul_nonneg (Int.le_of_lt s0) (by omega)
      have a2 : S * ((i0 : Int) - i + M) ≤ S * (M - 1) := Int.mul_le_mul_of_nonneg_left (by omega) (Int.le_of_lt s0)
      rw [Int.mul_sub S M, Int.mul_one, Int.mul_comm S M] at a2
      rw [show y - (b + (i : Int) * S) = (r + S * ((i0 : Int) - i + M)) + (M * S) * (q / M - 1) by rw [Int.mul_add S, Int.mul_sub S, Int.mul_sub (M * S), Int.mul_one, Int.mul_comm S M]; omega, Int.add_mul_emod_self_left, Int.emod_eq_of_lt (by omega) (by omega)]
  rw [sZ_only (i0 := i0) (by omega) fun i hi hne => ?_]
  · obtain ⟨d, e, d0, _⟩ := key i0 (by omega)
    rw [d0 rfl, Int.mul_zero, Int.add_zero] at e
    unfold ind inR
    rw [e, ← hr, show decide (b + (i0 : Int) * S ≤ t + (i0 : Int) * S ∧ r ≤ t + (i0 : Int) * S - (b + (i0 : Int) * S)) = decide (b ≤ t ∧ r ≤ t - b) from decide_eq_decide.mpr (by omega)]
  · obtain ⟨d, e, _, d1⟩ := key i hi
    have := Int.mul_le_mul_of_nonneg_left (d1 hne) (Int.le_of_lt s0)
    rw [Int.mul_one] at this
    unfold ind inR
    rw [e, if_neg (by rw [decide_eq_true_eq]; omega)]
/-- a range that may go beyond the greatest value is one arc or two -/
theorem arc_one {S L lo hi y : Int} (s0 : 0 < S) (h0 : lo ≤ hi) (h1 : hi - lo < S) (c : L + (lo - L) % S + hi - lo < L + S) : inR S lo hi y = decide (L + (lo - L) % S ≤ L + (y - L) % S ∧ L + (y - L) % S ≤ L + (lo - L) % S + hi - lo) := by
  have u0 := Int.emod_nonneg (y - L) (Int.ne_of_gt s0)
  have u1 := Int.emod_lt_of_pos (y - L) s0
  have u2 := Int.emod_add_mul_ediv (y - L) S
  have v0 := Int.emod_nonneg (lo - L) (Int.ne_of_gt s0)
  have v1 := Int.emod_lt_of_pos (lo - L) s0
  have v2 := Int.emod_add_mul_ediv (lo - L) S
  unfold inR
  generalize (y - L) % S = u at *
  generalize (lo - L) % S = v at *
  generalize (y - L) / S = p at *
  generalize (lo - L) / S = q at *
  by_cases g : v ≤ u
  · rw [show y - lo = (u - v) + S * (p - q) by rw [Int.mul_sub]; omega, Int.add_mul_emod_self_left, Int.emod_eq_of_lt (by omega) (by omega)]
    exact decide_eq_decide.mpr (by omega)
  · rw [show y - lo = (u - v + S) + S * (p - q - 1) by rw [Int.mul_sub, Int.mul_sub, Int.mul_one]; omega, Int.add_mul_emod_self_left, Int.emod_eq_of_lt (by omega) (by omega)]
    exact decide_eq_decide.mpr (by omega)
theorem arc_two {S L lo hi y : Int} (s0 : 0 < S) (h0 : lo ≤ hi) (h1 : hi - lo < S) (c : ¬ L + (lo - L) % S + hi - lo < L + S) : ind (inR S lo hi y) = ind (decide (L + (lo - L) % S ≤ L + (y - L) % S ∧ L + (y - L) % S ≤ L + S - 1)) + ind (decide (L ≤ L + (y - L) % S ∧ L + (y - L) % S ≤ L + (lo - L) % S + hi - lo - S)) := by
  have u0 := Int.emod_nonneg (y - L) (Int.ne_of_gt s0)
  have u1 := Int.emod_lt_of_pos (y - L) s0
  have u2 := Int.emod_add_mul_ediv (y - L) S
  have v0 := Int.emod_nonneg (lo - L) (Int.ne_of_gt s0)
  have v1 := Int.emod_lt_of_pos (lo - L) s0
  have v2 := Int.emod_add_mul_ediv (lo - L) S
  unfold inR ind
  generalize (y - L) % S = u at *
  generalize (lo - L) % S = v at *
  generalize (y - L) / S = p at *
  generalize (lo - L) / S = q at *
  by_cases g : v ≤ u
  · rw [show y - lo = (u - v) + S * (p - q) by rw [Int.mul_sub]; omega, Int.add_mul_emod_self_left, Int.emod_eq_of_lt (by omega) (by omega)]
    rw [decide_eq_true (show lo ≤ hi ∧ u - v ≤ hi - lo by omega), decide_eq_true (show L + v ≤ L + u ∧ L + u ≤ L + S - 1 by omega), decide_eq_false (show ¬ (L ≤ L + u ∧ L + u ≤ L + v + hi - lo - S) by omega)]; rfl
  · rw [show y - lo = (u - v + S) + S * (p - q - 1) by rw [Int.mul_sub, Int.mul_sub, Int.mul_one]; omega, Int.add_mul_emod_self_left, Int.emod_eq_of_lt (by omega) (by omega)]
    rw [decide_eq_false (show ¬ (L + v ≤ L + u ∧ L + u ≤ L + S - 1) by omega), show decide (lo ≤ hi ∧ u - v + S ≤ hi - lo) = decide (L ≤ L + u ∧ L + u ≤ L + v + hi - lo - S) from decide_eq_decide.mpr (by omega)]
    rw [if_neg Bool.false_ne_true]; omega
theorem sum_sZ {α : Type} (g : α → Nat → Int) (n : Nat) : ∀ ts : List α, (ts.map fun r => sZ (g r) n).sum = sZ (fun i => (ts.map fun r => g r i).sum) n
  | [] => by
    show (0 : Int) = sZ (fun _ => 0) n
    rw [sZ_zero]
  | t :: r => by
    rw [List.map_cons, List.sum_cons, sum_sZ g n r, ← sZ_add]
    exact sZ_congr fun i _ => by rw [List.map_cons, List.sum_cons]
theorem tot_sum {α : Type} (p : α → Int → Bool) (q : Int → Bool) (ts : List α) (f l : Int) (h : ∀ x, (ts.map fun r => ind (p r x)).sum = ind (q x)) : (ts.map fun r => tot (p r) f l).sum = tot q f l := by
  unfold tot cN
  rw [sum_sZ]
  exact sZ_congr fun i _ => h _
end Fw
namespace Fw
open PySem L2
theorem w_lstRg {σ : L2.St} {H : Hp} {Q : VK} {te : L2.St → Hp → (Int → Int → Hp → Prop) → Prop} (q : te σ H fun a b H1 => RgOk a b ∧ ∀ q, H1 q = none → Q (.ref q) (upd H1 q (.lst (rgV a b)))) : tLstRg te σ H Q := q
theorem w_rg1 {σ : L2.St} {H : Hp} {ta : TE} {P : Int → Int → Hp → Prop} (q : ta σ H fun x H1 => ∃ n, x = .int n ∧ P 0 n H1) : tRg1 ta σ H P := q
theorem w_dget2 {σ : L2.St} {H : Hp} {Q : VK} {td ty tx : TE} (q : td σ H fun x H1 => ∃ a, x = .ref a ∧ IsD H1 a ∧ ty σ H1 fun y H2 => tx σ H2 fun z H3 => ∃ o, DGet H3 a y o ∧ Q (o.getD z) H3) : tDGet2 td ty tx σ H Q := q
theorem w_disp {σ : L2.St} {H : Hp} {Q : VK} {trs : List (TE × TE)} (kvs : List (Key × V)) (h : ∀ (H1 : Hp) (F : List (V × V) → Hp → Prop), F (kvs.map fun kv => (kV kv.1, kv.2)) H1 → tPairs trs σ H1 F) (l : kvs.length ≤ 15) (q : ∀ p, H p = none → Q (.ref p) (upd (upd H p (.dK [])) p (.dK (mergeK [] kvs)))) : tDisp trs σ H Q := fun p hp => h _ _ ⟨upd_same, kvs, rfl, l, q p hp⟩
theorem upd_twice {H : Hp} {p : Addr} {o u : HO} : upd (upd H p o) p u = upd H p u := by
  funext q
  by_cases e : q = p
  · rw [e, upd_same, upd_same]
  · rw [upd_ne e, upd_ne e, upd_ne e]
theorem w_pair {σ : L2.St} {H : Hp} {tk tv : TE} {r : List (TE × TE)} {Q : List (V × V) → Hp → Prop} (q : tk σ H fun x H1 => tv σ H1 fun y H2 => tPairs r σ H2 fun ps H3 => Q ((x, y) :: ps) H3) : tPairs ((tk, tv) :: r) σ H Q := q
theorem w_pair0 {σ : L2.St} {H : Hp} {Q : List (V × V) → Hp → Prop} (q : Q [] H) : tPairs [] σ H Q := q
theorem dmut {H : Hp} {p q : Addr} {o u : HO} {kvs : List (Key × V)} (h : H q = some o) (hp : H p = some (.dK kvs)) (no : ∀ k, o ≠ .dK k := by intro k z; cases z) : (upd H p u) q = some o := by
  rw [upd_ne (ne_of h hp (no _))]; exact h
theorem w_st {σ : L2.St} {H : Hp} {D : Ends} {t : TS} (R : L2.St → Hp → Prop) (h : ∀ D' : Ends, (∀ σ' H', R σ' H' → D'.nx σ' H') → t D' σ H) (q : ∀ σ' H', R σ' H' → D.nx σ' H') : t D σ H := h D q
theorem cop_two {k : Nat} (h : k % 2 = 1) (n : Nat) : Nat.gcd k (2 ^ n) = 1 := by
  have h2 : Nat.Coprime k 2 := by
    unfold Nat.Coprime
    have d := Nat.gcd_dvd_right k 2
    have l := Nat.le_of_dvd (by decide) d
    have p : 0 < Nat.gcd k 2 := Nat.gcd_pos_of_pos_right _ (by decide)
    rcases (show Nat.gcd k 2 = 1 ∨ Nat.gcd k 2 = 2 by omega) with e | e
    · exact e
    · have := Nat.gcd_dvd_left k 2
      rw [e] at this; omega
  exact Nat.Coprime.pow_right n h2
theorem two_ex' : ∀ (f : Nat) (n : Int), n.natAbs ≤ f → n ≠ 0 → ∃ (j : Nat) (a : Int), n = 2 ^ j * (2 * a + 1)
  | 0, n, h, h0 => by omega
  | f + 1, n, h, h0 => by
    rcases Int.emod_two_eq n with e | e
    · obtain ⟨j, a, q⟩ := two_ex' f (n / 2) (by omega) (by omega)
      refine ⟨j + 1, a, ?_⟩
      rw [Int.pow_succ, Int.mul_assoc, Int.mul_left_comm, ← q]; omega
    · exact ⟨0, n / 2, by rw [Int.pow_zero]; omega⟩
theorem gcd_gv (w : Nat) (c : Int) : ((Nat.gcd c.natAbs ((2 : Int) ^ w).natAbs : Nat) : Int) = 2 ^ gv w c := by
  have e2 : ((2 : Int) ^ w).natAbs = 2 ^ w := Int.natAbs_pow 2 w
  rw [e2]
  by_cases h : (2 : Int) ^ w ∣ c
  · rw [gv_full.mp h]
    have d : 2 ^ w ∣ c.natAbs := by
      have := Int.natAbs_dvd_natAbs.mpr h
      rw [e2] at this; exact this
    rw [Nat.gcd_eq_right d]; exact Int.natCast_pow 2 w
  · have c0 : c ≠ 0 := fun z => h (by rw [z]; exact Int.dvd_zero _)
    obtain ⟨j, a, e⟩ := two_ex' _ c (Nat.le_refl _) c0
    have jw : j ≤ w := Nat.le_of_not_lt fun z => h (by rw [e]; exact Int.dvd_trans (gpp (Nat.le_of_lt z)) (Int.dvd_mul_right _ _))
    rw [gv_val e jw]
    have ea : c.natAbs = 2 ^ j * (2 * a + 1).natAbs := by
      rw [e, Int.natAbs_mul, Int.natAbs_pow]; rfl
    have ew : 2 ^ w = 2 ^ j * 2 ^ (w - j) := by rw [← Nat.pow_add]; congr 1; omega
    rw [ea, ew, Nat.gcd_mul_left, cop_two (by omega), Nat.mul_one]
    exact Int.natCast_pow 2 j
theorem tot_up (p : Int → Bool) (f S : Int) (s0 : 0 < S) (h : ∀ x, p (x + S) = p x) : tot p (f + 1) (f + 1 + S - 1) = tot p f (f + S - 1) := by
  have e1 := tot_split p (first := f) (mid := f) (last := f + S) (by omega) (by omega)
  have e2 := tot_step p (show f ≤ f + S by omega)
  have e3 := tot_one p f
  rw [h f] at e2
  rw [show f + 1 + S - 1 = f + S by omega]
  omega
theorem tot_any (p : Int → Bool) (S : Int) (s0 : 0 < S) (h : ∀ x, p (x + S) = p x) (f g : Int) : tot p f (f + S - 1) = tot p g (g + S - 1) := by
  have up : ∀ (n : Nat) (f : Int), tot p (f + (n : Int)) (f + (n : Int) + S - 1) = tot p f (f + S - 1) := fun n => by
    induction n with
    | zero => intro f; rw [show f + ((0 : Nat) : Int) = f by omega]
    | succ n ih =>
      intro f
      rw [show f + ((n + 1 : Nat) : Int) = (f + (n : Int)) + 1 by omega, tot_up p _ S s0 h, ih]
  rcases Int.le_total f g with c | c
  · obtain ⟨n, hn⟩ := Int.eq_ofNat_of_zero_le (show 0 ≤ g - f by omega)
    rw [show g = f + (n : Int) by omega, up]
  · obtain ⟨n, hn⟩ := Int.eq_ofNat_of_zero_le (show 0 ≤ f - g by omega)
    rw [show f = g + (n : Int) by omega, up]
theorem tot_laps (p : Int → Bool) (S : Int) (s0 : 0 < S) (h : ∀ x, p (x + S) = p x) (f : Int) : ∀ n : Nat, tot p f (f + (n : Int) * S - 1) = n * tot p f (f + S - 1)
  | 0 => by rw [tot_none (by omega)]; omega
  | n + 1 => by
    have n0 : 0 ≤ (n : Int) * S := Int.mul_nonneg (by omega) (by omega)
    rw [show ((n + 1 : Nat) : Int) = (n : Int) + 1 by omega, Int.add_mul, Int.one_mul, Int.add_mul, Int.one_mul]
    have e := tot_split p (first := f) (mid := f + (n : Int) * S - 1) (last := f + ((n : Int) * S + S) - 1) (by omega) (by omega)
    rw [e, tot_laps p S s0 h f n, show f + (n : Int) * S - 1 + 1 = f + (n : Int) * S by omega, show f + ((n : Int) * S + S) - 1 = f + (n : Int) * S + S - 1 by omega, tot_any p S s0 h (f + (n : Int) * S) f]
/-- whether a multiple of g, more a, is from lo to hi -/
theorem mult_iff {g lo hi a : Int} (g0 : 0 < g) (h : hi - lo < g) : ((hi - a) / g > (lo - 1 - a) / g) ↔ inR g lo hi a = true := by
  unfold inR
  rw [decide_eq_true_eq]
  have r0 := Int.emod_nonneg (a - lo) (Int.ne_of_gt g0)
  have r1 := Int.emod_lt_of_pos (a - lo) g0
  have r2 := Int.emod_add_mul_ediv (a - lo) g
  generalize (a - lo) % g = r at *
  generalize (a - lo) / g = q at *
  have e1 : (lo - 1 - a) / g = -q - 1 := by
    have : lo - 1 - a = (g - 1 - r) + g * (-q - 1) := by rw [Int.mul_sub, Int.mul_neg]; omega
    rw [this, Int.add_mul_ediv_left _ _ (Int.ne_of_gt g0), Int.ediv_eq_zero_of_lt (by omega) (by omega)]; omega
  rw [e1]
  constructor
  · intro z
    have := (Int.le_ediv_iff_mul_le g0 (a := -q) (b := hi - a)).mp (by omega)
    rw [Int.mul_comm, Int.mul_neg] at this
    omega
  · rintro ⟨z1, z2⟩
    have := (Int.le_ediv_iff_mul_le g0 (a := -q) (b := hi - a)).mpr (by rw [Int.mul_comm, Int.mul_neg]; omega)
    omega
theorem tot_inR {g lo hi : Int} (g0 : 0 < g) (h0 : lo ≤ hi + 1) (h : hi - lo < g) (f : Int) : tot (fun a => inR g lo hi a) f (f + g - 1) = hi - lo + 1 := by
  have per : ∀ x, inR g lo hi (x + g) = inR g lo hi x := fun x => by
    unfold inR
    rw [show x + g - lo = (x - lo) + g * 1 by omega, Int.add_mul_emod_self_left]
  show tot (inR g lo hi) f (f + g - 1) = _
  rw [tot_any _ g g0 per f lo, tot_split _ (first := lo) (mid := hi) (last := lo + g - 1) (by omega) (by omega)]
  have e1 : tot (inR g lo hi) lo hi = hi - lo + 1 := (tot_all_iff (by omega)).mpr fun x x1 x2 => by
    unfold inR
    rw [Int.emod_eq_of_lt (by omega) (by omega)]; exact decide_eq_true (by omega)
  have e2 : tot (inR g lo hi) (hi + 1) (lo + g - 1) = 0 := tot_zero_iff.mpr fun x x1 x2 => by
    unfold inR
    rw [Int.emod_eq_of_lt (by omega) (by omega)]; exact decide_eq_false (by omega)
  omega
/-- for how many a of w bits no multiple of 2 ** p, more a, is from lo to hi -/
theorem tot_miss {w p : Nat} {lo hi : Int} (pw : p ≤ w) (h0 : lo ≤ hi + 1) (f : Int) : tot (fun a => !decide ((hi - a) / (2 : Int) ^ p > (lo - 1 - a) / 2 ^ p)) f (f + 2 ^ w - 1) = (2 ^ p - min (2 ^ p) (hi - lo + 1)) * 2 ^ (w - p) := by
  have g0 : (0 : Int) < 2 ^ p := Int.pow_pos (by decide)
  have w0 : (0 : Int) < 2 ^ w := Int.pow_pos (by decide)
  have ew : (2 : Int) ^ w = ((2 ^ (w - p) : Nat) : Int) * 2 ^ p := by
    rw [show ((2 ^ (w - p) : Nat) : Int) = (2 : Int) ^ (w - p) from Int.natCast_pow 2 _, ← Int.pow_add]; congr 1; omega
  rw [tot_not (by omega)]
  by_cases c : hi - lo < 2 ^ p
  · rw [tot_congr (q := fun a => inR (2 ^ p) lo hi a) fun x _ _ => by
      rw [Bool.eq_iff_iff, decide_eq_true_eq]; exact mult_iff g0 c]
    have per : ∀ x, inR (2 ^ p) lo hi (x + 2 ^ p) = inR (2 ^ p) lo hi x := fun x => by
      unfold inR
      rw [show x + 2 ^ p - lo = (x - lo) + 2 ^ p * 1 by omega, Int.add_mul_emod_self_left]
    rw [ew, tot_laps _ _ g0 per, tot_inR g0 h0 c, show min ((2 : Int) ^ p) (hi - lo + 1) = hi - lo + 1 by omega, show ((2 ^ (w - p) : Nat) : Int) = (2 : Int) ^ (w - p) from Int.natCast_pow 2 _, Int.sub_mul, Int.mul_comm (2 ^ p), Int.mul_comm (hi - lo + 1)]
    omega
  · rw [show min ((2 : Int) ^ p) (hi - lo + 1) = 2 ^ p by omega, Int.sub_self, Int.zero_mul]
    have := (tot_all_iff (p := fun a => decide ((hi - a) / (2 : Int) ^ p > (lo - 1 - a) / 2 ^ p)) (first := f) (last := f + 2 ^ w - 1) (by omega)).mpr fun x _ _ => by
      rw [decide_eq_true_eq]
      have e := Int.add_mul_ediv_left (lo - 1 - x) 1 (Int.ne_of_gt g0)
      have := Int.ediv_le_ediv g0 (show lo - 1 - x + 2 ^ p * 1 ≤ hi - x by omega)
      omega
    omega
theorem bits_pow (k : Nat) : PySem.Builtin.Int.intBits (2 ^ k) = k + 1 := by
  unfold PySem.Builtin.Int.intBits
  have e : ((2 : Int) ^ k).natAbs = 2 ^ k := by rw [Int.natAbs_pow]; rfl
  have n : ¬ (((2 : Int) ^ k == 0) = true) := by
    have : (0 : Int) < 2 ^ k := Int.pow_pos (by decide)
    simp only [beq_iff_eq]; omega
  rw [if_neg n, e, Nat.log2_two_pow]
end Fw
namespace Fw
/-- the integers with a property are those that are equal to X modulo per -/
def Sol (p : Int → Bool) (per X : Int) : Prop := ∀ x, p x = true ↔ per ∣ x - X
section
variable {p : Int → Bool} {per X f : Int}
theorem Sol.shift (h : Sol p per X) (x : Int) : p (x + per) = p x := by
  rw [Bool.eq_iff_iff, h, h]
  constructor
  · rintro ⟨k, e⟩; exact ⟨k - 1, by rw [Int.mul_sub]; omega⟩
  · rintro ⟨k, e⟩; exact ⟨k + 1, by rw [Int.mul_add]; omega⟩
theorem Sol.near (h : Sol p per X) (p0 : 0 < per) {x : Int} (h1 : X - per < x) (h2 : x < X + per) (hx : p x = true) : x = X := by
  obtain ⟨k, e⟩ := (h x).mp hx
  rcases Int.lt_trichotomy k 0 with z | z | z
  · have := Int.mul_le_mul_of_nonneg_left (show k ≤ -1 by omega) (Int.le_of_lt p0); omega
  · rw [z] at e; omega
  · have := Int.mul_le_mul_of_nonneg_left (show 1 ≤ k by omega) (Int.le_of_lt p0); omega
theorem Sol.self (h : Sol p per X) : p X = true := (h X).mpr ⟨0, by omega⟩
theorem Sol.before (h : Sol p per X) (p0 : 0 < per) (h1 : f ≤ X) (h2 : X < f + per) : tot p f (X - 1) = 0 := tot_zero_iff.mpr fun x x0 x1 => by
  cases e : p x with
  | false => rfl
  | true => have := h.near p0 (by omega) (by omega) e; omega
theorem Sol.block (h : Sol p per X) (p0 : 0 < per) (h1 : f ≤ X) (h2 : X < f + per) : tot p f (f + per - 1) = 1 := by
  rw [tot_split p (first := f) (mid := X) (last := f + per - 1) (by omega) (by omega), tot_step p h1, h.before p0 h1 h2, if_pos h.self]
  have : tot p (X + 1) (f + per - 1) = 0 := tot_zero_iff.mpr fun x x0 x1 => by
    cases e : p x with
    | false => rfl
    | true => have := h.near p0 (by omega) (by omega) e; omega
  omega
theorem Sol.many (h : Sol p per X) (p0 : 0 < per) (h1 : f ≤ X) (h2 : X < f + per) (n : Nat) : tot p f (f + (n : Int) * per - 1) = n := by
  rw [tot_laps p per p0 h.shift f n, h.block p0 h1 h2, Int.mul_one]
theorem Sol.at (h : Sol p per X) (p0 : 0 < per) (h1 : f ≤ X) (h2 : X < f + per) (n : Nat) : p (X + (n : Int) * per) = true ∧ tot p f (X + (n : Int) * per - 1) = n := by
  refine ⟨(h _).mpr ⟨n, by rw [Int.mul_comm]; omega⟩, ?_⟩
  have n0 : 0 ≤ (n : Int) * per := Int.mul_nonneg (by omega) (Int.le_of_lt p0)
  have e := tot_split p (first := f) (mid := X - 1) (last := X + (n : Int) * per - 1) (by omega) (by omega)
  have h' : Sol p per X := h
  have b := h'.many p0 (f := X) (Int.le_refl _) (by omega) n
  rw [h.before p0 h1 h2, show X - 1 + 1 = X by omega] at e
  omega
end
/-- how many integers of a range are equal to r modulo m -/
theorem tot_mod {m r b t : Int} (m0 : 0 < m) (h : b ≤ t + 1) : tot (fun v => decide ((v - r) % m = 0)) b t = (t - r) / m - (b - r - 1) / m := by
  obtain ⟨n, hn⟩ := Int.eq_ofNat_of_zero_le (show 0 ≤ t + 1 - b by omega)
  have key : ∀ n : Nat, cN (fun v => decide ((v - r) % m = 0)) b n = (b + (n : Int) - 1 - r) / m - (b - r - 1) / m := fun n => by
    induction n with
    | zero =>
      show (0 : Int) = _
      rw [show b + ((0 : Nat) : Int) - 1 - r = b - r - 1 by omega, Int.sub_self]
    | succ n ih =>
      show cN (fun v => decide ((v - r) % m = 0)) b n + (if decide ((b + (n : Int) - r) % m = 0) = true then 1 else 0) = _
      rw [ih, show b + ((n + 1 : Nat) : Int) - 1 - r = b + (n : Int) - r by omega, show b + (n : Int) - 1 - r = b + (n : Int) - r - 1 by omega]
      generalize b + (n : Int) - r = y
      have r0 := Int.emod_nonneg y (Int.ne_of_gt m0)
      have r1 := Int.emod_lt_of_pos y m0
      have r2 := Int.emod_add_mul_ediv y m
      generalize y % m = c at *
      generalize y / m = q at *
      by_cases z : c = 0
      · have e : (y - 1) / m = q - 1 := by
          rw [show y - 1 = (m - 1) + m * (q - 1) by rw [Int.mul_sub]; omega, Int.add_mul_ediv_left _ _ (Int.ne_of_gt m0), Int.ediv_eq_zero_of_lt (by omega) (by omega)]; omega
        rw [e, decide_eq_true z, if_pos rfl]; omega
      · have e : (y - 1) / m = q := by
          rw [show y - 1 = (c - 1) + m * q by omega, Int.add_mul_ediv_left _ _ (Int.ne_of_gt m0), Int.ediv_eq_zero_of_lt (by omega) (by omega)]; omega
        rw [e, decide_eq_false z, if_neg Bool.false_ne_true]; omega
  unfold tot
  rw [show (t - b + 1).toNat = n by omega, key n, show b + (n : Int) - 1 - r = t - r by omega]
/-- values counted one by one -/
theorem tot_vals {v : Int → Int} {b t f l c : Int} {g : Int → Bool} (hbt : b ≤ t + 1) (h : ∀ w, b ≤ w → w ≤ t → tot (fun x => decide (v x = w)) f l = if g w = true then c else 0) : tot (fun x => decide (b ≤ v x ∧ v x ≤ t)) f l = c * tot g b t := by
  obtain ⟨n, hn⟩ := Int.eq_ofNat_of_zero_le (show 0 ≤ t - b + 1 by omega)
  unfold tot at *
  rw [show (t - b + 1).toNat = n by omega]
  generalize (l - f + 1).toNat = N at *
  unfold cN at *
  have e1 : sZ (fun i => if decide (b ≤ v (f + (i : Int)) ∧ v (f + (i : Int)) ≤ t) = true then (1 : Int) else 0) N = sZ (fun i => sZ (fun j => if decide (v (f + (i : Int)) = b + (j : Int)) = true then 1 else 0) n) N := by
    refine sZ_congr fun i _ => ?_
    by_cases q : b ≤ v (f + (i : Int)) ∧ v (f + (i : Int)) ≤ t
    · rw [if_pos (decide_eq_true q)]
      obtain ⟨j, hj⟩ := Int.eq_ofNat_of_zero_le (show 0 ≤ v (f + (i : Int)) - b by omega)
      rw [sZ_only (i0 := j) (by omega) fun i2 _ h2 => if_neg (by rw [decide_eq_true_eq]; omega), if_pos (decide_eq_true (by omega))]
    · rw [if_neg (by rw [decide_eq_true_eq]; exact q)]
      rw [sZ_congr (g := fun _ => 0) fun j hj => if_neg (by rw [decide_eq_true_eq]; omega), sZ_zero]
  rw [e1, sZ_swap, ← sZ_mul]
  refine sZ_congr fun j hj => ?_
  have := h (b + (j : Int)) (by omega) (by omega)
  rw [this]
  by_cases q : g (b + (j : Int)) = true
  · rw [if_pos q, if_pos q, Int.mul_one]
  · rw [if_neg q, if_neg q, Int.mul_zero]
/-- a x = far modulo 2 ^ w, where a is o * 2 ^ t -/
theorem sol_iff {w t : Nat} {o u far x : Int} (tw : t ≤ w) (hu : (2 : Int) ^ w ∣ o * u - 1) (hf : (2 : Int) ^ t ∣ far) : (2 : Int) ^ w ∣ o * 2 ^ t * x - far ↔ (2 : Int) ^ (w - t) ∣ x - far / 2 ^ t * u := by
  have t0 : (0 : Int) < 2 ^ t := Int.pow_pos (by decide)
  have e : (2 : Int) ^ w = 2 ^ t * 2 ^ (w - t) := by rw [← Int.pow_add]; congr 1; omega
  obtain ⟨m, hm⟩ := hf
  have hq : far / 2 ^ t = m := by rw [hm, Int.mul_ediv_cancel_left _ (Int.ne_of_gt t0)]
  obtain ⟨d, hd⟩ : (2 : Int) ^ (w - t) ∣ o * u - 1 := Int.dvd_trans ⟨2 ^ t, by rw [e, Int.mul_comm]⟩ hu
  rw [hq, hm]
  have e2 : o * 2 ^ t * x - 2 ^ t * m = 2 ^ t * (o * x - m) := by rw [Int.mul_sub, Int.mul_comm o, Int.mul_assoc]
  rw [e2, e]
  constructor
  · rintro ⟨k, hk⟩
    rw [Int.mul_assoc] at hk
    have hk := Int.eq_of_mul_eq_mul_left (Int.ne_of_gt t0) hk
    refine ⟨u * k - d * x, ?_⟩
    have h1 : u * (o * x - m) = u * (2 ^ (w - t) * k) := by rw [hk]
    rw [Int.mul_sub, Int.mul_left_comm u (2 ^ (w - t)) k, ← Int.mul_assoc u o x, Int.mul_comm u o, show o * u = 1 + 2 ^ (w - t) * d by omega, Int.add_mul, Int.one_mul, Int.mul_comm u m, Int.mul_assoc] at h1
    rw [Int.mul_sub]; omega
  · rintro ⟨k, hk⟩
    refine ⟨o * k + d * m, ?_⟩
    rw [Int.mul_assoc]
    congr 1
    have h1 : o * (x - m * u) = o * (2 ^ (w - t) * k) := by rw [hk]
    rw [Int.mul_sub, Int.mul_left_comm o m u, show o * u = 1 + 2 ^ (w - t) * d by omega, Int.mul_add, Int.mul_one, Int.mul_left_comm o, Int.mul_left_comm m] at h1
    rw [Int.mul_add, Int.mul_comm d m]; omega
end Fw
local macro_rules | `(tactic| walk_at "rd") => `(tactic| repeat (first
  | (with_reducible show L2.tVar _ _ _ _; first | with_reducible refine Fw.w_v0 ?_ | with_reducible refine Fw.w_v1 ?_ | with_reducible refine Fw.w_v2 ?_ | with_reducible refine Fw.w_v3 ?_ | with_reducible refine Fw.w_v4 ?_ | with_reducible refine Fw.w_v5 ?_ | with_reducible refine Fw.w_v6 ?_ | with_reducible refine Fw.w_v7 ?_ | with_reducible refine Fw.w_v8 ?_ | with_reducible refine Fw.w_v9 ?_ | with_reducible refine Fw.w_v10 ?_ | with_reducible refine Fw.w_v11 ?_ | with_reducible refine Fw.w_v12 ?_ | with_reducible refine Fw.w_v13 ?_ | with_reducible refine Fw.w_v14 ?_ | with_reducible refine Fw.w_v15 ?_ | with_reducible refine Fw.w_v16 ?_ | with_reducible refine Fw.w_v17 ?_ | with_reducible refine Fw.w_v18 ?_ | with_reducible refine Fw.w_v19 ?_ | with_reducible refine Fw.w_v20 ?_ | with_reducible refine Fw.w_v21 ?_ | with_reducible refine Fw.w_v22 ?_ | with_reducible refine Fw.w_v23 ?_ | with_reducible refine Fw.w_v24 ?_ | with_reducible refine Fw.w_v25 ?_ | with_reducible refine Fw.w_v26 ?_ | with_reducible refine Fw.w_v27 ?_ | with_reducible refine Fw.w_v28 ?_ | with_reducible refine Fw.w_v29 ?_ | with_reducible refine Fw.w_v30 ?_ | with_reducible refine Fw.w_v31 ?_ | with_reducible refine Fw.w_var (by with_unfolding_all exact rfl) ?_)
  | with_reducible refine Fw.w_cons ?_
  | with_reducible refine Fw.w_c ?_
  | with_reducible refine Fw.w_op ?_
  | with_reducible refine Fw.w_nil ?_
  | with_reducible refine Fw.w_I0 ?_
  | with_reducible refine Fw.w_seq ?_
  | with_reducible refine Fw.w_asg ?_
  | (with_reducible show L2.gName _ _ (L2.wipe _ _) _ _; dsimp only [L2.wipe, List.set, List.map])
  | (with_reducible show L2.gTup _ _ _ _ (L2.wipe _ _) _ _; dsimp only [L2.wipe, List.set, List.map])
  | (with_reducible show L2.gName _ _ _ _ _; first | with_reducible refine Fw.w_n0 ?_ | with_reducible refine Fw.w_n1 ?_ | with_reducible refine Fw.w_n2 ?_ | with_reducible refine Fw.w_n3 ?_ | with_reducible refine Fw.w_n4 ?_ | with_reducible refine Fw.w_n5 ?_ | with_reducible refine Fw.w_n6 ?_ | with_reducible refine Fw.w_n7 ?_ | with_reducible refine Fw.w_n8 ?_ | with_reducible refine Fw.w_n9 ?_ | with_reducible refine Fw.w_n10 ?_ | with_reducible refine Fw.w_n11 ?_ | with_reducible refine Fw.w_n12 ?_ | with_reducible refine Fw.w_n13 ?_ | with_reducible refine Fw.w_n14 ?_ | with_reducible refine Fw.w_n15 ?_ | with_reducible refine Fw.w_n16 ?_ | with_reducible refine Fw.w_n17 ?_ | with_reducible refine Fw.w_n18 ?_ | with_reducible refine Fw.w_n19 ?_ | with_reducible refine Fw.w_n20 ?_ | with_reducible refine Fw.w_n21 ?_ | with_reducible refine Fw.w_n22 ?_ | with_reducible refine Fw.w_n23 ?_ | with_reducible refine Fw.w_n24 ?_ | with_reducible refine Fw.w_n25 ?_ | with_reducible refine Fw.w_n26 ?_ | with_reducible refine Fw.w_n27 ?_ | with_reducible refine Fw.w_n28 ?_ | with_reducible refine Fw.w_n29 ?_ | with_reducible refine Fw.w_n30 ?_ | with_reducible refine Fw.w_n31 ?_ | with_reducible refine Fw.w_name ?_)
  | with_reducible refine Fw.w_call ?_
  | with_reducible refine Fw.w_exb ?_
  | with_reducible refine Fw.w_test ?_
  | (with_reducible show L2.rI _ _ _ _ _ _; with_reducible refine Fw.w_I (by with_unfolding_all first | exact Or.inl ⟨by decide, by decide⟩ | exact Or.inr ⟨by decide, by decide⟩ | exact ⟨by decide, by decide⟩ | exact ⟨by decide, by decide, by decide⟩ | (show (0 : Int) < _; decide)) ?_)
  | with_reducible refine Fw.w_neI ?_
  | with_reducible refine Fw.w_ifS ?_
  | with_reducible refine Fw.w_next ?_
  | with_reducible refine Fw.w_callK ?_
  | with_reducible refine Fw.w_ret ?_
  | with_reducible refine Fw.w_cb ?_
  | with_reducible refine Fw.w_int ?_
  | (with_reducible show L2.rIxL _ _ _ _ _; with_reducible refine Fw.w_ixL (by first | assumption | exact L2.upd_same) (by with_unfolding_all rfl) ?_)
  | (with_reducible show L2.rIxT _ _ _ _ _; with_reducible refine Fw.w_ixT (by first | assumption | exact L2.upd_same) (by with_unfolding_all rfl) ?_)
  | (with_reducible show L2.rSetL _ _ _ _ _; with_reducible refine Fw.w_setL (by first | assumption | exact L2.upd_same) (by with_unfolding_all rfl) ?_)
  | (with_reducible show L2.gTup _ _ _ _ _ _ _; with_reducible refine Fw.w_gtup (by first | assumption | exact L2.upd_same) rfl ?_)
  | with_reducible refine Fw.w_U ?_
  | with_reducible refine Fw.w_un ?_
  | with_reducible refine Fw.w_eqI ?_
  | with_reducible refine Fw.w_eqB ?_
  | with_reducible refine Fw.w_neB ?_
  | with_reducible refine Fw.w_eqS ?_
  | with_reducible refine Fw.w_exi ?_
  | with_reducible refine Fw.w_exr ?_
  | with_reducible refine Fw.w_B ?_
  | with_reducible refine Fw.w_and ?_
  | with_reducible refine Fw.w_or ?_
  | with_reducible refine Fw.w_not ?_
  | with_reducible refine Fw.w_andV ?_
  | with_reducible refine Fw.w_notV ?_
  | with_reducible refine Fw.w_make ?_
  | with_reducible refine Fw.w_intB ?_
  | with_reducible refine Fw.w_abs ?_
  | with_reducible refine Fw.w_bits ?_
  | with_reducible refine Fw.w_sl ?_
  | with_reducible refine Fw.w_part ?_
  | with_reducible refine Fw.w_nopart ?_
  | with_reducible refine Fw.w_lst ?_
  | with_reducible refine Fw.w_tup ?_
  | with_reducible refine Fw.w_dnewK ?_
  | with_reducible refine Fw.w_dget ?_
  | with_reducible refine Fw.w_isNn ?_
  | with_reducible refine Fw.w_isNi ?_
  | with_reducible refine Fw.w_meth0 ?_
  | with_reducible refine Fw.w_match ?_
  | with_reducible refine Fw.w_caseA ?_
  | with_reducible refine Fw.w_caseT ?_
  | with_reducible refine Fw.w_par ?_
  | (with_reducible refine Fw.w_exvw ?_; try dsimp only [List.set])
  | with_reducible refine Fw.w_drop ?_
  | with_reducible refine Fw.w_retN ?_
  | with_reducible refine Fw.w_gnil ?_
  | with_reducible refine Fw.w_gcons ?_
  | with_reducible refine Fw.w_gsub ?_
  | with_reducible refine Fw.w_for ?_
  | with_reducible refine Fw.w_lc ?_
  | with_reducible refine Fw.w_yes ?_
  | with_reducible refine Fw.w_iList ?_
  | with_reducible refine Fw.w_iRng1 ?_
  | with_reducible refine Fw.w_sfld ?_))
namespace Fw
open PySem L2
def top (i : Nat) : Stmt := PySem.Challenge.pw_farwrap_k10_whole_turns_of_great_kinds.main.body.getD i (.Pass ⟨0, 0, 0, 0⟩)
abbrev s_Walk___init__ : Stmt := inClass (top 6) 0
abbrev s_Walk_mirrored : Stmt := inClass (top 6) 1
abbrev s_Walk_of_laps : Stmt := inClass (top 6) 2
abbrev s_Walk_marked_steps : Stmt := inClass (top 6) 3
abbrev s_Walk_cost : Stmt := inClass (top 6) 4
abbrev s_Walk_steps_for : Stmt := inClass (top 6) 5
abbrev s__steps_to_visit : Stmt := top 7
abbrev s_hit_at : Stmt := top 8
abbrev s_is_integer : Stmt := top 11
abbrev s_is_sixty_digits : Stmt := top 12
abbrev s_check_sixty_digits : Stmt := top 13
abbrev s_is_count : Stmt := top 14
abbrev s_check_number : Stmt := top 15
abbrev s_Kind___init__ : Stmt := inClass (top 18) 0
abbrev s_check_kind : Stmt := top 19
abbrev s_check_value : Stmt := top 20
abbrev s_least : Stmt := top 21
abbrev s_greatest : Stmt := top 22
abbrev s_is_value : Stmt := top 23
abbrev s_quotient_total : Stmt := top 25
abbrev s_total_between : Stmt := top 26
abbrev s_least_remainder : Stmt := top 27
abbrev s_check_line : Stmt := top 29
abbrev s_check_range : Stmt := top 30
abbrev s__check : Stmt := top 31
abbrev s__check_within : Stmt := top 32
abbrev s__total : Stmt := top 33
abbrev s__hit : Stmt := top 34
abbrev s_total_within : Stmt := top 35
abbrev s_first_within : Stmt := top 36
abbrev s_within_at : Stmt := top 37
abbrev s_least_result : Stmt := top 38
abbrev s_greatest_result : Stmt := top 39
abbrev s__falling : Stmt := top 40
abbrev s_descents : Stmt := top 41
abbrev s__law_deck : Stmt := top 43
abbrev s__law_deal : Stmt := top 44
abbrev s__law_choice : Stmt := top 45
abbrev s__law_great : Stmt := top 46
abbrev s__law_inverse : Stmt := top 47
abbrev s__law_there : Stmt := top 48
abbrev s__law_drawn : Stmt := top 49
abbrev s__law_right : Stmt := top 50
abbrev s__law_all_but_one_right : Stmt := top 51
abbrev s_law : Stmt := top 52
theorem sc_Walk___init__ : FnScope ["self", "size", "step", "marks", "each", "marked", "around"] ["self", "size", "step", "marks", "each", "marked", "around"] (defScope s_Walk___init__) := ⟨rfl, rfl, rfl, by decide +kernel, rfl, by decide +kernel, by decide +kernel⟩
theorem sc_Walk_mirrored : FnScope ["self", "each"] ["self"] (defScope s_Walk_mirrored) := ⟨rfl, rfl, rfl, by decide +kernel, rfl, by decide +kernel, by decide +kernel⟩
theorem sc_Walk_of_laps : FnScope ["self", "longest", "step", "each"] ["self"] (defScope s_Walk_of_laps) := ⟨rfl, rfl, rfl, by decide +kernel, rfl, by decide +kernel, by decide +kernel⟩
theorem sc_Walk_marked_steps : FnScope ["self", "begin"] ["self", "begin"] (defScope s_Walk_marked_steps) := ⟨rfl, rfl, rfl, by decide +kernel, rfl, by decide +kernel, by decide +kernel⟩
theorem sc_Walk_cost : FnScope ["self", "begin", "steps"] ["self", "begin", "steps"] (defScope s_Walk_cost) := ⟨rfl, rfl, rfl, by decide +kernel, rfl, by decide +kernel, by decide +kernel⟩
theorem sc_Walk_steps_for : FnScope ["self", "begin", "budget", "most", "steps", "rest"] ["self", "begin", "budget"] (defScope s_Walk_steps_for) := ⟨rfl, rfl, rfl, by decide +kernel, rfl, by decide +kernel, by decide +kernel⟩
theorem sc__steps_to_visit : FnScope ["size", "step", "marks", "place", "j", "walk", "budget", "outer", "ahead", "steps", "distance", "begin", "more"] ["size", "step", "marks", "place", "j"] (defScope s__steps_to_visit) := ⟨rfl, rfl, rfl, by decide +kernel, rfl, by decide +kernel, by decide +kernel⟩
theorem sc_hit_at : FnScope ["line", "size", "first", "low", "high", "j", "a", "b"] ["line", "size", "first", "low", "high", "j"] (defScope s_hit_at) := ⟨rfl, rfl, rfl, by decide +kernel, rfl, by decide +kernel, by decide +kernel⟩
theorem sc_is_integer : FnScope ["value"] ["value"] (defScope s_is_integer) := ⟨rfl, rfl, rfl, by decide +kernel, rfl, by decide +kernel, by decide +kernel⟩
theorem sc_is_sixty_digits : FnScope ["value"] ["value"] (defScope s_is_sixty_digits) := ⟨rfl, rfl, rfl, by decide +kernel, rfl, by decide +kernel, by decide +kernel⟩
theorem sc_check_sixty_digits : FnScope ["value", "argument"] ["value", "argument"] (defScope s_check_sixty_digits) := ⟨rfl, rfl, rfl, by decide +kernel, rfl, by decide +kernel, by decide +kernel⟩
theorem sc_is_count : FnScope ["value"] ["value"] (defScope s_is_count) := ⟨rfl, rfl, rfl, by decide +kernel, rfl, by decide +kernel, by decide +kernel⟩
theorem sc_check_number : FnScope ["j", "total"] ["j", "total"] (defScope s_check_number) := ⟨rfl, rfl, rfl, by decide +kernel, rfl, by decide +kernel, by decide +kernel⟩
theorem sc_Kind___init__ : FnScope ["self", "bits", "is_signed"] ["self", "bits", "is_signed"] (defScope s_Kind___init__) := ⟨rfl, rfl, rfl, by decide +kernel, rfl, by decide +kernel, by decide +kernel⟩
theorem sc_check_kind : FnScope ["kind"] ["kind"] (defScope s_check_kind) := ⟨rfl, rfl, rfl, by decide +kernel, rfl, by decide +kernel, by decide +kernel⟩
theorem sc_check_value : FnScope ["kind", "x", "argument"] ["kind", "x", "argument"] (defScope s_check_value) := ⟨rfl, rfl, rfl, by decide +kernel, rfl, by decide +kernel, by decide +kernel⟩
theorem sc_least : FnScope ["kind"] ["kind"] (defScope s_least) := ⟨rfl, rfl, rfl, by decide +kernel, rfl, by decide +kernel, by decide +kernel⟩
theorem sc_greatest : FnScope ["kind"] ["kind"] (defScope s_greatest) := ⟨rfl, rfl, rfl, by decide +kernel, rfl, by decide +kernel, by decide +kernel⟩
theorem sc_is_value : FnScope ["kind", "x"] ["kind", "x"] (defScope s_is_value) := ⟨rfl, rfl, rfl, by decide +kernel, rfl, by decide +kernel, by decide +kernel⟩
theorem sc_quotient_total : FnScope ["line", "size", "first", "last", "a", "b", "count", "total", "top"] ["line", "size", "first", "last"] (defScope s_quotient_total) := ⟨rfl, rfl, rfl, by decide +kernel, rfl, by decide +kernel, by decide +kernel⟩
theorem sc_total_between : FnScope ["line", "size", "first", "last", "low", "high", "a", "b"] ["line", "size", "first", "last", "low", "high"] (defScope s_total_between) := ⟨rfl, rfl, rfl, by decide +kernel, rfl, by decide +kernel, by decide +kernel⟩
theorem sc_least_remainder : FnScope ["line", "size", "first", "last", "a", "b", "start", "step", "steps", "least", "laps"] ["line", "size", "first", "last"] (defScope s_least_remainder) := ⟨rfl, rfl, rfl, by decide +kernel, rfl, by decide +kernel, by decide +kernel⟩
theorem sc_check_line : FnScope ["line", "argument"] ["line", "argument"] (defScope s_check_line) := ⟨rfl, rfl, rfl, by decide +kernel, rfl, by decide +kernel, by decide +kernel⟩
theorem sc_check_range : FnScope ["first", "last"] ["first", "last"] (defScope s_check_range) := ⟨rfl, rfl, rfl, by decide +kernel, rfl, by decide +kernel, by decide +kernel⟩
theorem sc__check : FnScope ["kind", "line", "first", "last"] ["kind", "line", "first", "last"] (defScope s__check) := ⟨rfl, rfl, rfl, by decide +kernel, rfl, by decide +kernel, by decide +kernel⟩
theorem sc__check_within : FnScope ["kind", "line", "first", "last", "low", "high"] ["kind", "line", "first", "last", "low", "high"] (defScope s__check_within) := ⟨rfl, rfl, rfl, by decide +kernel, rfl, by decide +kernel, by decide +kernel⟩
theorem sc__total : FnScope ["kind", "line", "first", "last", "low", "high"] ["kind", "line", "first", "last", "low", "high"] (defScope s__total) := ⟨rfl, rfl, rfl, by decide +kernel, rfl, by decide +kernel, by decide +kernel⟩
theorem sc__hit : FnScope ["kind", "line", "first", "low", "high", "j"] ["kind", "line", "first", "low", "high", "j"] (defScope s__hit) := ⟨rfl, rfl, rfl, by decide +kernel, rfl, by decide +kernel, by decide +kernel⟩
theorem sc_total_within : FnScope ["kind", "line", "first", "last", "low", "high"] ["kind", "line", "first", "last", "low", "high"] (defScope s_total_within) := ⟨rfl, rfl, rfl, by decide +kernel, rfl, by decide +kernel, by decide +kernel⟩
theorem sc_first_within : FnScope ["kind", "line", "first", "last", "low", "high", "total"] ["kind", "line", "first", "last", "low", "high"] (defScope s_first_within) := ⟨rfl, rfl, rfl, by decide +kernel, rfl, by decide +kernel, by decide +kernel⟩
theorem sc_within_at : FnScope ["kind", "line", "first", "last", "low", "high", "j"] ["kind", "line", "first", "last", "low", "high", "j"] (defScope s_within_at) := ⟨rfl, rfl, rfl, by decide +kernel, rfl, by decide +kernel, by decide +kernel⟩
theorem sc_least_result : FnScope ["kind", "line", "first", "last", "a", "b", "low", "y"] ["kind", "line", "first", "last"] (defScope s_least_result) := ⟨rfl, rfl, rfl, by decide +kernel, rfl, by decide +kernel, by decide +kernel⟩
theorem sc_greatest_result : FnScope ["kind", "line", "first", "last", "a", "b", "high", "y"] ["kind", "line", "first", "last"] (defScope s_greatest_result) := ⟨rfl, rfl, rfl, by decide +kernel, rfl, by decide +kernel, by decide +kernel⟩
theorem sc__falling : FnScope ["kind", "line", "added"] ["kind", "line"] (defScope s__falling) := ⟨rfl, rfl, rfl, by decide +kernel, rfl, by decide +kernel, by decide +kernel⟩
theorem sc_descents : FnScope ["kind", "line", "first", "last", "low", "high"] ["kind", "line", "first", "last"] (defScope s_descents) := ⟨rfl, rfl, rfl, by decide +kernel, rfl, by decide +kernel, by decide +kernel⟩
theorem sc__law_deck : FnScope ["_law_cell"] ["_law_cell"] (defScope s__law_deck) := ⟨rfl, rfl, rfl, by decide +kernel, rfl, by decide +kernel, by decide +kernel⟩
theorem sc__law_deal : FnScope ["_law_deck_here", "_law_many", "_law_card", "_law_mixed"] ["_law_deck_here", "_law_many"] (defScope s__law_deal) := ⟨rfl, rfl, rfl, by decide +kernel, rfl, by decide +kernel, by decide +kernel⟩
theorem sc__law_choice : FnScope ["_law_deck_here", "_law_some"] ["_law_deck_here", "_law_some"] (defScope s__law_choice) := ⟨rfl, rfl, rfl, by decide +kernel, rfl, by decide +kernel, by decide +kernel⟩
theorem sc__law_great : FnScope ["_law_deck_here", "_law_most", "_law_found", "_law_turn"] ["_law_deck_here", "_law_most"] (defScope s__law_great) := ⟨rfl, rfl, rfl, by decide +kernel, rfl, by decide +kernel, by decide +kernel⟩
theorem sc__law_inverse : FnScope ["_law_n", "_law_bits", "_law_found", "_law_k"] ["_law_n", "_law_bits"] (defScope s__law_inverse) := ⟨rfl, rfl, rfl, by decide +kernel, rfl, by decide +kernel, by decide +kernel⟩
theorem sc__law_there : FnScope ["_law_parts", "_law_far", "_law_begin", "_law_bits", "_law_twos_so", "_law_odd", "_law_found"] ["_law_parts", "_law_far", "_law_begin"] (defScope s__law_there) := ⟨rfl, rfl, rfl, by decide +kernel, rfl, by decide +kernel, by decide +kernel⟩
theorem sc__law_drawn : FnScope ["_law_deck_here", "_law_bits", "_law_is_signed", "_law_size", "_law_own", "_law_least_one", "_law_twos_so", "_law_odd", "_law_pair", "_law_ends"] ["_law_deck_here"] (defScope s__law_drawn) := ⟨rfl, rfl, rfl, by decide +kernel, rfl, by decide +kernel, by decide +kernel⟩
theorem sc__law_right : FnScope ["_law_deck_here", "_law_own", "_law_least_one", "_law_parts", "_law_pair", "_law_ends", "_law_size", "_law_step", "_law_shift", "_law_begin", "_law_turns_so", "_law_end", "_law_near", "_law_bottom", "_law_top", "_law_kept", "_law_place", "_law_period", "_law_x", "_law_some", "_law_k", "_law_low_x", "_law_high", "_law_high_x"] ["_law_deck_here"] (defScope s__law_right) := ⟨rfl, rfl, rfl, by decide +kernel, rfl, by decide +kernel, by decide +kernel⟩
theorem sc__law_all_but_one_right : FnScope ["_law_deck_here", "_law_own", "_law_least_one", "_law_parts", "_law_pair", "_law_ends", "_law_size", "_law_odd", "_law_place", "_law_lacking", "_law_begin", "_law_end", "_law_low", "_law_high", "_law_y"] ["_law_deck_here"] (defScope s__law_all_but_one_right) := ⟨rfl, rfl, rfl, by decide +kernel, rfl, by decide +kernel, by decide +kernel⟩
theorem sc_law : FnScope ["_law_script", "_law_cell", "_law_deck_here"] ["_law_script"] (defScope s_law) := ⟨rfl, rfl, rfl, by decide +kernel, rfl, by decide +kernel, by decide +kernel⟩

/-- a kind's object -/
def kf (w : Nat) (s : Bool) : List (Str × V) := [("bits", .int (w : Int)), ("is_signed", .bl s)]
structure Kd (C : Addr) (H : Hp) (p : Addr) (w : Nat) (s : Bool) : Prop where
  ex : ∃ dx, H p = some (.ins C dx (kf w s))
  w1 : 1 ≤ w
  w2 : w ≤ 128
theorem kf_bits (w : Nat) (s : Bool) : (kf w s).lookup ("bits" : Str) = some (.int (w : Int)) := by unfold kf; simp [List.lookup]
theorem kf_sign (w : Nat) (s : Bool) : (kf w s).lookup ("is_signed" : Str) = some (.bl s) := by
  have e : (("is_signed" : Str) == ("bits" : Str)) = false := by decide +kernel
  unfold kf; simp [List.lookup, e]
/-- the values of a kind, wrapping -/
def loK (w : Nat) (s : Bool) : Int := if s = true then -(2 ^ (w - 1)) else 0
def hiK (w : Nat) (s : Bool) : Int := loK w s + 2 ^ w - 1
def wr (w : Nat) (s : Bool) (n : Int) : Int := loK w s + (n - loK w s) % 2 ^ w
theorem p2 (w : Nat) : (0 : Int) < 2 ^ w := Int.pow_pos (by decide)
theorem p2s {w : Nat} (h : 1 ≤ w) : (2 : Int) ^ w = 2 * 2 ^ (w - 1) := by
  obtain ⟨k, rfl⟩ : ∃ k, w = k + 1 := ⟨w - 1, by omega⟩
  rw [Nat.add_sub_cancel, Int.pow_succ, Int.mul_comm]
theorem wr_lo (w : Nat) (s : Bool) (n : Int) : loK w s ≤ wr w s n := by
  have := Int.emod_nonneg (n - loK w s) (show (2 : Int) ^ w ≠ 0 from Int.ne_of_gt (p2 w))
  unfold wr; omega
theorem wr_hi (w : Nat) (s : Bool) (n : Int) : wr w s n ≤ hiK w s := by
  have := Int.emod_lt_of_pos (n - loK w s) (p2 w)
  unfold wr hiK; omega
theorem wr_id {w : Nat} {s : Bool} {n : Int} (h1 : loK w s ≤ n) (h2 : n ≤ hiK w s) : wr w s n = n := by
  unfold wr
  rw [Int.emod_eq_of_lt (by omega) (by unfold hiK at h2; omega)]
  omega
/-- what the law takes for the same -/
def pl (w : Nat) (s : Bool) (n : Int) : Int := if s = true ∧ 2 ^ (w - 1) ≤ n % 2 ^ w then n % 2 ^ w - 2 ^ w else n % 2 ^ w
theorem pl_wr {w : Nat} (hw : 1 ≤ w) (s : Bool) (n : Int) : pl w s n = wr w s n := by
  have hp := p2 (w - 1)
  have e := p2s hw
  have h0 := Int.emod_nonneg n (show (2 : Int) ^ w ≠ 0 from Int.ne_of_gt (p2 w))
  have h1 := Int.emod_lt_of_pos n (p2 w)
  cases s with
  | false =>
    have hl : loK w false = 0 := by unfold loK; rw [if_neg Bool.false_ne_true]
    unfold pl wr
    rw [if_neg (by intro z; exact Bool.false_ne_true z.1), hl, Int.sub_zero, Int.zero_add]
  | true =>
    have hl : loK w true = -(2 ^ (w - 1)) := by unfold loK; rw [if_pos rfl]
    unfold pl wr
    rw [hl]
    have ed : n % 2 ^ w = n - 2 ^ w * (n / 2 ^ w) := Int.emod_def n _
    by_cases c : 2 ^ (w - 1) ≤ n % 2 ^ w
    · rw [if_pos ⟨rfl, c⟩]
      have q : (n - -(2 ^ (w - 1))) % 2 ^ w = n % 2 ^ w - 2 ^ (w - 1) := by
        have z : n - -(2 ^ (w - 1)) = (n % 2 ^ w - 2 ^ (w - 1)) + 2 ^ w * (n / 2 ^ w + 1) := by
          rw [Int.mul_add, Int.mul_one]; omega
        rw [z, Int.add_mul_emod_self_left, Int.emod_eq_of_lt (by omega) (by omega)]
      rw [q]; omega
    · rw [if_neg (fun z => c z.2)]
      have q : (n - -(2 ^ (w - 1))) % 2 ^ w = n % 2 ^ w + 2 ^ (w - 1) := by
        have z : n - -(2 ^ (w - 1)) = (n % 2 ^ w + 2 ^ (w - 1)) + 2 ^ w * (n / 2 ^ w) := by omega
        rw [z, Int.add_mul_emod_self_left, Int.emod_eq_of_lt (by omega) (by omega)]
      rw [q]; omega
/-- all but p as it was -/
def Kp (p : Addr) (H H' : Hp) : Prop := ∀ q o, q ≠ p → H q = some o → H' q = some o
theorem Kp.refl (p : Addr) (H : Hp) : Kp p H H := fun _ _ _ h => h
theorem Kp.trans {p : Addr} {H H1 H2 : Hp} (a : Kp p H H1) (b : Kp p H1 H2) : Kp p H H2 := fun q o n h => b q o n (a q o n h)
theorem Kp.upd {p : Addr} {H H1 : Hp} {o : HO} (a : Kp p H H1) : Kp p H (upd H1 p o) := fun q u n h => by rw [upd_ne n]; exact a q u n h
theorem Kp.new {p r : Addr} {H H1 : Hp} {o : HO} (a : Kp p H H1) (h : H1 r = none) : Kp p H (L2.upd H1 r o) := fun q u n e => by
  have z := a q u n e
  rw [upd_ne (ne_of_none z h)]; exact z
theorem Kp.of_same {p : Addr} {H H' : Hp} (a : Same H H') : Kp p H H' := fun q o _ h => a q o h
theorem sm_new {H H1 : Hp} {r : Addr} {o : HO} (a : Same H H1) (h : H1 r = none) : Same H (L2.upd H1 r o) := fun q u e => by
  have z := a q u e
  rw [upd_ne (ne_of_none z h)]; exact z
theorem Kp.free {p r : Addr} {H H' : Hp} (a : Kp p H H') (hr : r ≠ p) (h : H' r = none) : H r = none := by
  cases q : H r with
  | none => rfl
  | some o => rw [a r o hr q] at h; cases h
theorem same_free {H H' : Hp} {r : Addr} (a : Same H H') (h : H' r = none) : H r = none := a.free h
/-- a source of draws -/
def SrcAt (H : Hp) (p : Addr) : Prop := ∃ a b c : Int, H p = some (.lst [.int a, .int b, .int c])
theorem SrcAt.same {H H' : Hp} {p : Addr} (h : SrcAt H p) (s : Same H H') : SrcAt H' p := by
  obtain ⟨a, b, c, e⟩ := h
  exact ⟨a, b, c, s _ _ e⟩
theorem kp_mut {p D : Addr} {H H' : Hp} {o : HO} (a : Kp p H H') (h : H D = none) : Kp p H (L2.upd H' D o) := fun q u n e => by
  rw [upd_ne (ne_of_none e h)]; exact a q u n e
theorem SrcAt.mut {H : Hp} {p D : Addr} {o : HO} (h : SrcAt H p) (n : D ≠ p) : SrcAt (L2.upd H D o) p := by
  obtain ⟨a, b, c, e⟩ := h
  exact ⟨a, b, c, by rw [upd_ne (Ne.symm n)]; exact e⟩
theorem SrcAt.ne {H : Hp} {p q : Addr} (h : SrcAt H p) (n : H q = none) : q ≠ p := by
  obtain ⟨a, b, c, e⟩ := h
  exact (ne_of_none e n).symm
theorem b9 {m : Int} (h : m.natAbs < 2 ^ 200) : m.natAbs < 2 ^ 8999 := Nat.lt_trans h (Nat.pow_lt_pow_right (by decide) (by decide))
theorem SrcAt.new {H : Hp} {p r : Addr} {o : HO} (h : SrcAt H p) (n : H r = none) : SrcAt (L2.upd H r o) p := h.same (sm_new (Same.refl H) n)
theorem Kd.same {C : Addr} {H H' : Hp} {p : Addr} {w : Nat} {s : Bool} (h : Kd C H p w s) (e : Same H H') : Kd C H' p w s := by
  obtain ⟨⟨dx, q⟩, a, b⟩ := h
  exact ⟨⟨dx, e _ _ q⟩, a, b⟩
theorem Kd.kp {C : Addr} {H H' : Hp} {p r : Addr} {w : Nat} {s : Bool} (h : Kd C H p w s) (hr : SrcAt H r) (e : Kp r H H') : Kd C H' p w s := by
  obtain ⟨⟨dx, q⟩, a, b⟩ := h
  obtain ⟨_, _, _, z⟩ := hr
  exact ⟨⟨dx, e _ _ (ne_of q z (by intro y; cases y)) q⟩, a, b⟩
/-- how a value that is asked for whether it is an integer looks -/
def IntQ (K : PySem.W.Frag) (H : Hp) (v : V) (b : Bool) : Prop := ∃ t : String, TyX K H v (.type t) ∧ kitB t "int" = some (b || t == "bool") ∧ (b = true ∨ t = "bool" → True) ∧ (∃ c, kitB t "bool" = some c ∧ ((b || t == "bool") && !c) = b)
theorem IntQ.int {K : PySem.W.Frag} {H : Hp} (i : Int) : IntQ K H (.int i) true := ⟨"int", .base (.int i), by decide +kernel, fun _ => trivial, false, by decide +kernel, rfl⟩
theorem IntQ.bl {K : PySem.W.Frag} {H : Hp} (i : Bool) : IntQ K H (.bl i) false := ⟨"bool", .base (.bl i), by decide +kernel, fun _ => trivial, true, by decide +kernel, rfl⟩
theorem IntQ.non {K : PySem.W.Frag} {H : Hp} : IntQ K H .non false := ⟨"NoneType", .base .non, by decide +kernel, fun _ => trivial, false, by decide +kernel, rfl⟩
theorem IntQ.str {K : PySem.W.Frag} {H : Hp} (z : Str) : IntQ K H (.str z) false := ⟨"str", .base (.str z), by decide +kernel, fun _ => trivial, false, by decide +kernel, rfl⟩
theorem IntQ.lst {K : PySem.W.Frag} {H : Hp} {a : Addr} {xs : List V} (h : H a = some (.lst xs)) : IntQ K H (.ref a) false := ⟨"list", .base (.lst h), by decide +kernel, fun _ => trivial, false, by decide +kernel, rfl⟩
theorem IntQ.tup {K : PySem.W.Frag} {H : Hp} {a : Addr} {xs : List V} (h : H a = some (.tup xs)) : IntQ K H (.ref a) false := ⟨"tuple", .base (.tup h), by decide +kernel, fun _ => trivial, false, by decide +kernel, rfl⟩
theorem IntQ.dK {K : PySem.W.Frag} {H : Hp} {a : Addr} {xs : List (Key × V)} (h : H a = some (.dK xs)) : IntQ K H (.ref a) false := ⟨"dict", .base (.dK h), by decide +kernel, fun _ => trivial, false, by decide +kernel, rfl⟩
/-- a row of kinds' parts: a list at D of tuples -/
structure RowAt (H : Hp) (p D : Addr) (rs : List (Addr × Nat × Bool)) : Prop where
  lst : H D = some (.lst (rs.map fun r => V.ref r.1))
  nD : D ≠ p
  tup : ∀ r ∈ rs, H r.1 = some (.tup [.int (r.2.1 : Int), .bl r.2.2]) ∧ r.1 ≠ p ∧ 1 ≤ r.2.1 ∧ r.2.1 ≤ 128
theorem RowAt.kp {H H' : Hp} {p D : Addr} {rs : List (Addr × Nat × Bool)} (h : RowAt H p D rs) (e : Kp p H H') : RowAt H' p D rs :=
  ⟨e _ _ h.nD h.lst, h.nD, fun r hr => ⟨e _ _ (h.tup r hr).2.1 (h.tup r hr).1, (h.tup r hr).2⟩⟩
/-- a list at E of kinds -/
structure KdsAt (C : Addr) (H : Hp) (p E : Addr) (ks : List (Addr × Nat × Bool)) : Prop where
  lst : H E = some (.lst (ks.map fun r => V.ref r.1))
  nE : E ≠ p
  kd : ∀ r ∈ ks, Kd C H r.1 r.2.1 r.2.2 ∧ r.1 ≠ p
theorem KdsAt.kp {C : Addr} {H H' : Hp} {p E : Addr} {ks : List (Addr × Nat × Bool)} (h : KdsAt C H p E ks) (e : Kp p H H') : KdsAt C H' p E ks :=
  ⟨e _ _ h.nE h.lst, h.nE, fun r hr => by
    obtain ⟨⟨⟨dx, q⟩, a, b⟩, n⟩ := h.kd r hr
    exact ⟨⟨⟨dx, e _ _ n q⟩, a, b⟩, n⟩⟩
def wrs (ks : List (Addr × Nat × Bool)) (n : Int) : Int := ks.foldl (fun n k => wr k.2.1 k.2.2 n) n
theorem wrs_eq : ∀ {ks rs : List (Addr × Nat × Bool)} (_ : ks.map (·.2) = rs.map (·.2)) (n : Int), wrs ks n = wrs rs n
  | [], [], _, _ => rfl
  | [], _ :: _, h, _ => by simp at h
  | _ :: _, [], h, _ => by simp at h
  | k :: ks, r :: rs, h, n => by
    rw [List.map_cons, List.map_cons, List.cons.injEq] at h
    show wrs ks (wr k.2.1 k.2.2 n) = wrs rs (wr r.2.1 r.2.2 n)
    rw [h.1]
    exact wrs_eq h.2 _
theorem wrs_more (ks : List (Addr × Nat × Bool)) (r : Addr × Nat × Bool) (n : Int) : wrs (ks ++ [r]) n = wr r.2.1 r.2.2 (wrs ks n) := by
  unfold wrs; rw [List.foldl_append]; rfl

/-! ### lines -/
def BB (n : Int) : Prop := n.natAbs < 2 ^ 300
def SD (n : Int) : Prop := -(10 ^ 60) < n ∧ n < 10 ^ 60
theorem SD.bb {n : Int} (h : SD n) : BB n := by
  obtain ⟨a, b⟩ := h
  unfold BB
  exact Nat.lt_trans (show n.natAbs < 10 ^ 60 by omega) (by decide +kernel)
theorem bbk {wd : Nat} {s : Bool} (h : wd ≤ 128) {n : Int} (h1 : loK wd s ≤ n) (h2 : n ≤ hiK wd s) : BB n := by
  have e : (2 : Int) ^ wd ≤ 2 ^ 128 := by
    have := Nat.pow_le_pow_right (n := 2) (by decide) h
    exact_mod_cast this
  have e1 : (2 : Int) ^ (wd - 1) ≤ 2 ^ 128 := by
    have := Nat.pow_le_pow_right (n := 2) (by decide) (show wd - 1 ≤ 128 by omega)
    exact_mod_cast this
  have p1 := p2 (wd - 1)
  have l0 : -(2 ^ 128) ≤ loK wd s ∧ loK wd s ≤ 0 := by unfold loK; split <;> omega
  have hh : hiK wd s ≤ 2 ^ 128 := by unfold hiK; omega
  unfold BB
  exact Nat.lt_of_le_of_lt (show n.natAbs ≤ 2 ^ 128 by omega) (by decide +kernel)
theorem bb_pow {wd : Nat} (h : wd ≤ 128) : BB (2 ^ wd) := by
  unfold BB
  rw [Int.natAbs_pow]
  exact Nat.pow_lt_pow_right (by decide) (by show wd < 300; omega)
/-- all but the source stays, the tables are told -/
def Kq (TS : List (Addr × Str)) (p : Addr) (H H' : Hp) : Prop := (∀ q o, q ≠ p → H q = some o → (∀ ps, o ≠ .tbl ps) → H' q = some o) ∧ (LamX.Tabs TS H → LamX.Tabs TS H')
section
variable {TS : List (Addr × Str)} {p : Addr} {H H1 H2 : Hp}
theorem Kq.refl (H : Hp) : Kq TS p H H := ⟨fun _ _ _ h _ => h, fun h => h⟩
theorem Kq.trans (a : Kq TS p H H1) (b : Kq TS p H1 H2) : Kq TS p H H2 := ⟨fun q o n h t => b.1 q o n (a.1 q o n h t) t, fun h => b.2 (a.2 h)⟩
theorem Kq.of (a : Sm TS H H1) : Kq TS p H H1 := ⟨fun q o _ h t => a.1 q o h t, a.2⟩
theorem Kp.toQ (a : Kp p H H1) (hl : ∃ xs, H p = some (.lst xs)) : Kq TS p H H1 := by
  obtain ⟨xs, hp⟩ := hl
  refine ⟨fun q o n h _ => a q o n h, fun t b hb => ?_⟩
  obtain ⟨ps, a1, a2, a3⟩ := t b hb
  refine ⟨ps, a _ _ (ne_of a1 hp (by intro z; cases z)) a1, a2, fun pos cv e => ?_⟩
  obtain ⟨c, e1, e2⟩ := a3 pos cv e
  exact ⟨c, e1, a _ _ (ne_of e2 hp (by unfold LamX.CodeO; intro z; cases z)) e2⟩
theorem Kq.at {a : Addr} {o : HO} (s : Kq TS p H H1) (n : a ≠ p) (h : H a = some o) (t : ∀ ps, o ≠ .tbl ps := by intro ps z; cases z) : H1 a = some o := s.1 a o n h t
theorem Kq.free {r : Addr} {xs : List V} (s : Kq TS p H H1) (hp : H1 p = some (.lst xs)) (t : ∀ ps, H r ≠ some (.tbl ps)) (h : H1 r = none) : H r = none := by
  cases q : H r with
  | none => rfl
  | some o =>
    by_cases e : r = p
    · rw [e, hp] at h; cases h
    · rw [s.1 r o e q (fun ps z => t ps (by rw [q, z]))] at h; cases h
end
/-- a source of draws, after at most n of them -/
def SrcN (n : Nat) (H : Hp) (p : Addr) : Prop := ∃ a b c : Int, H p = some (.lst [.int a, .int b, .int c]) ∧ 0 ≤ b ∧ b < 2147483648 ∧ 0 ≤ c ∧ c ≤ n
section
variable {TS : List (Addr × Str)} {p : Addr} {H H1 : Hp} {n m : Nat}
theorem SrcN.lst (h : SrcN n H p) : ∃ xs, H p = some (.lst xs) := by
  obtain ⟨a, b, c, e, _⟩ := h
  exact ⟨_, e⟩
theorem SrcN.le (h : SrcN n H p) (k : n ≤ m) : SrcN m H p := by
  obtain ⟨a, b, c, e, h1, h2, h3, h4⟩ := h
  exact ⟨a, b, c, e, h1, h2, h3, by omega⟩
theorem SrcN.sm (h : SrcN n H p) (s : Sm TS H H1) : SrcN n H1 p := by
  obtain ⟨a, b, c, e, r⟩ := h
  exact ⟨a, b, c, s.at e, r⟩
theorem SrcN.same (h : SrcN n H p) (s : Same H H1) : SrcN n H1 p := by
  obtain ⟨a, b, c, e, r⟩ := h
  exact ⟨a, b, c, s _ _ e, r⟩
theorem SrcN.new {r : Addr} {o : HO} (h : SrcN n H p) (k : H r = none) : SrcN n (upd H r o) p := h.same (sm_new (Same.refl H) k)
theorem SrcN.ne {q : Addr} (h : SrcN n H p) (k : H q = none) : q ≠ p := by
  obtain ⟨_, e⟩ := h.lst
  exact (ne_of_none e k).symm
theorem SrcN.mut {r : Addr} {o : HO} (h : SrcN n H p) (k : r ≠ p) : SrcN n (upd H r o) p := by
  obtain ⟨a, b, c, e, rest⟩ := h
  exact ⟨a, b, c, by rw [upd_ne k.symm]; exact e, rest⟩
theorem SrcN.ne_of {q : Addr} {o : HO} (h : SrcN n H p) (k : H q = some o) (t : ∀ xs, o ≠ .lst xs := by intro xs z; cases z) : q ≠ p := by
  obtain ⟨xs, e⟩ := h.lst
  exact L2.ne_of k e (t xs)
end
/-- the x whose result is from lo to hi -/
def rsP (wd : Nat) (a b lo hi : Int) : Int → Bool := fun x => inR (2 ^ wd) lo hi (a * x + b)
theorem rsP_wr {wd : Nat} {s : Bool} {a b lo hi x : Int} (h1 : loK wd s ≤ lo) (h2 : hi ≤ hiK wd s) : rsP wd a b lo hi x = decide (lo ≤ wr wd s (a * x + b) ∧ wr wd s (a * x + b) ≤ hi) := by
  have hp := p2 wd
  have a1 := wr_lo wd s (a * x + b)
  have a2 := wr_hi wd s (a * x + b)
  have em : ∃ q, a * x + b = wr wd s (a * x + b) + 2 ^ wd * q := by
    refine ⟨(a * x + b - loK wd s) / 2 ^ wd, ?_⟩
    have := Int.emod_add_mul_ediv (a * x + b - loK wd s) (2 ^ wd)
    unfold wr; omega
  obtain ⟨q, e⟩ := em
  generalize wr wd s (a * x + b) = y at a1 a2 e ⊢
  unfold rsP inR
  rw [e]
  unfold hiK at *
  by_cases c2 : lo ≤ hi
  · by_cases c : lo ≤ y
    · have z : (y + 2 ^ wd * q - lo) % 2 ^ wd = y - lo := by
        rw [show y + 2 ^ wd * q - lo = (y - lo) + 2 ^ wd * q by omega, Int.add_mul_emod_self_left, Int.emod_eq_of_lt (by omega) (by omega)]
      rw [z]
      by_cases c3 : y ≤ hi
      · rw [decide_eq_true ⟨c2, by omega⟩, decide_eq_true ⟨c, c3⟩]
      · rw [decide_eq_false fun z => by omega, decide_eq_false fun z => c3 z.2]
    · have z : (y + 2 ^ wd * q - lo) % 2 ^ wd = y - lo + 2 ^ wd := by
        rw [show y + 2 ^ wd * q - lo = (y - lo + 2 ^ wd) + 2 ^ wd * (q - 1) by rw [Int.mul_sub, Int.mul_one]; omega, Int.add_mul_emod_self_left, Int.emod_eq_of_lt (by omega) (by omega)]
      rw [z, decide_eq_false fun z => by omega, decide_eq_false fun z => c z.1]
  · rw [decide_eq_false fun z => c2 z.1, decide_eq_false fun z => by omega]
def FirstOf (p : Int → Bool) (f l : Int) (v : V) : Prop := (v = .non ∧ tot p f l = 0) ∨ ∃ x, v = .int x ∧ f ≤ x ∧ x ≤ l ∧ p x = true ∧ tot p f (x - 1) = 0
def LastOf (p : Int → Bool) (f l : Int) (v : V) : Prop := (v = .non ∧ tot p f l = 0) ∨ ∃ x, v = .int x ∧ f ≤ x ∧ x ≤ l ∧ p x = true ∧ tot p (x + 1) l = 0
def AtOf (p : Int → Bool) (f l j x : Int) : Prop := f ≤ x ∧ x ≤ l ∧ p x = true ∧ tot p f (x - 1) = j
def spP_ (TS : List (Addr × Str)) (H : Hp) (P : Int → Bool) (first last : Int) : Sp := fun vs H' Q _ => ∃ e : Int, vs = [.int e] ∧ first ≤ e ∧ e < last ∧ Sm TS H H' ∧ ∀ H'', Sm TS H' H'' → Q (.bl (P e)) H''
def spT_ (TS : List (Addr × Str)) (H : Hp) (p : Int → Bool) (first last : Int) : Sp := fun vs H' Q _ => ∃ e : Int, vs = [.int e] ∧ (e = last ∨ (first ≤ e ∧ e ≤ last)) ∧ Sm TS H H' ∧ ∀ H'', Sm TS H' H'' → Q (.int (tot p first e)) H''

theorem Kd.sm {C : Addr} {TS : List (Addr × Str)} {H H' : Hp} {p : Addr} {w : Nat} {s : Bool} (h : Kd C H p w s) (e : Sm TS H H') : Kd C H' p w s := by
  obtain ⟨⟨dx, q⟩, a, b⟩ := h
  exact ⟨⟨dx, e.at q⟩, a, b⟩
theorem Kd.kq {C : Addr} {TS : List (Addr × Str)} {H H' : Hp} {p r : Addr} {w : Nat} {s : Bool} (h : Kd C H p w s) (n : p ≠ r) (e : Kq TS r H H') : Kd C H' p w s := by
  obtain ⟨⟨dx, q⟩, a, b⟩ := h
  exact ⟨⟨dx, e.at n q⟩, a, b⟩

theorem loK_hi (w : Nat) (s : Bool) : hiK w s = loK w s + 2 ^ w - 1 := rfl
theorem loK_b {wd : Nat} {s : Bool} (h : wd ≤ 128) : -(2 ^ 128) ≤ loK wd s ∧ loK wd s ≤ 0 ∧ hiK wd s ≤ 2 ^ 128 ∧ 0 ≤ hiK wd s + 1 ∧ (2 : Int) ^ wd ≤ 2 ^ 128 := by
  have e : (2 : Int) ^ wd ≤ 2 ^ 128 := by
    have := Nat.pow_le_pow_right (n := 2) (by decide) h
    exact_mod_cast this
  have e1 : (2 : Int) ^ (wd - 1) ≤ 2 ^ 128 := by
    have := Nat.pow_le_pow_right (n := 2) (by decide) (show wd - 1 ≤ 128 by omega)
    exact_mod_cast this
  have p1 := p2 (wd - 1)
  have p0 := p2 wd
  have e3 : (2 : Int) ^ (wd - 1) ≤ 2 ^ wd := by
    have := Nat.pow_le_pow_right (n := 2) (by decide) (show wd - 1 ≤ wd by omega)
    exact_mod_cast this
  cases s with
  | false =>
    have l : loK wd false = 0 := by unfold loK; rw [if_neg Bool.false_ne_true]
    refine ⟨by omega, by omega, by unfold hiK; omega, by unfold hiK; omega, e⟩
  | true =>
    have l : loK wd true = -(2 ^ (wd - 1)) := by unfold loK; rw [if_pos rfl]
    refine ⟨by omega, by omega, by unfold hiK; omega, by unfold hiK; omega, e⟩
theorem bb_of {n : Int} (h1 : -(2 ^ 299) ≤ n) (h2 : n ≤ 2 ^ 299) : BB n := by
  unfold BB
  exact Nat.lt_of_le_of_lt (show n.natAbs ≤ 2 ^ 299 by omega) (by decide +kernel)
theorem p128 : (2 : Int) ^ 128 < 2 ^ 290 := by decide +kernel
theorem p290 : (2 : Int) ^ 290 * 8 ≤ 2 ^ 299 := by decide +kernel
theorem wr_q (w : Nat) (s : Bool) (n : Int) : wr w s n = n - 2 ^ w * ((n - loK w s) / 2 ^ w) := by
  have := Int.emod_add_mul_ediv (n - loK w s) (2 ^ w)
  unfold wr; omega
theorem wr_in {w : Nat} {s : Bool} {n k : Int} (h1 : loK w s + 2 ^ w * k ≤ n) (h2 : n ≤ hiK w s + 2 ^ w * k) : wr w s n = n - 2 ^ w * k := by
  unfold hiK at h2
  have e : n - loK w s = (n - loK w s - 2 ^ w * k) + 2 ^ w * k := by omega
  unfold wr
  rw [e, Int.add_mul_emod_self_left, Int.emod_eq_of_lt (by omega) (by omega)]
  omega
theorem wr_add (w : Nat) (s : Bool) (n a : Int) : wr w s (n + a) = if wr w s n + a % 2 ^ w ≤ hiK w s then wr w s n + a % 2 ^ w else wr w s n + a % 2 ^ w - 2 ^ w := by
  have hp := p2 w
  have e1 := wr_q w s n
  have e2 := Int.emod_add_mul_ediv a (2 ^ w)
  have a0 := Int.emod_nonneg a (Int.ne_of_gt hp)
  have a1 := Int.emod_lt_of_pos a hp
  have w0 := wr_lo w s n
  have w1 := wr_hi w s n
  generalize (n - loK w s) / 2 ^ w = q at e1
  generalize a / 2 ^ w = r at e2
  generalize a % 2 ^ w = c at *
  by_cases z : wr w s n + c ≤ hiK w s
  · rw [if_pos z]
    have := wr_in (w := w) (s := s) (n := n + a) (k := q + r) (by rw [Int.mul_add]; omega) (by rw [Int.mul_add]; omega)
    rw [this, Int.mul_add]; omega
  · rw [if_neg z]
    have := wr_in (w := w) (s := s) (n := n + a) (k := q + r + 1) (by rw [Int.mul_add, Int.mul_add]; unfold hiK at z; omega) (by rw [Int.mul_add, Int.mul_add]; unfold hiK at *; omega)
    rw [this, Int.mul_add, Int.mul_add]; omega
/-- the descents -/
def dsP (wd : Nat) (s : Bool) (a b : Int) : Int → Bool := fun x => decide (wr wd s (a * (x + 1) + b) < wr wd s (a * x + b))
theorem dsP_rs (wd : Nat) (s : Bool) (a b x : Int) : rsP wd a b (hiK wd s + 1 - a % 2 ^ wd) (hiK wd s) x = dsP wd s a b x := by
  have hp := p2 wd
  have a0 := Int.emod_nonneg a (Int.ne_of_gt hp)
  have a1 := Int.emod_lt_of_pos a hp
  have w0 := wr_lo wd s (a * x + b)
  have w1 := wr_hi wd s (a * x + b)
  rw [rsP_wr (s := s) (by unfold hiK; omega) (Int.le_refl _)]
  unfold dsP
  rw [show a * (x + 1) + b = (a * x + b) + a by rw [Int.mul_add]; omega, wr_add wd s (a * x + b) a]
  by_cases z : wr wd s (a * x + b) + a % 2 ^ wd ≤ hiK wd s
  · rw [if_pos z, decide_eq_false fun y => by omega, decide_eq_false fun y => by omega]
  · rw [if_neg z, decide_eq_true (show _ ∧ _ from ⟨by omega, w1⟩), decide_eq_true (by omega)]
theorem mk_same {H H1 : Hp} {kx dx : Addr} {o1 o2 : HO} (nx : H kx = none) (ndx : H dx = none) (kp : Kp kx (upd (upd H dx o1) kx o2) H1) : Same H H1 := fun b o e => kp b o (ne_of_none e nx) (by rw [upd_ne (ne_of_none e nx), upd_ne (ne_of_none e ndx)]; exact e)
section
variable {TS : List (Addr × Str)} {p : Addr} {H H1 H2 : Hp}
theorem Kq.new {r : Addr} {o : HO} (s : Kq TS p H H1) (h : H1 r = none) : Kq TS p H (upd H1 r o) := s.trans (.of ((Sm.refl H1).new h))
theorem Kq.same (s : Kq TS p H H1) (h : Same H1 H2) : Kq TS p H H2 := s.trans (.of (Sm.of h))
theorem Kq.sm (s : Kq TS p H H1) (h : Sm TS H1 H2) : Kq TS p H H2 := s.trans (.of h)
/-- p is new: the change of p is no change to what was there -/
theorem Kq.mut {r : Addr} {o u : HO} (s : Kq TS p H H1) (hn : H r = none) (h : H1 r = some u) (hu : ∀ ps, u ≠ .tbl ps := by intro ps z; cases z) (hc : ∀ c q, u ≠ LamX.CodeO c q := by intro c q z; cases z) : Kq TS p H (upd H1 r o) := by
  refine ⟨fun q w n e t => ?_, fun t b hb => ?_⟩
  · rw [upd_ne (ne_of_none e hn)]
    exact s.1 q w n e t
  · obtain ⟨ps, a1, a2, a3⟩ := s.2 t b hb
    refine ⟨ps, by rw [upd_ne (fun z => by rw [z, h] at a1; cases a1; exact hu ps rfl)]; exact a1, a2, fun pos cv e => ?_⟩
    obtain ⟨c, e1, e2⟩ := a3 pos cv e
    exact ⟨c, e1, by rw [upd_ne (fun z => by rw [z, h] at e2; exact hc _ _ (Option.some.inj e2))]; exact e2⟩
theorem Kq.out {H3 : Hp} (a : Sm TS H H1) (n : H1 p = none) (b : Sm TS H1 H2) (s : Kq TS p H2 H3) : Sm TS H H3 := ⟨fun q o e t => s.1 q o (ne_of_none (a.1 q o e t) n) (b.1 q o (a.1 q o e t) t) t, fun h => s.2 (b.2 (a.2 h))⟩
end

theorem b28 {n : Int} (h : BB n) : n.natAbs < 2 ^ 2800 := Nat.lt_of_lt_of_le h (Nat.pow_le_pow_right (by decide) (by decide))
theorem b89 {n : Int} (h : BB n) : n.natAbs < 2 ^ 8999 := Nat.lt_of_lt_of_le h (Nat.pow_le_pow_right (by decide) (by decide))
theorem bb_sm {n : Int} (h1 : -(2 ^ 64) ≤ n) (h2 : n ≤ 2 ^ 64) : BB n := by
  have : (2 : Int) ^ 64 ≤ 2 ^ 299 := by decide +kernel
  exact bb_of (by omega) (by omega)
theorem bb_ten {n : Int} (h1 : -(10 ^ 62) ≤ n) (h2 : n ≤ 10 ^ 62) : BB n := by
  have : (10 : Int) ^ 62 ≤ 2 ^ 299 := by decide +kernel
  exact bb_of (by omega) (by omega)
theorem SD.of {n : Int} (h1 : -(10 ^ 60) < n) (h2 : n < 10 ^ 60) : SD n := ⟨h1, h2⟩
theorem eqv_rfl {d : PyData} (h : d.canLay0 = true) : PyData.eqv d d = true := PySem.SeqAt.eqv_refl d h

theorem lo_val {wd : Nat} (h : 1 ≤ wd) (s : Bool) : 0 - 2 ^ wd / 2 * (if s = true then (1 : Int) else 0) = loK wd s := by
  have e := p2s h
  have hp := p2 (wd - 1)
  cases s with
  | false =>
    unfold loK
    rw [if_neg Bool.false_ne_true, if_neg Bool.false_ne_true]; omega
  | true =>
    unfold loK
    rw [if_pos rfl, if_pos rfl]; omega

theorem lay_ints : ∀ is : List Int, PyData.canLayAll0 (is.map PyData.int) = true
  | [] => rfl
  | x :: r => by
    rw [List.map_cons, PyData.canLayAll0, lay_ints r]; rfl
theorem depth_ints : ∀ is : List Int, PyData.depthAll (is.map PyData.int) = 0
  | [] => by simp only [List.map_nil, PyData.depthAll]
  | x :: r => by
    rw [List.map_cons, PyData.depthAll, depth_ints r]; simp [PyData.depth]
theorem eqv_ints : ∀ is js : List Int, PyData.eqvAll (is.map PyData.int) (js.map PyData.int) = decide (is = js)
  | [], [] => by simp [PyData.eqvAll]
  | [], _ :: _ => by simp [PyData.eqvAll]
  | _ :: _, [] => by simp [PyData.eqvAll]
  | x :: xs, y :: ys => by
    rw [List.map_cons, List.map_cons, PyData.eqvAll, eqv_ints xs ys, show PyData.eqv (.int x) (.int y) = decide (x = y) from by simp only [PyData.eqv]; rfl, ← Bool.decide_and]
    exact decide_eq_decide.mpr (by rw [List.cons.injEq])
theorem shaped_ints (is : List Int) : SeqAt.shaped (.list (is.map PyData.int)) = true := by
  unfold SeqAt.shaped
  rw [show PyData.canLay0 (.list (is.map PyData.int)) = PyData.canLayAll0 (is.map PyData.int) from by simp only [PyData.canLay0], lay_ints, show PyData.depth (.list (is.map PyData.int)) = PyData.depthAll (is.map PyData.int) + 1 from by simp only [PyData.depth], depth_ints]
  rfl
theorem dp_ints {K : PySem.W.Frag} {H : Hp} : ∀ is : List Int, DpAll K H (is.map V.int) (is.map PyData.int)
  | [] => .nil
  | x :: r => .cons (.int x) (dp_ints r)

/-! ### walks, as objects -/
def wkf (w : Wk) : List (Str × V) := [("size", .int w.s), ("step", .int w.t), ("marks", .int w.m), ("each", .int w.e), ("marked", .int w.k), ("around", .int w.r)]
def Wd (C : Addr) (H : Hp) (p : Addr) (w : Wk) : Prop := ∃ dx, H p = some (.ins C dx (wkf w))
theorem Wd.same {C : Addr} {H H' : Hp} {p : Addr} {w : Wk} (h : Wd C H p w) (e : Same H H') : Wd C H' p w := by
  obtain ⟨dx, q⟩ := h
  exact ⟨dx, e _ _ q⟩
theorem wk1 (w : Wk) : (wkf w).lookup ("size" : Str) = some (.int w.s) := by unfold wkf; simp [List.lookup]
theorem wk2 (w : Wk) : (wkf w).lookup ("step" : Str) = some (.int w.t) := by
  have e : (("step" : Str) == ("size" : Str)) = false := by decide +kernel
  unfold wkf; simp [List.lookup, e]
theorem wk3 (w : Wk) : (wkf w).lookup ("marks" : Str) = some (.int w.m) := by
  have e : (("marks" : Str) == ("size" : Str)) = false := by decide +kernel
  have e2 : (("marks" : Str) == ("step" : Str)) = false := by decide +kernel
  unfold wkf; simp [List.lookup, e, e2]
theorem wk4 (w : Wk) : (wkf w).lookup ("each" : Str) = some (.int w.e) := by
  have e : (("each" : Str) == ("size" : Str)) = false := by decide +kernel
  have e2 : (("each" : Str) == ("step" : Str)) = false := by decide +kernel
  have e3 : (("each" : Str) == ("marks" : Str)) = false := by decide +kernel
  unfold wkf; simp [List.lookup, e, e2, e3]
theorem wk5 (w : Wk) : (wkf w).lookup ("marked" : Str) = some (.int w.k) := by
  have e : (("marked" : Str) == ("size" : Str)) = false := by decide +kernel
  have e2 : (("marked" : Str) == ("step" : Str)) = false := by decide +kernel
  have e3 : (("marked" : Str) == ("marks" : Str)) = false := by decide +kernel
  have e4 : (("marked" : Str) == ("each" : Str)) = false := by decide +kernel
  unfold wkf; simp [List.lookup, e, e2, e3, e4]
theorem wk6 (w : Wk) : (wkf w).lookup ("around" : Str) = some (.int w.r) := by
  have e : (("around" : Str) == ("size" : Str)) = false := by decide +kernel
  have e2 : (("around" : Str) == ("step" : Str)) = false := by decide +kernel
  have e3 : (("around" : Str) == ("marks" : Str)) = false := by decide +kernel
  have e4 : (("around" : Str) == ("each" : Str)) = false := by decide +kernel
  have e5 : (("around" : Str) == ("marked" : Str)) = false := by decide +kernel
  unfold wkf; simp [List.lookup, e, e2, e3, e4, e5]
theorem bbE {x : Int} (h1 : -(2 ^ 700) ≤ x) (h2 : x ≤ 2 ^ 700) : x.natAbs < 2 ^ 701 := by
  have e : (2 : Nat) ^ 701 = 2 * 2 ^ 700 := by rw [Nat.pow_succ, Nat.mul_comm]
  have c : ((2 ^ 700 : Nat) : Int) = (2 : Int) ^ 700 := Int.natCast_pow 2 700
  have : 0 < 2 ^ 700 := Nat.pow_pos (show 0 < 2 by decide)
  omega
theorem bb129 {x : Int} (h1 : -(2 ^ 129) ≤ x) (h2 : x ≤ 2 ^ 129) : x.natAbs < 2 ^ 130 := by
  have e : (2 : Nat) ^ 130 = 2 * 2 ^ 129 := by decide +kernel
  have c : ((2 ^ 129 : Nat) : Int) = (2 : Int) ^ 129 := Int.natCast_pow 2 129
  omega
theorem putW (w : Wk) : putF "around" (.int w.r) (putF "marked" (.int w.k) (putF "each" (.int w.e) (putF "marks" (.int w.m) (putF "step" (.int w.t) (putF "size" (.int w.s) []))))) = wkf w := by
  have f01 : ¬ ("size" : Str) = "step" := by decide +kernel
  have f02 : ¬ ("size" : Str) = "marks" := by decide +kernel
  have f12 : ¬ ("step" : Str) = "marks" := by decide +kernel
  have f03 : ¬ ("size" : Str) = "each" := by decide +kernel
  have f13 : ¬ ("step" : Str) = "each" := by decide +kernel
  have f23 : ¬ ("marks" : Str) = "each" := by decide +kernel
  have f04 : ¬ ("size" : Str) = "marked" := by decide +kernel
  have f14 : ¬ ("step" : Str) = "marked" := by decide +kernel
  have f24 : ¬ ("marks" : Str) = "marked" := by decide +kernel
  have f34 : ¬ ("each" : Str) = "marked" := by decide +kernel
  have f05 : ¬ ("size" : Str) = "around" := by decide +kernel
  have f15 : ¬ ("step" : Str) = "around" := by decide +kernel
  have f25 : ¬ ("marks" : Str) = "around" := by decide +kernel
  have f35 : ¬ ("each" : Str) = "around" := by decide +kernel
  have f45 : ¬ ("marked" : Str) = "around" := by decide +kernel
  unfold wkf
  simp only [putF, if_neg f01, if_neg f02, if_neg f12, if_neg f03, if_neg f13, if_neg f23, if_neg f04, if_neg f14, if_neg f24, if_neg f34, if_neg f05, if_neg f15, if_neg f25, if_neg f35, if_neg f45]
structure WkB (w : Wk) : Prop where
  e : w.e.natAbs < 2 ^ 701
  k : w.k.natAbs < 2 ^ 701
  r : w.r.natAbs < 2 ^ 701
  s : w.s.natAbs < 2 ^ 130
  t : w.t.natAbs < 2 ^ 130
  m : w.m.natAbs < 2 ^ 130
theorem wkb {w : Wk} (h : WF w) (b : WB w) : WkB w := by
  obtain ⟨E, e0, ee, ek, er, el, _⟩ := wb_E h b
  have s0 := h.s0
  have t0 := h.t0
  have ts := h.ts
  have m0 := h.m0
  have ms := h.ms
  have s1 := b.s1
  exact ⟨bbE (by omega) (by omega), bbE (by omega) (by omega), bbE (by omega) (by omega), bb129 (by omega) (by omega), bb129 (by omega) (by omega), bb129 (by omega) (by omega)⟩

theorem abs_min {w : Wk} {b n : Int} (n0 : 0 ≤ n) (h : n.natAbs < 2 ^ 600) : (min n (w.mst b)).natAbs < 2 ^ 600 := by
  have : 0 ≤ w.mst b := by unfold Wk.mst; omega
  omega
theorem nopW (w : Wk) {f : Str} (h : ∀ x ∈ ([("size" : Str), "step", "marks", "each", "marked", "around"] : List Str), (f == x) = false) : (wkf w).lookup f = none := by
  unfold wkf
  have h1 := h "size" (by simp)
  have h2 := h "step" (by simp)
  have h3 := h "marks" (by simp)
  have h4 := h "each" (by simp)
  have h5 := h "marked" (by simp)
  have h6 := h "around" (by simp)
  simp [List.lookup, h1, h2, h3, h4, h5, h6]
theorem nW1 (w : Wk) : (wkf w).lookup ("marked_steps" : Str) = none := nopW w (by decide +kernel)
theorem nW2 (w : Wk) : (wkf w).lookup ("cost" : Str) = none := nopW w (by decide +kernel)
theorem nW3 (w : Wk) : (wkf w).lookup ("steps_for" : Str) = none := nopW w (by decide +kernel)
theorem nW4 (w : Wk) : (wkf w).lookup ("mirrored" : Str) = none := nopW w (by decide +kernel)
theorem nW5 (w : Wk) : (wkf w).lookup ("of_laps" : Str) = none := nopW w (by decide +kernel)
theorem sum_b {a b : Int} (ha : a.natAbs < 2 ^ 701) (hb : b.natAbs < 2 ^ 701) : (a + b).natAbs < 2 ^ 702 := by
  have e : (2 : Nat) ^ 702 = 2 * 2 ^ 701 := by rw [Nat.pow_succ, Nat.mul_comm]
  omega

theorem lt_two_pow (n : Nat) {x : Int} (h0 : 0 ≤ x) (h : x < 2 ^ n) : x.natAbs < 2 ^ n := by
  have c : ((2 ^ n : Nat) : Int) = (2 : Int) ^ n := Int.natCast_pow 2 n
  omega
def Bnd (w : Wk) (p b : Int) : Prop := ∀ (N : Nat) (g : Int), hT w p b N g → N < 2 ^ 402 ∧ 0 ≤ g
structure Ent (v : Wk) (q : Int) : Prop where
  wf : WF v
  t0 : 0 < v.t
  q0 : 0 ≤ q
  q1 : q < v.t
  wb : WkB v
def Chain (W0 : Wk) (P0 J0 : Int) : List (Wk × Int × Nat × Int) → Wk → Int → Int → Prop
  | [], w, p, b => w = W0 ∧ p = P0 ∧ b = J0
  | e :: r, w, p, b => w = e.1.laps ∧ p = e.2.1 ∧ b = e.2.2.2 ∧ Ent e.1 e.2.1 ∧ ∃ w' p' b', Chain W0 P0 J0 r w' p' b' ∧ Bnd w' p' b' ∧ ∀ (X : Nat) (g : Int), hT e.1 e.2.1 e.2.2.2 X g → e.2.2.1 ≤ X ∧ hT w' p' b' (X - e.2.2.1) g
def RowE (C : Addr) (H : Hp) (t : Addr) (e : Wk × Int × Nat × Int) : Prop := ∃ wa, H t = some (.tup [.ref wa, .int e.2.1, .int (e.2.2.1 : Int)]) ∧ Wd C H wa e.1
def Rows (C : Addr) (H : Hp) (D : Addr) (st : List (Wk × Int × Nat × Int)) : Prop := ∃ ts : List Addr, H D = some (.lst (ts.map V.ref)) ∧ ts.length = st.length ∧ ∀ (i : Nat) (t : Addr) (e : Wk × Int × Nat × Int), ts[i]? = some t → st.reverse[i]? = some e → RowE C H t e
theorem RowE.same {C : Addr} {H H' : Hp} {t : Addr} {e : Wk × Int × Nat × Int} (h : RowE C H t e) (s : Same H H') : RowE C H' t e := by
  obtain ⟨wa, h1, h2⟩ := h
  exact ⟨wa, s _ _ h1, h2.same s⟩
theorem Rows.same {C : Addr} {H H' : Hp} {D : Addr} {st : List (Wk × Int × Nat × Int)} (h : Rows C H D st) (s : Same H H') : Rows C H' D st := by
  obtain ⟨ts, h1, h2, h3⟩ := h
  exact ⟨ts, s _ _ h1, h2, fun i t e a b => (h3 i t e a b).same s⟩
theorem Wd.mut {C : Addr} {H : Hp} {p D : Addr} {w : Wk} {xs ys : List V} (hD : H D = some (.lst xs)) (h : Wd C H p w) : Wd C (L2.upd H D (.lst ys)) p w := by
  obtain ⟨dx, e⟩ := h
  exact ⟨dx, by rw [upd_ne (ne_of e hD (by intro z; cases z))]; exact e⟩
theorem RowE.mut {C : Addr} {H : Hp} {t D : Addr} {e : Wk × Int × Nat × Int} {xs ys : List V} (hD : H D = some (.lst xs)) (h : RowE C H t e) : RowE C (L2.upd H D (.lst ys)) t e := by
  obtain ⟨wa, h1, h2⟩ := h
  exact ⟨wa, by rw [upd_ne (ne_of h1 hD (by intro z; cases z))]; exact h1, h2.mut hD⟩
theorem Rows.push {C : Addr} {H : Hp} {D t : Addr} {st : List (Wk × Int × Nat × Int)} {e : Wk × Int × Nat × Int} {ts : List Addr} (h1 : H D = some (.lst (ts.map V.ref))) (h2 : ts.length = st.length) (h3 : ∀ (i : Nat) (t : Addr) (e : Wk × Int × Nat × Int), ts[i]? = some t → st.reverse[i]? = some e → RowE C H t e) (h : RowE C H t e) : Rows C (L2.upd H D (.lst (ts.map V.ref ++ [.ref t]))) D (e :: st) := by
  refine ⟨ts ++ [t], by rw [upd_same, List.map_append]; rfl, by rw [List.length_append, h2]; rfl, fun i t' e' a b => ?_⟩
  rw [List.reverse_cons] at b
  by_cases c : i < ts.length
  · rw [List.getElem?_append_left c] at a
    rw [List.getElem?_append_left (by rw [List.length_reverse, ← h2]; exact c)] at b
    exact (h3 i t' e' a b).mut h1
  · have z : i = ts.length := by
      have := (List.getElem?_eq_some_iff.mp a).1
      rw [List.length_append, List.length_singleton] at this
      omega
    subst z
    rw [List.getElem?_append_right (Nat.le_refl _), Nat.sub_self] at a
    rw [List.getElem?_append_right (by rw [List.length_reverse, h2]; exact Nat.le_refl _), List.length_reverse, h2, Nat.sub_self] at b
    obtain rfl : t = t' := Option.some.inj a
    obtain rfl : e = e' := Option.some.inj b
    exact h.mut h1
def plow (w : Wk) (p : Int) : Int := if w.s < 2 * w.t then w.s - 1 - p else p
theorem plow_ok {w : Wk} (h : WF w) (ht : 0 < w.t) {p : Int} (p0 : 0 ≤ p) (p1 : p < w.s) : (0 ≤ plow w p ∧ plow w p < w.low.s) ∧ (∀ N, hC w.low N (plow w p) = hC w N p) ∧ ∀ {b : Int} {n : Nat} {g : Int}, hT w.low (plow w p) b n g → hT w p b n g := by
  unfold plow Wk.low
  split
  · refine ⟨⟨by omega, by show w.s - 1 - p < w.s; omega⟩, fun N => (mir_hP h p0 p1 N).2, fun {b n g} t => mir_hT h p0 p1 t⟩
  · exact ⟨⟨p0, p1⟩, fun _ => rfl, fun t => t⟩
theorem bits130 {x : Int} (h : x.natAbs < 2 ^ 900) {y : Int} (hy : 0 < y) : CDivP x y := by
  have a := PyProof.Rows.intBits_le h
  exact divp_ok hy (by omega)

theorem hit_pos {a b lo hi S : Int} (s0 : 0 < S) (h1 : lo ≤ hi) (h2 : hi - lo < S) (f : Int) : ∀ n : Nat, hP ⟨S, a % S, hi - lo + 1, 0, 1, 0⟩ n ((a * f + b - lo) % S) = (a * (f + (n : Int)) + b - lo) % S ∧ hC ⟨S, a % S, hi - lo + 1, 0, 1, 0⟩ n ((a * f + b - lo) % S) = tot (fun x => inR S lo hi (a * x + b)) f (f + (n : Int) - 1)
  | 0 => by
    refine ⟨?_, ?_⟩
    · show (a * f + b - lo) % S = (a * (f + ((0 : Nat) : Int)) + b - lo) % S
      rw [show f + ((0 : Nat) : Int) = f by omega]
    · show (0 : Int) = _
      rw [tot_none (by omega)]
  | n + 1 => by
    obtain ⟨e1, e2⟩ := hit_pos s0 h1 h2 f n
    have r0 := Int.emod_nonneg (a * (f + (n : Int)) + b - lo) (Int.ne_of_gt s0)
    have r1 := Int.emod_lt_of_pos (a * (f + (n : Int)) + b - lo) s0
    have t0 := Int.emod_nonneg a (Int.ne_of_gt s0)
    have t1 := Int.emod_lt_of_pos a s0
    have ad : (a * (f + ((n + 1 : Nat) : Int)) + b - lo) % S = ((a * (f + (n : Int)) + b - lo) % S + a % S) % S := by
      rw [← Int.add_emod]
      congr 1
      rw [show f + ((n + 1 : Nat) : Int) = (f + (n : Int)) + 1 by omega, Int.mul_add, Int.mul_one]; omega
    constructor
    · show hn S (a % S) (hP ⟨S, a % S, hi - lo + 1, 0, 1, 0⟩ n ((a * f + b - lo) % S)) = _
      rw [e1, ad]
      unfold hn
      clear e1 e2 ad
      generalize (a * (f + (n : Int)) + b - lo) % S = r at *
      generalize a % S = q at *
      split
      · have e : (r + q) % S = r + q - S := by
          have e0 : r + q = (r + q - S) + S * 1 := by omega
          rw [e0, Int.add_mul_emod_self_left, Int.emod_eq_of_lt (by omega) (by omega)]
          omega
        rw [e]
      · rw [Int.emod_eq_of_lt (by omega) (by omega)]
    · show hC ⟨S, a % S, hi - lo + 1, 0, 1, 0⟩ n ((a * f + b - lo) % S) + hc ⟨S, a % S, hi - lo + 1, 0, 1, 0⟩ (hP ⟨S, a % S, hi - lo + 1, 0, 1, 0⟩ n ((a * f + b - lo) % S)) = _
      rw [e2, e1, show f + ((n + 1 : Nat) : Int) - 1 = f + (n : Int) by omega, tot_step _ (show f ≤ f + (n : Int) by omega)]
      congr 1
      unfold hc inR
      dsimp only
      by_cases c : (a * (f + (n : Int)) + b - lo) % S < hi - lo + 1
      · rw [if_pos c, if_pos (decide_eq_true ⟨h1, by omega⟩)]; split <;> omega
      · rw [if_neg c, show decide (lo ≤ hi ∧ (a * (f + (n : Int)) + b - lo) % S ≤ hi - lo) = false from decide_eq_false (fun z => by omega), if_neg Bool.false_ne_true]; split <;> omega
theorem hit_is {a b lo hi S : Int} (s0 : 0 < S) (h1 : lo ≤ hi) (h2 : hi - lo < S) {f j g : Int} {n : Nat} (h : hT ⟨S, a % S, hi - lo + 1, 0, 1, 0⟩ ((a * f + b - lo) % S) j n g) : inR S lo hi (a * (f + (n : Int)) + b) = true ∧ tot (fun x => inR S lo hi (a * x + b)) f (f + (n : Int) - 1) = j := by
  obtain ⟨e1, e2⟩ := hit_pos (a := a) (b := b) s0 h1 h2 f n
  obtain ⟨t1, t2, t3⟩ := h
  rw [e2] at t1
  rw [e1] at t3
  unfold hc at t3
  dsimp only at t3
  by_cases c : (a * (f + (n : Int)) + b - lo) % S < hi - lo + 1
  · refine ⟨decide_eq_true ⟨h1, by omega⟩, ?_⟩
    rw [if_pos c] at t3
    split at t3 <;> omega
  · rw [if_neg c] at t3
    split at t3 <;> omega

/-- the least result, the greatest one, and the least x that has it -/
def LeastAt (g : Int → Int) (f l y x : Int) : Prop := f ≤ x ∧ x ≤ l ∧ g x = y ∧ (∀ z, f ≤ z → z ≤ l → y ≤ g z) ∧ ∀ z, f ≤ z → z < x → g z ≠ y
def GreatAt (g : Int → Int) (f l y x : Int) : Prop := f ≤ x ∧ x ≤ l ∧ g x = y ∧ (∀ z, f ≤ z → z ≤ l → g z ≤ y) ∧ ∀ z, f ≤ z → z < x → g z ≠ y
abbrev ln (wd : Nat) (s : Bool) (a b : Int) : Int → Int := fun x => wr wd s (a * x + b)
def ExtV (R : Int → Int → Prop) (f l : Int) (H : Hp) (v : V) : Prop := (l < f ∧ v = .non) ∨ ∃ (t : Addr) (y x : Int), v = .ref t ∧ H t = some (.tup [.int y, .int x]) ∧ R y x
theorem rs_y {wd : Nat} {s : Bool} {a b y x : Int} (h1 : loK wd s ≤ y) (h2 : y ≤ hiK wd s) : rsP wd a b y y x = decide (ln wd s a b x = y) := by
  rw [rsP_wr h1 h2]
  show _ = decide (wr wd s (a * x + b) = y)
  exact decide_eq_decide.mpr (by omega)
theorem lr_low {wd : Nat} {s : Bool} {a b f l y : Int} (h : LrIs a (b - loK wd s) (2 ^ wd) f l y) : (∃ x, f ≤ x ∧ x ≤ l ∧ ln wd s a b x = loK wd s + y) ∧ ∀ x, f ≤ x → x ≤ l → loK wd s + y ≤ ln wd s a b x := by
  have e : ∀ x, ln wd s a b x = loK wd s + (a * x + (b - loK wd s)) % 2 ^ wd := fun x => by
    show loK wd s + (a * x + b - loK wd s) % 2 ^ wd = _
    rw [show a * x + b - loK wd s = a * x + (b - loK wd s) by omega]
  obtain ⟨⟨x, x1, x2, x3⟩, h⟩ := h
  exact ⟨⟨x, x1, x2, by rw [e, x3]⟩, fun z z1 z2 => by rw [e]; have := h z z1 z2; omega⟩
theorem lr_high {wd : Nat} {s : Bool} {a b f l y : Int} (h : LrIs (-a) (hiK wd s - b) (2 ^ wd) f l y) : (∃ x, f ≤ x ∧ x ≤ l ∧ ln wd s a b x = hiK wd s - y) ∧ ∀ x, f ≤ x → x ≤ l → ln wd s a b x ≤ hiK wd s - y := by
  have e : ∀ x, (-a * x + (hiK wd s - b)) % 2 ^ wd = hiK wd s - ln wd s a b x := fun x => by
    have w0 := wr_lo wd s (a * x + b)
    have w1 := wr_hi wd s (a * x + b)
    have w2 := wr_q wd s (a * x + b)
    show _ = hiK wd s - wr wd s (a * x + b)
    have hh : hiK wd s = loK wd s + 2 ^ wd - 1 := rfl
    refine emod_is (q := -((a * x + b - loK wd s) / 2 ^ wd)) ?_ (by omega) (by omega)
    rw [Int.mul_neg, Int.neg_mul]; omega
  obtain ⟨⟨x, x1, x2, x3⟩, h⟩ := h
  exact ⟨⟨x, x1, x2, by have := e x; omega⟩, fun z z1 z2 => by have := h z z1 z2; have := e z; omega⟩

/-! ### k10 -/
theorem sh_pair (n l : Int) : SeqAt.shaped (.tuple [.int n, .int l]) = true := by
  unfold SeqAt.shaped
  simp [PyData.canLay0, PyData.canLayAll0, PyData.depth, PyData.depthAll]
theorem eqv_pair (n l : Int) : PyData.eqv (.tuple [.int n, .int l]) (.tuple [.int n, .int l]) = true := PySem.SeqAt.eqv_refl _ (by simp [PyData.canLay0, PyData.canLayAll0])
theorem dp_pair {K : PySem.W.Frag} {H : Hp} {q : Addr} {n l : Int} (h : H q = some (.tup [.int n, .int l])) : Dp K H (.ref q) (.tuple [.int n, .int l]) := .tup (SqT.of h) (.cons (.int n) (.cons (.int l) .nil))
/-- a kind, its least value, (bits, twos, odd), a line with that factor, an x and a number of turns -/
structure D10 (C : Addr) (H : Hp) (t kx lt lp le : Addr) (wd tw : Nat) (s : Bool) (o a b bg : Int) (n : Nat) : Prop where
  hk : Kd C H kx wd s
  w1 : 1 ≤ wd
  ht : H t = some (.tup [.ref kx, .int (loK wd s), .ref lt, .ref lp, .ref le])
  hl : H lt = some (.tup [.int wd, .int tw, .int o])
  hp : H lp = some (.tup [.int a, .int b])
  he : H le = some (.tup [.int bg, .int n])
  tw2 : tw ≤ wd
  o2 : o % 2 = 1
  o0 : 0 ≤ o
  o1 : o < 2 * 2 ^ wd
  ao : (2 : Int) ^ wd ∣ a - o * 2 ^ tw
  a0 : -(2 ^ wd) ≤ a
  a1 : a < 2 ^ wd
  b0 : -(2 * 2 ^ wd) ≤ b
  b1 : b < 2 * 2 ^ wd
  g0 : -(2 * 2 ^ wd) ≤ bg
  g1 : bg < 2 * 2 ^ wd
  n0 : 1 ≤ n
  n1 : n ≤ 1000
theorem D10.kq {C : Addr} {TS : List (Addr × Str)} {m n : Nat} {H H' : Hp} {t kx lt lp le p : Addr} {wd tw : Nat} {s : Bool} {o a b bg : Int} (h : D10 C H t kx lt lp le wd tw s o a b bg n) (hs : SrcN m H p) (e : Kq TS p H H') : D10 C H' t kx lt lp le wd tw s o a b bg n := by
  obtain ⟨dk, ek⟩ := h.hk.ex
  exact { h with hk := h.hk.kq (hs.ne_of ek) e, ht := e.at (hs.ne_of h.ht) h.ht, hl := e.at (hs.ne_of h.hl) h.hl, hp := e.at (hs.ne_of h.hp) h.hp, he := e.at (hs.ne_of h.he) h.he }
theorem D10.sm {C : Addr} {TS : List (Addr × Str)} {n : Nat} {H H' : Hp} {t kx lt lp le : Addr} {wd tw : Nat} {s : Bool} {o a b bg : Int} (h : D10 C H t kx lt lp le wd tw s o a b bg n) (e : Sm TS H H') : D10 C H' t kx lt lp le wd tw s o a b bg n := by
  exact { h with hk := h.hk.sm e, ht := e.at h.ht, hl := e.at h.hl, hp := e.at h.hp, he := e.at h.he }
theorem inv_step {o u : Int} {i : Nat} (o2 : o % 2 = 1) (d : (2 : Int) ^ i ∣ o * u - 1) : ((o * u - 1) / 2 ^ i % 2 = 1 → (2 : Int) ^ (i + 1) ∣ o * (u + 2 ^ i) - 1) ∧ ((o * u - 1) / 2 ^ i % 2 ≠ 1 → (2 : Int) ^ (i + 1) ∣ o * u - 1) := by
  have hp := p2 i
  obtain ⟨q, hq⟩ := d
  rw [hq, Int.mul_ediv_cancel_left _ (Int.ne_of_gt hp), Int.pow_succ]
  refine ⟨fun h => ⟨(q + o) / 2, ?_⟩, fun h => ⟨q / 2, ?_⟩⟩
  · rw [Int.mul_add, show o * u + o * 2 ^ i - 1 = (o * u - 1) + o * 2 ^ i by omega, hq, Int.mul_comm o, ← Int.mul_add, Int.mul_assoc]
    congr 1; omega
  · rw [Int.mul_assoc]
    congr 1; omega
theorem div_abs {x y : Int} (h : 0 < y) : (x / y).natAbs ≤ x.natAbs := Int.natAbs_ediv_le_natAbs x y
theorem tot_tel {p : Int → Bool} {g : Int → Int} {f l : Int} (h : f ≤ l + 1) (hg : ∀ x, (if p x = true then (1 : Int) else 0) = g (x + 1) - g x) : tot p f l = g (l + 1) - g f := by
  obtain ⟨n, hn⟩ := Int.eq_ofNat_of_zero_le (show 0 ≤ l + 1 - f by omega)
  have key : ∀ n : Nat, cN p f n = g (f + n) - g f := fun n => by
    induction n with
    | zero => show (0 : Int) = g (f + ((0 : Nat) : Int)) - g f; rw [show f + ((0 : Nat) : Int) = f by omega]; omega
    | succ n ih =>
      show cN p f n + (if p (f + n) = true then 1 else 0) = _
      rw [ih, hg, show f + ((n + 1 : Nat) : Int) = f + n + 1 by omega]; omega
  unfold tot
  rw [show (l - f + 1).toNat = n by omega, key n, show f + (n : Int) = l + 1 by omega]
theorem dsP_pos {wd : Nat} {s : Bool} {a b : Int} (h1 : 0 ≤ a) (h2 : a < 2 ^ wd) (x : Int) : (if dsP wd s a b x = true then (1 : Int) else 0) = (a * (x + 1) + b - loK wd s) / 2 ^ wd - (a * x + b - loK wd s) / 2 ^ wd := by
  have hp := p2 wd
  have e1 := wr_q wd s (a * x + b)
  have e2 := wr_q wd s (a * (x + 1) + b)
  have w0 := wr_lo wd s (a * x + b)
  have w1 := wr_hi wd s (a * x + b)
  have am : a % 2 ^ wd = a := Int.emod_eq_of_lt (h1) h2
  have ex : a * (x + 1) + b = (a * x + b) + a := by rw [Int.mul_add]; omega
  unfold dsP
  rw [ex] at e2 ⊢
  rw [wr_add wd s (a * x + b) a, am] at e2 ⊢
  by_cases z : wr wd s (a * x + b) + a ≤ hiK wd s
  · rw [if_pos z] at e2 ⊢
    rw [decide_eq_false fun y => by omega, if_neg Bool.false_ne_true]
    have : 2 ^ wd * ((a * x + b + a - loK wd s) / 2 ^ wd) = 2 ^ wd * ((a * x + b - loK wd s) / 2 ^ wd) := by omega
    have := Int.eq_of_mul_eq_mul_left (Int.ne_of_gt hp) this
    omega
  · rw [if_neg z] at e2 ⊢
    rw [decide_eq_true (by omega), if_pos rfl]
    have : 2 ^ wd * ((a * x + b + a - loK wd s) / 2 ^ wd) = 2 ^ wd * ((a * x + b - loK wd s) / 2 ^ wd + 1) := by rw [Int.mul_add]; omega
    have := Int.eq_of_mul_eq_mul_left (Int.ne_of_gt hp) this
    omega
theorem dsP_sl {wd : Nat} {s : Bool} {a b : Int} (x : Int) : (if dsP wd s a b x = true then (1 : Int) else 0) = (a % 2 ^ wd * (x + 1) + (b - loK wd s)) / 2 ^ wd - (a % 2 ^ wd * x + (b - loK wd s)) / 2 ^ wd := by
  have hp := p2 wd
  have e : ∀ z, wr wd s (a * z + b) = wr wd s (a % 2 ^ wd * z + b) := fun z => by
    unfold wr
    congr 1
    have u := Int.emod_add_mul_ediv a (2 ^ wd)
    have v : a % 2 ^ wd * z = a * z - 2 ^ wd * (a / 2 ^ wd * z) := by
      have v2 : a % 2 ^ wd = a - 2 ^ wd * (a / 2 ^ wd) := by omega
      rw [v2, Int.sub_mul, Int.mul_assoc]
    rw [show a % 2 ^ wd * z + b - loK wd s = (a * z + b - loK wd s) - 2 ^ wd * (a / 2 ^ wd * z) by omega, emod_sub_mul]
  have e2 : dsP wd s a b x = dsP wd s (a % 2 ^ wd) b x := by
    unfold dsP
    rw [e, e]
  rw [e2, dsP_pos (Int.emod_nonneg a (Int.ne_of_gt hp)) (Int.emod_lt_of_pos a hp)]
  rw [show a % 2 ^ wd * (x + 1) + (b - loK wd s) = a % 2 ^ wd * (x + 1) + b - loK wd s by omega, show a % 2 ^ wd * x + (b - loK wd s) = a % 2 ^ wd * x + b - loK wd s by omega]
theorem tot_sing (p : Int → Bool) (x : Int) : tot p x x = if p x = true then 1 else 0 := by
  rw [tot_step p (Int.le_refl x), tot_none (by omega)]; omega
theorem first_is {p : Int → Bool} {f l x : Int} {v : V} (h : FirstOf p f l v) (x1 : f ≤ x) (x2 : x ≤ l) (px : p x = true) (lo : tot p f (x - 1) = 0) : v = .int x := by
  rcases h with ⟨rfl, h0⟩ | ⟨z, rfl, z1, z2, pz, z3⟩
  · have := tot_zero_iff.mp h0 x x1 x2; rw [px] at this; cases this
  · rcases Int.lt_trichotomy z x with c | c | c
    · have := tot_zero_iff.mp lo z z1 (by omega); rw [pz] at this; cases this
    · rw [c]
    · have := tot_zero_iff.mp z3 x x1 (by omega); rw [px] at this; cases this
theorem none_is {p : Int → Bool} {f l : Int} {v : V} (h : FirstOf p f l v) (h0 : tot p f l = 0) : v = .non := by
  rcases h with ⟨rfl, _⟩ | ⟨z, rfl, z1, z2, pz, z3⟩
  · rfl
  · have := tot_zero_iff.mp h0 z z1 z2; rw [pz] at this; cases this

theorem sol_red {per q bg : Int} (p0 : 0 < per) : ∃ X, bg ≤ X ∧ X < bg + per ∧ ∀ x, per ∣ x - q ↔ per ∣ x - X := by
  have r0 := Int.emod_nonneg (q - bg) (Int.ne_of_gt p0)
  have r1 := Int.emod_lt_of_pos (q - bg) p0
  have r2 := Int.emod_add_mul_ediv (q - bg) per
  refine ⟨(q - bg) % per + bg, by omega, by omega, fun x => ?_⟩
  generalize (q - bg) / per = z at *
  generalize (q - bg) % per = r at *
  constructor
  · rintro ⟨m, hm⟩
    exact ⟨m + z, by rw [Int.mul_add]; omega⟩
  · rintro ⟨m, hm⟩
    exact ⟨m - z, by rw [Int.mul_sub]; omega⟩
theorem inv_ex {o : Int} (o2 : o % 2 = 1) : ∀ i : Nat, ∃ u : Int, (2 : Int) ^ i ∣ o * u - 1
  | 0 => ⟨0, by rw [Int.pow_zero]; exact Int.one_dvd _⟩
  | i + 1 => by
    obtain ⟨u, h⟩ := inv_ex o2 i
    by_cases c : (o * u - 1) / 2 ^ i % 2 = 1
    · exact ⟨_, (inv_step o2 h).1 c⟩
    · exact ⟨_, (inv_step o2 h).2 c⟩
theorem sol_ex {wd tw : Nat} {o far : Int} (tw2 : tw ≤ wd) (o2 : o % 2 = 1) (hf : (2 : Int) ^ tw ∣ far) (bg : Int) : ∃ X, bg ≤ X ∧ X < bg + 2 ^ (wd - tw) ∧ ∀ x, (2 : Int) ^ wd ∣ o * 2 ^ tw * x - far ↔ (2 : Int) ^ (wd - tw) ∣ x - X := by
  obtain ⟨u, hu⟩ := inv_ex o2 wd
  obtain ⟨X, h1, h2, h3⟩ := sol_red (q := far / 2 ^ tw * u) (bg := bg) (p2 (wd - tw))
  exact ⟨X, h1, h2, fun x => (sol_iff tw2 hu hf).trans (h3 x)⟩
theorem wr_is {wd : Nat} {s : Bool} {w v : Int} (h0 : loK wd s ≤ w) (h1 : w ≤ hiK wd s) : wr wd s v = w ↔ (2 : Int) ^ wd ∣ v - w := by
  have hp := p2 wd
  have e := wr_q wd s v
  have l := wr_lo wd s v
  have h := wr_hi wd s v
  have hh : hiK wd s = loK wd s + 2 ^ wd - 1 := rfl
  generalize wr wd s v = u at *
  generalize (v - loK wd s) / 2 ^ wd = q at *
  constructor
  · rintro rfl; exact ⟨q, by omega⟩
  · rintro ⟨k, hk⟩
    have e2 : u - w = 2 ^ wd * (k - q) := by rw [Int.mul_sub]; omega
    rcases Int.lt_trichotomy (k - q) 0 with z | z | z
    · have := Int.mul_le_mul_of_nonneg_left (show k - q ≤ -1 by omega) (Int.le_of_lt hp); omega
    · rw [z] at e2; omega
    · have := Int.mul_le_mul_of_nonneg_left (show 1 ≤ k - q by omega) (Int.le_of_lt hp); omega
/-- the x whose result is w -/
abbrev hitP (wd : Nat) (s : Bool) (a b w : Int) : Int → Bool := fun x => decide (wr wd s (a * x + b) = w)
section
variable {wd tw : Nat} {s : Bool} {o a b w X bg : Int}
theorem hit_dvd (tw2 : tw ≤ wd) (ao : (2 : Int) ^ wd ∣ a - o * 2 ^ tw) {x : Int} (h : (2 : Int) ^ wd ∣ a * x + b - w) : (2 : Int) ^ tw ∣ w - b := by
  have e : (2 : Int) ^ wd = 2 ^ tw * 2 ^ (wd - tw) := by rw [← Int.pow_add]; congr 1; omega
  obtain ⟨k, hk⟩ := ao
  obtain ⟨m, hm⟩ := h
  refine ⟨o * x + 2 ^ (wd - tw) * k * x - 2 ^ (wd - tw) * m, ?_⟩
  rw [e, Int.mul_assoc] at hk hm
  have e1 : a * x = 2 ^ tw * (2 ^ (wd - tw) * k * x) + 2 ^ tw * (o * x) := by
    rw [← Int.mul_assoc (2 ^ tw) (2 ^ (wd - tw) * k) x, ← hk, Int.sub_mul, ← Int.mul_assoc (2 ^ tw) o x, Int.mul_comm (2 ^ tw) o]; omega
  rw [Int.mul_sub, Int.mul_add]; omega
theorem hit_sol (ao : (2 : Int) ^ wd ∣ a - o * 2 ^ tw) (h0 : loK wd s ≤ w) (h1 : w ≤ hiK wd s) (hX : ∀ x, (2 : Int) ^ wd ∣ o * 2 ^ tw * x - (w - b) ↔ (2 : Int) ^ (wd - tw) ∣ x - X) : Sol (hitP wd s a b w) (2 ^ (wd - tw)) X := fun x => by
  unfold hitP
  rw [decide_eq_true_eq, wr_is h0 h1, ← hX]
  obtain ⟨k, hk⟩ := ao
  have e : a * x + b - w = (o * 2 ^ tw * x - (w - b)) + 2 ^ wd * (k * x) := by rw [← Int.mul_assoc, ← hk, Int.sub_mul]; omega
  rw [e]
  constructor
  · rintro ⟨m, hm⟩; exact ⟨m - k * x, by rw [Int.mul_sub]; omega⟩
  · rintro ⟨m, hm⟩; exact ⟨m + k * x, by rw [Int.mul_add]; omega⟩
theorem near_dvd {S L : Int} : (w - (L + (b - L) % S)) % S = 0 ↔ S ∣ w - b := by
  have r2 := Int.emod_add_mul_ediv (b - L) S
  rw [← Int.dvd_iff_emod_eq_zero]
  generalize (b - L) / S = q at *
  generalize (b - L) % S = r at *
  constructor
  · rintro ⟨m, hm⟩; exact ⟨m - q, by rw [Int.mul_sub]; omega⟩
  · rintro ⟨m, hm⟩; exact ⟨m + q, by rw [Int.mul_add]; omega⟩
theorem tot_hit (tw2 : tw ≤ wd) (o2 : o % 2 = 1) (ao : (2 : Int) ^ wd ∣ a - o * 2 ^ tw) (h0 : loK wd s ≤ w) (h1 : w ≤ hiK wd s) (n : Nat) : tot (hitP wd s a b w) bg (bg + (n : Int) * 2 ^ wd - 1) = if decide ((w - (loK wd s + (b - loK wd s) % 2 ^ tw)) % 2 ^ tw = 0) = true then 2 ^ tw * (n : Int) else 0 := by
  by_cases c : (2 : Int) ^ tw ∣ w - b
  · rw [if_pos (decide_eq_true (near_dvd.mpr c))]
    obtain ⟨X, x1, x2, hX⟩ := sol_ex tw2 o2 c bg
    have e := (hit_sol ao h0 h1 hX).many (p2 _) x1 x2 (2 ^ tw * n)
    rw [Int.natCast_mul, Int.natCast_pow, show ((2 : Nat) : Int) = 2 from rfl] at e
    rw [← e]
    congr 2
    have e2 : (2 : Int) ^ wd = 2 ^ tw * 2 ^ (wd - tw) := by rw [← Int.pow_add]; congr 1; omega
    rw [e2, Int.mul_comm (2 ^ tw) (n : Int), Int.mul_assoc]
  · rw [if_neg (by rw [decide_eq_true_eq, near_dvd]; exact c)]
    exact tot_zero_iff.mpr fun x _ _ => decide_eq_false fun z => c (hit_dvd tw2 ao ((wr_is h0 h1).mp z))
theorem tot_turns (tw2 : tw ≤ wd) (o2 : o % 2 = 1) (ao : (2 : Int) ^ wd ∣ a - o * 2 ^ tw) {lo hi : Int} (h0 : loK wd s ≤ lo) (h1 : hi ≤ hiK wd s) (lh : lo ≤ hi + 1) (n : Nat) : tot (rsP wd a b lo hi) bg (bg + (n : Int) * 2 ^ wd - 1) = 2 ^ tw * (n : Int) * ((hi - (loK wd s + (b - loK wd s) % 2 ^ tw)) / 2 ^ tw - (lo - (loK wd s + (b - loK wd s) % 2 ^ tw) - 1) / 2 ^ tw) := by
  rw [tot_congr fun x _ _ => rsP_wr (s := s) h0 h1, tot_vals (v := fun x => wr wd s (a * x + b)) (g := fun w => decide ((w - (loK wd s + (b - loK wd s) % 2 ^ tw)) % 2 ^ tw = 0)) (c := 2 ^ tw * (n : Int)) lh fun w w0 w1 => tot_hit tw2 o2 ao (by omega) (by omega) n, tot_mod (p2 tw) lh]
theorem ds_turns (n : Nat) : tot (dsP wd s a b) bg (bg + (n : Int) * 2 ^ wd - 1) = (n : Int) * (a % 2 ^ wd) := by
  have hp := p2 wd
  have n0 : 0 ≤ (n : Int) * 2 ^ wd := Int.mul_nonneg (by omega) (Int.le_of_lt hp)
  rw [tot_tel (g := fun x => (a % 2 ^ wd * x + (b - loK wd s)) / 2 ^ wd) (by omega) dsP_sl]
  show (a % 2 ^ wd * (bg + (n : Int) * 2 ^ wd - 1 + 1) + (b - loK wd s)) / 2 ^ wd - _ = _
  rw [show a % 2 ^ wd * (bg + (n : Int) * 2 ^ wd - 1 + 1) + (b - loK wd s) = (a % 2 ^ wd * bg + (b - loK wd s)) + 2 ^ wd * ((n : Int) * (a % 2 ^ wd)) by
    rw [show bg + (n : Int) * 2 ^ wd - 1 + 1 = bg + (n : Int) * 2 ^ wd by omega, Int.mul_add, Int.mul_comm (n : Int) (2 ^ wd), Int.mul_left_comm, Int.mul_comm (a % 2 ^ wd) (n : Int)]; omega, Int.add_mul_ediv_left _ _ (Int.ne_of_gt hp)]
  omega
/-- what a line's results are, from least to greatest -/
theorem hit_rng (tw2 : tw ≤ wd) (ao : (2 : Int) ^ wd ∣ a - o * 2 ^ tw) (x : Int) : loK wd s + (b - loK wd s) % 2 ^ tw ≤ wr wd s (a * x + b) ∧ wr wd s (a * x + b) ≤ loK wd s + (b - loK wd s) % 2 ^ tw + 2 ^ tw * (2 ^ (wd - tw) - 1) := by
  have h0 := wr_lo wd s (a * x + b)
  have h1 := wr_hi wd s (a * x + b)
  have hh : hiK wd s = loK wd s + 2 ^ wd - 1 := rfl
  have ht := p2 tw
  obtain ⟨M, hM⟩ := Int.dvd_iff_emod_eq_zero.mpr (near_dvd.mpr (hit_dvd tw2 ao ((wr_is h0 h1).mp rfl)))
  have r0 := Int.emod_nonneg (b - loK wd s) (Int.ne_of_gt ht)
  have r1 := Int.emod_lt_of_pos (b - loK wd s) ht
  have e2 : (2 : Int) ^ wd = 2 ^ tw * 2 ^ (wd - tw) := by rw [← Int.pow_add]; congr 1; omega
  rw [e2] at hh
  generalize (b - loK wd s) % 2 ^ tw = r at *
  generalize wr wd s (a * x + b) = y at *
  generalize (2 : Int) ^ (wd - tw) = per at *
  constructor
  · rcases Int.lt_or_le M 0 with z | z
    · have := Int.mul_le_mul_of_nonneg_left (show M ≤ -1 by omega) (Int.le_of_lt ht); omega
    · have := Int.mul_nonneg (Int.le_of_lt ht) z; omega
  · rcases Int.lt_or_le M per with z | z
    · have := Int.mul_le_mul_of_nonneg_left (show M ≤ per - 1 by omega) (Int.le_of_lt ht); omega
    · have := Int.mul_le_mul_of_nonneg_left z (Int.le_of_lt ht); omega
end
theorem least_is {g : Int → Int} {f l y x Y X : Int} (h : LeastAt g f l y x) (x1 : f ≤ X) (x2 : X ≤ l) (gX : g X = Y) (lowX : ∀ z, f ≤ z → z < X → g z ≠ Y) (low : ∀ z, f ≤ z → z ≤ l → Y ≤ g z) : y = Y ∧ x = X := by
  obtain ⟨a1, a2, a3, a4, a5⟩ := h
  have e : y = Y := by
    have := a4 X x1 x2
    have := low x a1 a2
    omega
  refine ⟨e, ?_⟩
  rcases Int.lt_trichotomy x X with c | c | c
  · exact absurd (a3.trans e) (lowX x a1 c)
  · exact c
  · exact absurd (gX.trans e.symm) (a5 X x1 c)
theorem great_is {g : Int → Int} {f l y x Y X : Int} (h : GreatAt g f l y x) (x1 : f ≤ X) (x2 : X ≤ l) (gX : g X = Y) (lowX : ∀ z, f ≤ z → z < X → g z ≠ Y) (high : ∀ z, f ≤ z → z ≤ l → g z ≤ Y) : y = Y ∧ x = X := by
  obtain ⟨a1, a2, a3, a4, a5⟩ := h
  have e : y = Y := by
    have := a4 X x1 x2
    have := high x a1 a2
    omega
  refine ⟨e, ?_⟩
  rcases Int.lt_trichotomy x X with c | c | c
  · exact absurd (a3.trans e) (lowX x a1 c)
  · exact c
  · exact absurd (gX.trans e.symm) (a5 X x1 c)
theorem mul_bb {x y : Int} {i j : Nat} (hx : x.natAbs < 2 ^ i) (hy : y.natAbs < 2 ^ j) : (x * y).natAbs < 2 ^ (i + j) := by
  rw [Int.natAbs_mul, Nat.pow_add]
  exact Nat.mul_lt_mul'' hx hy

/-- what is known of the numbers that are drawn -/
structure N10 (wd tw : Nat) (s : Bool) (o a b bg : Int) (n : Nat) : Prop where
  w1 : 1 ≤ wd
  w2 : wd ≤ 128
  tw2 : tw ≤ wd
  o2 : o % 2 = 1
  o0 : 0 ≤ o
  o1 : o < 2 * 2 ^ wd
  ao : (2 : Int) ^ wd ∣ a - o * 2 ^ tw
  a0 : -(2 ^ wd) ≤ a
  a1 : a < 2 ^ wd
  b0 : -(2 * 2 ^ wd) ≤ b
  b1 : b < 2 * 2 ^ wd
  g0 : -(2 * 2 ^ wd) ≤ bg
  g1 : bg < 2 * 2 ^ wd
  n0 : 1 ≤ n
  n1 : n ≤ 1000
theorem D10.num {C : Addr} {n : Nat} {H : Hp} {t kx lt lp le : Addr} {wd tw : Nat} {s : Bool} {o a b bg : Int} (h : D10 C H t kx lt lp le wd tw s o a b bg n) : N10 wd tw s o a b bg n := { h with w2 := h.hk.w2 }
theorem pw_le {i j : Nat} (h : i ≤ j) : (2 : Int) ^ i ≤ 2 ^ j := by
  have := Nat.pow_le_pow_right (n := 2) (by decide) h
  exact_mod_cast this
section
variable {wd tw : Nat} {s : Bool} {o a b bg : Int} {n : Nat}
theorem N10.sd (h : N10 wd tw s o a b bg n) : (SD a ∧ SD b ∧ SD bg ∧ SD (bg + (n : Int) * 2 ^ wd - 1)) ∧ (SD (bg - 2 * 2 ^ wd) ∧ SD (bg + 2 * 2 ^ wd) ∧ BB o ∧ BB b) := by
  obtain ⟨w1, w2, tw2, o2, o0, o1, ao, a0, a1, b0, b1, g0, g1, n0, n1⟩ := h
  have hp := p2 wd
  have q := pw_le w2
  have q60 : (2 : Int) ^ 128 * 10000 ≤ 10 ^ 60 := by decide +kernel
  have q62 : (10 : Int) ^ 60 ≤ 10 ^ 62 := by decide +kernel
  have nS : (n : Int) * 2 ^ wd ≤ 1000 * 2 ^ wd := Int.mul_le_mul_of_nonneg_right (by omega) (Int.le_of_lt hp)
  have nS0 : 0 ≤ (n : Int) * 2 ^ wd := Int.mul_nonneg (by omega) (Int.le_of_lt hp)
  clear ao o2
  refine ⟨⟨⟨?_, ?_⟩, ⟨?_, ?_⟩, ⟨?_, ?_⟩, ⟨?_, ?_⟩⟩, ⟨?_, ?_⟩, ⟨?_, ?_⟩, bb_ten ?_ ?_, bb_ten ?_ ?_⟩ <;> omega
theorem N10.bt (h : N10 wd tw s o a b bg n) : BB (2 ^ tw) ∧ BB (2 ^ (wd - tw)) ∧ BB (n : Int) ∧ BB (2 ^ tw * (n : Int)) := by
  have w2 := h.w2
  have tw2 := h.tw2
  have n1 := h.n1
  have hp := p2 tw
  have q := pw_le (show tw ≤ 128 by omega)
  have q60 : (2 : Int) ^ 128 * 10000 ≤ 10 ^ 62 := by decide +kernel
  have nT : 2 ^ tw * (n : Int) ≤ 2 ^ tw * 1000 := Int.mul_le_mul_of_nonneg_left (by omega) (Int.le_of_lt hp)
  have nT0 : 0 ≤ 2 ^ tw * (n : Int) := Int.mul_nonneg (Int.le_of_lt hp) (by omega)
  exact ⟨bb_pow (by omega), bb_pow (by omega), bb_sm (by omega) (by omega), bb_ten (by omega) (by omega)⟩
theorem N10.ts (h : N10 wd tw s o a b bg n) : 0 < 2 ^ tw * (n : Int) ∧ (2 : Int) ^ wd / 2 ^ tw = 2 ^ (wd - tw) ∧ (2 : Int) ^ wd = 2 ^ tw * 2 ^ (wd - tw) := by
  have hp := p2 tw
  have n0 := h.n0
  have tw2 := h.tw2
  have eS : (2 : Int) ^ wd = 2 ^ tw * 2 ^ (wd - tw) := by rw [← Int.pow_add]; congr 1; omega
  exact ⟨Int.mul_pos hp (by omega), by rw [eS, Int.mul_ediv_cancel_left _ (Int.ne_of_gt hp)], eS⟩
theorem N10.xe (h : N10 wd tw s o a b bg n) {x : Int} (h1 : x < bg + 2 ^ (wd - tw)) : x ≤ bg + (n : Int) * 2 ^ wd - 1 := by
  have n0 := h.n0
  have q := pw_le (show wd - tw ≤ wd by omega)
  have := Int.mul_le_mul_of_nonneg_right (show (1 : Int) ≤ n by omega) (Int.le_of_lt (p2 wd))
  omega
theorem N10.place (h : N10 wd tw s o a b bg n) {g : Int} (g0 : 0 ≤ g) (g1 : g < 2 ^ (wd - tw)) : (loK wd s ≤ loK wd s + ((b - loK wd s) % 2 ^ tw + 2 ^ tw * g) ∧ loK wd s + ((b - loK wd s) % 2 ^ tw + 2 ^ tw * g) ≤ hiK wd s) ∧ (2 : Int) ^ tw ∣ loK wd s + ((b - loK wd s) % 2 ^ tw + 2 ^ tw * g) - b ∧ BB (loK wd s + ((b - loK wd s) % 2 ^ tw + 2 ^ tw * g) - b) ∧ BB g := by
  obtain ⟨w1, w2, tw2, o2, o0, o1, ao, a0, a1, b0, b1, -, -, n0, n1⟩ := h
  clear ao o2 o0 o1 a0 a1 n0 n1
  obtain ⟨z1, z2, z3, z4, z5⟩ := loK_b (s := s) w2
  have hp := p2 wd
  have ht := p2 tw
  have q := pw_le w2
  have ql := pw_le (show wd - tw ≤ 128 by omega)
  have q60 : (2 : Int) ^ 128 * 10000 ≤ 10 ^ 62 := by decide +kernel
  have eS : (2 : Int) ^ wd = 2 ^ tw * 2 ^ (wd - tw) := by rw [← Int.pow_add]; congr 1; omega
  have hh : hiK wd s = loK wd s + 2 ^ wd - 1 := rfl
  have r0 := Int.emod_nonneg (b - loK wd s) (Int.ne_of_gt ht)
  have r1 := Int.emod_lt_of_pos (b - loK wd s) ht
  have gt0 : 0 ≤ 2 ^ tw * g := Int.mul_nonneg (Int.le_of_lt ht) g0
  have gt1 : 2 ^ tw * g ≤ 2 ^ tw * (2 ^ (wd - tw) - 1) := Int.mul_le_mul_of_nonneg_left (by omega) (Int.le_of_lt ht)
  rw [Int.mul_sub, ← eS, Int.mul_one] at gt1
  have dv : (2 : Int) ^ tw ∣ loK wd s + ((b - loK wd s) % 2 ^ tw + 2 ^ tw * g) - b := near_dvd.mp (by rw [show loK wd s + ((b - loK wd s) % 2 ^ tw + 2 ^ tw * g) - (loK wd s + (b - loK wd s) % 2 ^ tw) = 2 ^ tw * g by omega, Int.mul_emod_right])
  refine ⟨⟨by omega, by omega⟩, dv, bb_ten ?_ ?_, bb_ten ?_ ?_⟩ <;> omega
theorem N10.low (h : N10 wd tw s o a b bg n) : (loK wd s ≤ loK wd s + (b - loK wd s) % 2 ^ tw ∧ loK wd s + (b - loK wd s) % 2 ^ tw ≤ hiK wd s) ∧ (2 : Int) ^ tw ∣ loK wd s + (b - loK wd s) % 2 ^ tw - b ∧ BB (loK wd s + (b - loK wd s) % 2 ^ tw - b) := by
  obtain ⟨h1, h2, h3, _⟩ := h.place (Int.le_refl 0) (p2 _)
  rw [Int.mul_zero, Int.add_zero] at h1 h2 h3
  exact ⟨h1, h2, h3⟩
theorem N10.keep (h : N10 wd tw s o a b bg n) {bo to : Int} (bo0 : 0 ≤ bo) (bo1 : bo < 2 ^ wd) (to0 : 0 ≤ to) (to1 : to < 2 ^ wd - bo) : (loK wd s ≤ loK wd s + bo ∧ loK wd s + (bo + to) ≤ hiK wd s ∧ loK wd s + bo ≤ hiK wd s ∧ loK wd s ≤ loK wd s + (bo + to) ∧ loK wd s + bo ≤ loK wd s + (bo + to) + 1) ∧ BB ((bo + to - (b - loK wd s) % 2 ^ tw) / 2 ^ tw - (bo - (b - loK wd s) % 2 ^ tw - 1) / 2 ^ tw) := by
  obtain ⟨w1, w2, tw2, o2, o0, o1, ao, a0, a1, b0, b1, -, -, n0, n1⟩ := h
  clear ao o2 o0 o1 a0 a1 n0 n1
  have ht := p2 tw
  have q := pw_le w2
  have qt := pw_le tw2
  have q60 : (2 : Int) ^ 128 * 10000 ≤ 10 ^ 62 := by decide +kernel
  have hh : hiK wd s = loK wd s + 2 ^ wd - 1 := rfl
  have r0 := Int.emod_nonneg (b - loK wd s) (Int.ne_of_gt ht)
  have r1 := Int.emod_lt_of_pos (b - loK wd s) ht
  have q1 := div_abs (x := bo + to - (b - loK wd s) % 2 ^ tw) ht
  have q2 := div_abs (x := bo - (b - loK wd s) % 2 ^ tw - 1) ht
  refine ⟨⟨by omega, by omega, by omega, by omega, by omega⟩, bb_ten ?_ ?_⟩ <;> omega
theorem bb_lt {x y : Int} (hx : 0 ≤ x) (h : x < y) (hy : BB y) : BB x := by
  unfold BB at *
  omega
end

theorem ediv_is {n d q : Int} (hd : 0 < d) (h1 : d * q ≤ n) (h2 : n < d * q + d) : n / d = q := by
  have e : n = (n - d * q) + d * q := by omega
  rw [e, Int.add_mul_ediv_left _ _ (Int.ne_of_gt hd), Int.ediv_eq_zero_of_lt (by omega) (by omega)]
  omega
section
variable {wd tw : Nat} {s : Bool} {o a b bg : Int} {n : Nat} {w Y X X2 per : Int}
theorem N10.odd (h : N10 wd tw s o a b bg n) : N10 wd 0 s o (o % 2 ^ wd) b bg 1 := by
  have hp := p2 wd
  have r0 := Int.emod_nonneg o (Int.ne_of_gt hp)
  have r1 := Int.emod_lt_of_pos o hp
  have r2 := Int.emod_add_mul_ediv o (2 ^ wd)
  exact { h with tw2 := Nat.zero_le _, ao := ⟨-(o / 2 ^ wd), by rw [Int.pow_zero, Int.mul_neg]; omega⟩, a0 := by omega, a1 := r1, n0 := Nat.le_refl _, n1 := by decide }
theorem lack_ne (sol : Sol (hitP wd s a b w) per X) (p0 : 0 < per) {z : Int} (z1 : X + 1 ≤ z) (z2 : z ≤ X + per - 1) : wr wd s (a * z + b) ≠ w := fun e => by
  have := sol.near p0 (x := z) (by omega) (by omega) (decide_eq_true e)
  omega
theorem lack_other (sol : Sol (hitP wd s a b w) per X) (sol2 : Sol (hitP wd s a b Y) per X2) (ne : Y ≠ w) (h1 : X + 1 ≤ X2) (h2 : X2 < X + 1 + per) : X2 ≤ X + per - 1 := by
  by_cases c : X2 = X + per
  · have e1 := sol.shift X
    rw [sol.self, ← c] at e1
    have e2 := of_decide_eq_true e1
    have e3 := of_decide_eq_true sol2.self
    exact absurd (e3.symm.trans e2) ne
  · omega
theorem N10.lackb (h : N10 wd 0 s o a b bg 1) (x1 : bg ≤ X) (x2 : X < bg + 2 ^ wd) : SD (X + 1) ∧ SD (X + 2 ^ wd - 1) ∧ BB (X + 1) ∧ X + 1 ≤ X + 2 ^ wd - 1 := by
  obtain ⟨-, ⟨l1, l2⟩, ⟨u1, u2⟩, -, -⟩ := h.sd
  have hp := p2 wd
  have w1 := h.w1
  have e := pw_le (show 1 ≤ wd from w1)
  have e2 : (2 : Int) ^ 1 = 2 := rfl
  have s1 : SD (X + 1) := ⟨by omega, by omega⟩
  exact ⟨s1, ⟨by omega, by omega⟩, s1.bb, by omega⟩
theorem lack_ds (a0 : 0 ≤ a) (a1 : a < 2 ^ wd) (w1 : 1 ≤ wd) {pl : Int} (p0 : 0 ≤ pl) (p1 : pl < 2 ^ wd) (hX : wr wd s (a * X + b) = loK wd s + pl) : tot (dsP wd s a b) (X + 1) (X + 2 ^ wd - 1) = a - (if decide (2 ^ wd ≤ pl + a) = true then 1 else 0) := by
  have hp := p2 wd
  have e := ds_turns (wd := wd) (s := s) (a := a) (b := b) (bg := X) 1
  rw [show ((1 : Nat) : Int) = 1 from rfl, Int.one_mul, Int.one_mul, Int.emod_eq_of_lt a0 a1] at e
  have q := tot_split (dsP wd s a b) (first := X) (mid := X) (last := X + 2 ^ wd - 1) (by omega) (by omega)
  rw [tot_sing, e] at q
  have f := dsP_pos (wd := wd) (s := s) (b := b) a0 a1 X
  have g := wr_q wd s (a * X + b)
  rw [hX] at g
  rw [show a * (X + 1) + b - loK wd s = (pl + a) + 2 ^ wd * ((a * X + b - loK wd s) / 2 ^ wd) by rw [Int.mul_add, Int.mul_one]; omega, Int.add_mul_ediv_left _ _ (Int.ne_of_gt hp)] at f
  by_cases c : 2 ^ wd ≤ pl + a
  · rw [ediv_is (d := 2 ^ wd) (n := pl + a) (q := 1) hp (by omega) (by omega)] at f
    rw [if_pos (decide_eq_true c)]; omega
  · rw [Int.ediv_eq_zero_of_lt (by omega) (by omega)] at f
    rw [if_neg (by rw [decide_eq_true_eq]; exact c)]; omega
end
structure Txt (K : PySem.W.Frag) (mg : Str → Option Value) where
  C_Walk : Addr
  cl_Walk : Cls K C_Walk
  g_Walk : mg "Walk" = some (.ref C_Walk)
  na_Walk_size : NoAttr K C_Walk "size"
  na_Walk_step : NoAttr K C_Walk "step"
  na_Walk_marks : NoAttr K C_Walk "marks"
  na_Walk_each : NoAttr K C_Walk "each"
  na_Walk_marked : NoAttr K C_Walk "marked"
  na_Walk_around : NoAttr K C_Walk "around"
  ia_Walk : PySem.W.findIn K (.ref C_Walk) "__class__" = some (some (.builtin "object.__class__"))
  ib_Walk : PySem.W.specialIn K (.builtin "object.__class__") "__get__" = some (some (.builtin "getset_descriptor.__get__"))
  ic_Walk : PySem.W.takesIn K (.builtin "object.__class__") = some true
  id_Walk : PySem.W.mroIn K C_Walk (.type "object") = some true
  C_Kind : Addr
  cl_Kind : Cls K C_Kind
  g_Kind : mg "Kind" = some (.ref C_Kind)
  na_Kind_bits : NoAttr K C_Kind "bits"
  na_Kind_is_signed : NoAttr K C_Kind "is_signed"
  ia_Kind : PySem.W.findIn K (.ref C_Kind) "__class__" = some (some (.builtin "object.__class__"))
  ib_Kind : PySem.W.specialIn K (.builtin "object.__class__") "__get__" = some (some (.builtin "getset_descriptor.__get__"))
  ic_Kind : PySem.W.takesIn K (.builtin "object.__class__") = some true
  id_Kind : PySem.W.mroIn K C_Kind (.type "object") = some true
  f_Walk___init__ : Addr
  fd_Walk___init__ : FuncData
  F_Walk___init__ : Fun K "__init__" "Walk.__init__" s_Walk___init__ f_Walk___init__ fd_Walk___init__
  b_Walk___init__ : Binds K fd_Walk___init__ ["self", "size", "step", "marks", "each", "marked", "around"] []
  f_Walk_mirrored : Addr
  fd_Walk_mirrored : FuncData
  F_Walk_mirrored : Fun K "mirrored" "Walk.mirrored" s_Walk_mirrored f_Walk_mirrored fd_Walk_mirrored
  b_Walk_mirrored : Binds K fd_Walk_mirrored ["self"] []
  f_Walk_of_laps : Addr
  fd_Walk_of_laps : FuncData
  F_Walk_of_laps : Fun K "of_laps" "Walk.of_laps" s_Walk_of_laps f_Walk_of_laps fd_Walk_of_laps
  b_Walk_of_laps : Binds K fd_Walk_of_laps ["self"] []
  f_Walk_marked_steps : Addr
  fd_Walk_marked_steps : FuncData
  F_Walk_marked_steps : Fun K "marked_steps" "Walk.marked_steps" s_Walk_marked_steps f_Walk_marked_steps fd_Walk_marked_steps
  b_Walk_marked_steps : Binds K fd_Walk_marked_steps ["self", "begin"] []
  f_Walk_cost : Addr
  fd_Walk_cost : FuncData
  F_Walk_cost : Fun K "cost" "Walk.cost" s_Walk_cost f_Walk_cost fd_Walk_cost
  b_Walk_cost : Binds K fd_Walk_cost ["self", "begin", "steps"] []
  f_Walk_steps_for : Addr
  fd_Walk_steps_for : FuncData
  F_Walk_steps_for : Fun K "steps_for" "Walk.steps_for" s_Walk_steps_for f_Walk_steps_for fd_Walk_steps_for
  b_Walk_steps_for : Binds K fd_Walk_steps_for ["self", "begin", "budget"] []
  f__steps_to_visit : Addr
  fd__steps_to_visit : FuncData
  F__steps_to_visit : Fun K "_steps_to_visit" "_steps_to_visit" s__steps_to_visit f__steps_to_visit fd__steps_to_visit
  b__steps_to_visit : Binds K fd__steps_to_visit ["size", "step", "marks", "place", "j"] []
  g__steps_to_visit : mg "_steps_to_visit" = some (.ref f__steps_to_visit)
  k__steps_to_visit : PySem.W.keepIn K (.ref f__steps_to_visit) = true
  f_hit_at : Addr
  fd_hit_at : FuncData
  F_hit_at : Fun K "hit_at" "hit_at" s_hit_at f_hit_at fd_hit_at
  b_hit_at : Binds K fd_hit_at ["line", "size", "first", "low", "high", "j"] []
  g_hit_at : mg "hit_at" = some (.ref f_hit_at)
  k_hit_at : PySem.W.keepIn K (.ref f_hit_at) = true
  f_is_integer : Addr
  fd_is_integer : FuncData
  F_is_integer : Fun K "is_integer" "is_integer" s_is_integer f_is_integer fd_is_integer
  b_is_integer : Binds K fd_is_integer ["value"] []
  g_is_integer : mg "is_integer" = some (.ref f_is_integer)
  k_is_integer : PySem.W.keepIn K (.ref f_is_integer) = true
  f_is_sixty_digits : Addr
  fd_is_sixty_digits : FuncData
  F_is_sixty_digits : Fun K "is_sixty_digits" "is_sixty_digits" s_is_sixty_digits f_is_sixty_digits fd_is_sixty_digits
  b_is_sixty_digits : Binds K fd_is_sixty_digits ["value"] []
  g_is_sixty_digits : mg "is_sixty_digits" = some (.ref f_is_sixty_digits)
  k_is_sixty_digits : PySem.W.keepIn K (.ref f_is_sixty_digits) = true
  f_check_sixty_digits : Addr
  fd_check_sixty_digits : FuncData
  F_check_sixty_digits : Fun K "check_sixty_digits" "check_sixty_digits" s_check_sixty_digits f_check_sixty_digits fd_check_sixty_digits
  b_check_sixty_digits : Binds K fd_check_sixty_digits ["value", "argument"] []
  g_check_sixty_digits : mg "check_sixty_digits" = some (.ref f_check_sixty_digits)
  k_check_sixty_digits : PySem.W.keepIn K (.ref f_check_sixty_digits) = true
  f_is_count : Addr
  fd_is_count : FuncData
  F_is_count : Fun K "is_count" "is_count" s_is_count f_is_count fd_is_count
  b_is_count : Binds K fd_is_count ["value"] []
  g_is_count : mg "is_count" = some (.ref f_is_count)
  k_is_count : PySem.W.keepIn K (.ref f_is_count) = true
  f_check_number : Addr
  fd_check_number : FuncData
  F_check_number : Fun K "check_number" "check_number" s_check_number f_check_number fd_check_number
  b_check_number : Binds K fd_check_number ["j", "total"] []
  g_check_number : mg "check_number" = some (.ref f_check_number)
  k_check_number : PySem.W.keepIn K (.ref f_check_number) = true
  f_Kind___init__ : Addr
  fd_Kind___init__ : FuncData
  F_Kind___init__ : Fun K "__init__" "Kind.__init__" s_Kind___init__ f_Kind___init__ fd_Kind___init__
  b_Kind___init__ : Binds K fd_Kind___init__ ["self", "bits", "is_signed"] []
  f_check_kind : Addr
  fd_check_kind : FuncData
  F_check_kind : Fun K "check_kind" "check_kind" s_check_kind f_check_kind fd_check_kind
  b_check_kind : Binds K fd_check_kind ["kind"] []
  g_check_kind : mg "check_kind" = some (.ref f_check_kind)
  k_check_kind : PySem.W.keepIn K (.ref f_check_kind) = true
  f_check_value : Addr
  fd_check_value : FuncData
  F_check_value : Fun K "check_value" "check_value" s_check_value f_check_value fd_check_value
  b_check_value : Binds K fd_check_value ["kind", "x", "argument"] []
  g_check_value : mg "check_value" = some (.ref f_check_value)
  k_check_value : PySem.W.keepIn K (.ref f_check_value) = true
  f_least : Addr
  fd_least : FuncData
  F_least : Fun K "least" "least" s_least f_least fd_least
  b_least : Binds K fd_least ["kind"] []
  g_least : mg "least" = some (.ref f_least)
  k_least : PySem.W.keepIn K (.ref f_least) = true
  f_greatest : Addr
  fd_greatest : FuncData
  F_greatest : Fun K "greatest" "greatest" s_greatest f_greatest fd_greatest
  b_greatest : Binds K fd_greatest ["kind"] []
  g_greatest : mg "greatest" = some (.ref f_greatest)
  k_greatest : PySem.W.keepIn K (.ref f_greatest) = true
  f_is_value : Addr
  fd_is_value : FuncData
  F_is_value : Fun K "is_value" "is_value" s_is_value f_is_value fd_is_value
  b_is_value : Binds K fd_is_value ["kind", "x"] []
  g_is_value : mg "is_value" = some (.ref f_is_value)
  k_is_value : PySem.W.keepIn K (.ref f_is_value) = true
  f_quotient_total : Addr
  fd_quotient_total : FuncData
  F_quotient_total : Fun K "quotient_total" "quotient_total" s_quotient_total f_quotient_total fd_quotient_total
  b_quotient_total : Binds K fd_quotient_total ["line", "size", "first", "last"] []
  g_quotient_total : mg "quotient_total" = some (.ref f_quotient_total)
  k_quotient_total : PySem.W.keepIn K (.ref f_quotient_total) = true
  f_total_between : Addr
  fd_total_between : FuncData
  F_total_between : Fun K "total_between" "total_between" s_total_between f_total_between fd_total_between
  b_total_between : Binds K fd_total_between ["line", "size", "first", "last", "low", "high"] []
  g_total_between : mg "total_between" = some (.ref f_total_between)
  k_total_between : PySem.W.keepIn K (.ref f_total_between) = true
  f_least_remainder : Addr
  fd_least_remainder : FuncData
  F_least_remainder : Fun K "least_remainder" "least_remainder" s_least_remainder f_least_remainder fd_least_remainder
  b_least_remainder : Binds K fd_least_remainder ["line", "size", "first", "last"] []
  g_least_remainder : mg "least_remainder" = some (.ref f_least_remainder)
  k_least_remainder : PySem.W.keepIn K (.ref f_least_remainder) = true
  f_check_line : Addr
  fd_check_line : FuncData
  F_check_line : Fun K "check_line" "check_line" s_check_line f_check_line fd_check_line
  b_check_line : Binds K fd_check_line ["line", "argument"] []
  g_check_line : mg "check_line" = some (.ref f_check_line)
  k_check_line : PySem.W.keepIn K (.ref f_check_line) = true
  f_check_range : Addr
  fd_check_range : FuncData
  F_check_range : Fun K "check_range" "check_range" s_check_range f_check_range fd_check_range
  b_check_range : Binds K fd_check_range ["first", "last"] []
  g_check_range : mg "check_range" = some (.ref f_check_range)
  k_check_range : PySem.W.keepIn K (.ref f_check_range) = true
  f__check : Addr
  fd__check : FuncData
  F__check : Fun K "_check" "_check" s__check f__check fd__check
  b__check : Binds K fd__check ["kind", "line", "first", "last"] []
  g__check : mg "_check" = some (.ref f__check)
  k__check : PySem.W.keepIn K (.ref f__check) = true
  f__check_within : Addr
  fd__check_within : FuncData
  F__check_within : Fun K "_check_within" "_check_within" s__check_within f__check_within fd__check_within
  b__check_within : Binds K fd__check_within ["kind", "line", "first", "last", "low", "high"] []
  g__check_within : mg "_check_within" = some (.ref f__check_within)
  k__check_within : PySem.W.keepIn K (.ref f__check_within) = true
  f__total : Addr
  fd__total : FuncData
  F__total : Fun K "_total" "_total" s__total f__total fd__total
  b__total : Binds K fd__total ["kind", "line", "first", "last", "low", "high"] []
  g__total : mg "_total" = some (.ref f__total)
  k__total : PySem.W.keepIn K (.ref f__total) = true
  f__hit : Addr
  fd__hit : FuncData
  F__hit : Fun K "_hit" "_hit" s__hit f__hit fd__hit
  b__hit : Binds K fd__hit ["kind", "line", "first", "low", "high", "j"] []
  g__hit : mg "_hit" = some (.ref f__hit)
  k__hit : PySem.W.keepIn K (.ref f__hit) = true
  f_total_within : Addr
  fd_total_within : FuncData
  F_total_within : Fun K "total_within" "total_within" s_total_within f_total_within fd_total_within
  b_total_within : Binds K fd_total_within ["kind", "line", "first", "last", "low", "high"] []
  g_total_within : mg "total_within" = some (.ref f_total_within)
  k_total_within : PySem.W.keepIn K (.ref f_total_within) = true
  f_first_within : Addr
  fd_first_within : FuncData
  F_first_within : Fun K "first_within" "first_within" s_first_within f_first_within fd_first_within
  b_first_within : Binds K fd_first_within ["kind", "line", "first", "last", "low", "high"] []
  g_first_within : mg "first_within" = some (.ref f_first_within)
  k_first_within : PySem.W.keepIn K (.ref f_first_within) = true
  f_within_at : Addr
  fd_within_at : FuncData
  F_within_at : Fun K "within_at" "within_at" s_within_at f_within_at fd_within_at
  b_within_at : Binds K fd_within_at ["kind", "line", "first", "last", "low", "high", "j"] []
  g_within_at : mg "within_at" = some (.ref f_within_at)
  k_within_at : PySem.W.keepIn K (.ref f_within_at) = true
  f_least_result : Addr
  fd_least_result : FuncData
  F_least_result : Fun K "least_result" "least_result" s_least_result f_least_result fd_least_result
  b_least_result : Binds K fd_least_result ["kind", "line", "first", "last"] []
  g_least_result : mg "least_result" = some (.ref f_least_result)
  k_least_result : PySem.W.keepIn K (.ref f_least_result) = true
  f_greatest_result : Addr
  fd_greatest_result : FuncData
  F_greatest_result : Fun K "greatest_result" "greatest_result" s_greatest_result f_greatest_result fd_greatest_result
  b_greatest_result : Binds K fd_greatest_result ["kind", "line", "first", "last"] []
  g_greatest_result : mg "greatest_result" = some (.ref f_greatest_result)
  k_greatest_result : PySem.W.keepIn K (.ref f_greatest_result) = true
  f__falling : Addr
  fd__falling : FuncData
  F__falling : Fun K "_falling" "_falling" s__falling f__falling fd__falling
  b__falling : Binds K fd__falling ["kind", "line"] []
  g__falling : mg "_falling" = some (.ref f__falling)
  k__falling : PySem.W.keepIn K (.ref f__falling) = true
  f_descents : Addr
  fd_descents : FuncData
  F_descents : Fun K "descents" "descents" s_descents f_descents fd_descents
  b_descents : Binds K fd_descents ["kind", "line", "first", "last"] []
  g_descents : mg "descents" = some (.ref f_descents)
  k_descents : PySem.W.keepIn K (.ref f_descents) = true
  f__law_deck : Addr
  fd__law_deck : FuncData
  F__law_deck : Fun K "_law_deck" "_law_deck" s__law_deck f__law_deck fd__law_deck
  b__law_deck : Binds K fd__law_deck ["_law_cell"] []
  g__law_deck : mg "_law_deck" = some (.ref f__law_deck)
  k__law_deck : PySem.W.keepIn K (.ref f__law_deck) = true
  f__law_deal : Addr
  fd__law_deal : FuncData
  F__law_deal : Fun K "_law_deal" "_law_deal" s__law_deal f__law_deal fd__law_deal
  b__law_deal : Binds K fd__law_deal ["_law_deck_here", "_law_many"] []
  g__law_deal : mg "_law_deal" = some (.ref f__law_deal)
  k__law_deal : PySem.W.keepIn K (.ref f__law_deal) = true
  f__law_choice : Addr
  fd__law_choice : FuncData
  F__law_choice : Fun K "_law_choice" "_law_choice" s__law_choice f__law_choice fd__law_choice
  b__law_choice : Binds K fd__law_choice ["_law_deck_here", "_law_some"] []
  g__law_choice : mg "_law_choice" = some (.ref f__law_choice)
  k__law_choice : PySem.W.keepIn K (.ref f__law_choice) = true
  f__law_great : Addr
  fd__law_great : FuncData
  F__law_great : Fun K "_law_great" "_law_great" s__law_great f__law_great fd__law_great
  b__law_great : Binds K fd__law_great ["_law_deck_here", "_law_most"] []
  g__law_great : mg "_law_great" = some (.ref f__law_great)
  k__law_great : PySem.W.keepIn K (.ref f__law_great) = true
  f__law_inverse : Addr
  fd__law_inverse : FuncData
  F__law_inverse : Fun K "_law_inverse" "_law_inverse" s__law_inverse f__law_inverse fd__law_inverse
  b__law_inverse : Binds K fd__law_inverse ["_law_n", "_law_bits"] []
  g__law_inverse : mg "_law_inverse" = some (.ref f__law_inverse)
  k__law_inverse : PySem.W.keepIn K (.ref f__law_inverse) = true
  f__law_there : Addr
  fd__law_there : FuncData
  F__law_there : Fun K "_law_there" "_law_there" s__law_there f__law_there fd__law_there
  b__law_there : Binds K fd__law_there ["_law_parts", "_law_far", "_law_begin"] []
  g__law_there : mg "_law_there" = some (.ref f__law_there)
  k__law_there : PySem.W.keepIn K (.ref f__law_there) = true
  f__law_drawn : Addr
  fd__law_drawn : FuncData
  F__law_drawn : Fun K "_law_drawn" "_law_drawn" s__law_drawn f__law_drawn fd__law_drawn
  b__law_drawn : Binds K fd__law_drawn ["_law_deck_here"] []
  g__law_drawn : mg "_law_drawn" = some (.ref f__law_drawn)
  k__law_drawn : PySem.W.keepIn K (.ref f__law_drawn) = true
  f__law_right : Addr
  fd__law_right : FuncData
  F__law_right : Fun K "_law_right" "_law_right" s__law_right f__law_right fd__law_right
  b__law_right : Binds K fd__law_right ["_law_deck_here"] []
  g__law_right : mg "_law_right" = some (.ref f__law_right)
  k__law_right : PySem.W.keepIn K (.ref f__law_right) = true
  f__law_all_but_one_right : Addr
  fd__law_all_but_one_right : FuncData
  F__law_all_but_one_right : Fun K "_law_all_but_one_right" "_law_all_but_one_right" s__law_all_but_one_right f__law_all_but_one_right fd__law_all_but_one_right
  b__law_all_but_one_right : Binds K fd__law_all_but_one_right ["_law_deck_here"] []
  g__law_all_but_one_right : mg "_law_all_but_one_right" = some (.ref f__law_all_but_one_right)
  k__law_all_but_one_right : PySem.W.keepIn K (.ref f__law_all_but_one_right) = true
  f_law : Addr
  fd_law : FuncData
  F_law : Fun K "law" "law" s_law f_law fd_law
  b_law : Binds K fd_law ["_law_script"] []
  g_law : mg "law" = some (.ref f_law)
  k_law : PySem.W.keepIn K (.ref f_law) = true
  mk_Walk : Mk K C_Walk f_Walk___init__
  mk_Kind : Mk K C_Kind f_Kind___init__
  m_Walk_cost : Meth K C_Walk "cost" f_Walk_cost
  m_Walk_marked_steps : Meth K C_Walk "marked_steps" f_Walk_marked_steps
  m_Walk_mirrored : Meth K C_Walk "mirrored" f_Walk_mirrored
  m_Walk_of_laps : Meth K C_Walk "of_laps" f_Walk_of_laps
  m_Walk_steps_for : Meth K C_Walk "steps_for" f_Walk_steps_for
  t_BEYOND_SIXTY_DIGITS : Tok
  g_BEYOND_SIXTY_DIGITS : mg "BEYOND_SIXTY_DIGITS" = some (.int 1000000000000000000000000000000000000000000000000000000000000 t_BEYOND_SIXTY_DIGITS)
  t_MOST_BITS : Tok
  g_MOST_BITS : mg "MOST_BITS" = some (.int 128 t_MOST_BITS)
  n_abs : mg "abs" = none
  n_bool : mg "bool" = none
  n_divmod : mg "divmod" = none
  n_int : mg "int" = none
  n_isinstance : mg "isinstance" = none
  n_len : mg "len" = none
  n_max : mg "max" = none
  n_min : mg "min" = none
  n_range : mg "range" = none
  n_reversed : mg "reversed" = none
  n_tuple : mg "tuple" = none
  bl_law : ∀ (s : Shared) (v : Value), BindsTo s fd_law ⟨[v], []⟩ [("_law_script", v)]

section
variable {K : PySem.W.Frag} {mg : Str → Option Value} {H : Hp} {Q : VK} {C p : Addr} {wd : Nat} {s : Bool}
theorem w_isi {v : V} {t c : String} {b : Bool} (ty : TyX K H v (.type t)) (e : kitB t c = some b) (q : Q (.bl b) H) : rIsi K [v, .ty c] H Q := ⟨_, _, _, _, b, rfl, .ty c, ty, kit_ty e, q⟩
theorem w_isK (T : Txt K mg) (k : Kd T.C_Kind H p wd s) (q : Q (.bl true) H) : rIsi K [.ref p, .ref T.C_Kind] H Q := by
  obtain ⟨⟨dx, e⟩, _, _⟩ := k
  exact ⟨_, _, _, _, true, rfl, .own _, .base (.ins e T.cl_Kind T.ia_Kind T.ib_Kind T.ic_Kind T.id_Kind), (by unfold PySem.W.kitOne; rw [if_pos (by simp)]), q⟩
theorem w_fb {i : Nat} {σ : L2.St} (T : Txt K mg) (hs : σ[i]? = some (some (.ref p))) (k : Kd T.C_Kind H p wd s) (q : Q (.int (wd : Int)) H) : tFld K (tVar i) "bits" σ H Q := by
  obtain ⟨⟨dx, e⟩, _, _⟩ := k
  exact ⟨_, hs, p, _, dx, _, _, rfl, e, T.cl_Kind, T.na_Kind_bits, kf_bits _ _, q⟩
theorem w_fs {i : Nat} {σ : L2.St} (T : Txt K mg) (hs : σ[i]? = some (some (.ref p))) (k : Kd T.C_Kind H p wd s) (q : Q (.bl s) H) : tFld K (tVar i) "is_signed" σ H Q := by
  obtain ⟨⟨dx, e⟩, _, _⟩ := k
  exact ⟨_, hs, p, _, dx, _, _, rfl, e, T.cl_Kind, T.na_Kind_is_signed, kf_sign _ _, q⟩
end


section
variable {K : PySem.W.Frag} {H : Hp} {σ : L2.St} {Q : VK}
theorem w_iTup {tl : TE} {R : It → Hp → Prop} (q : tl σ H fun x H1 => ∃ a, x = .ref a ∧ (∃ xs, SqT K H1 a xs) ∧ R (Itt K a) H1) : iTup K tl σ H R := q
theorem w_eqD {x y : V} {d e : PyData} (hx : Dp K H x d) (hy : Dp K H y e) (sd : SeqAt.shaped d = true) (se : SeqAt.shaped e = true) (q : Q (.bl (PyData.eqv d e)) H) : rEqD K x y H Q := ⟨d, e, hx, hy, sd, se, q⟩
theorem w_neD {x y : V} {d e : PyData} (hx : Dp K H x d) (hy : Dp K H y e) (sd : SeqAt.shaped d = true) (se : SeqAt.shaped e = true) (q : Q (.bl (!PyData.eqv d e)) H) : rNeD K x y H Q := ⟨d, e, hx, hy, sd, se, q⟩
end

section
variable {K : PySem.W.Frag} {H : Hp} {σ : L2.St} {Q : VK}
theorem w_neL {a b : Addr} {is js : List Int} (ha : H a = some (.lst (is.map V.int))) (hb : H b = some (.lst (js.map V.int))) (q : Q (.bl (!decide (is = js))) H) : rNeD K (.ref a) (.ref b) H Q :=
  ⟨_, _, .lst (SqL.of ha) (dp_ints is), .lst (SqL.of hb) (dp_ints js), shaped_ints is, shaped_ints js, by
    rw [show PyData.eqv (.list (is.map PyData.int)) (.list (js.map PyData.int)) = PyData.eqvAll (is.map PyData.int) (js.map PyData.int) from by simp only [PyData.eqv], eqv_ints]
    exact q⟩
theorem w_eqL {a b : Addr} {is js : List Int} (ha : H a = some (.lst (is.map V.int))) (hb : H b = some (.lst (js.map V.int))) (q : Q (.bl (decide (is = js))) H) : rEqD K (.ref a) (.ref b) H Q :=
  ⟨_, _, .lst (SqL.of ha) (dp_ints is), .lst (SqL.of hb) (dp_ints js), shaped_ints is, shaped_ints js, by
    rw [show PyData.eqv (.list (is.map PyData.int)) (.list (js.map PyData.int)) = PyData.eqvAll (is.map PyData.int) (js.map PyData.int) from by simp only [PyData.eqv], eqv_ints]
    exact q⟩
theorem w_vals {c : Prop} [Decidable c] {ta tb : TE} (R : V → Hp → Prop) (h1 : c → ∀ Q : VK, (∀ x H', R x H' → Q x H') → ta σ H Q) (h2 : ¬ c → ∀ Q : VK, (∀ x H', R x H' → Q x H') → tb σ H Q) (q : ∀ x H', R x H' → Q x H') : if decide c = true then ta σ H Q else tb σ H Q := w_dec (fun z => h1 z Q q) (fun z => h2 z Q q)
theorem w_gunl {n : Nat} {t : TGs} {a : Addr} {xs : List V} {Q : L2.St → Hp → Prop} (h : H a = some (.lst xs)) (l : xs.length = n) (q : t xs σ H Q) : gUnl K n t (.ref a) σ H Q := ⟨a, xs, rfl, SqL.of h, l, q⟩
theorem w_iRngL {ta : TA} {R : It → Hp → Prop} (q : ta σ H fun vs H1 => ∃ i j : Int, vs = [.int i, .int j] ∧ R (Itr i (j - i).toNat) H1) : iRngL ta σ H R := q
theorem w_sum {a : Addr} {ns : List Int} (h : H a = some (.lst (ns.map V.int))) (q : Q (.int ns.sum) H) : rSum K [.ref a] H Q := ⟨a, ns, rfl, SqL.of h, q⟩
theorem w_neOpt {x y : V} (hx : x = .non ∨ ∃ i, x = .int i) (hy : y = .non ∨ ∃ i, y = .int i) (q : Q (.bl (!decide (x = y))) H) : rNe x y H Q := ⟨by
  rcases hx with rfl | ⟨i, rfl⟩ <;> rcases hy with rfl | ⟨j, rfl⟩ <;> rfl, q⟩
theorem w_eqOpt {x y : V} (hx : x = .non ∨ ∃ i, x = .int i) (hy : y = .non ∨ ∃ i, y = .int i) (q : Q (.bl (decide (x = y))) H) : rEq x y H Q := ⟨by
  rcases hx with rfl | ⟨i, rfl⟩ <;> rcases hy with rfl | ⟨j, rfl⟩ <;> rfl, q⟩
end
theorem at_m1 {xs : List V} {v : V} (h : xs[xs.length - 1]? = some v) : atI xs (-1) = some v := by
  have hne : xs ≠ [] := fun z => by rw [z] at h; cases h
  have e := (List.dropLast_concat_getLast hne).symm
  rw [e] at h ⊢
  rw [List.length_append, List.length_singleton, Nat.add_sub_cancel, List.getElem?_append_right (Nat.le_refl _), Nat.sub_self] at h
  rw [← Option.some.inj h]
  exact atI_last _ _
theorem FirstOf.opt {p : Int → Bool} {f l : Int} {v : V} (h : FirstOf p f l v) : v = .non ∨ ∃ i, v = .int i := by
  rcases h with ⟨h, _⟩ | ⟨x, h, _⟩
  · exact .inl h
  · exact .inr ⟨x, h⟩
theorem LastOf.opt {p : Int → Bool} {f l : Int} {v : V} (h : LastOf p f l v) : v = .non ∨ ∃ i, v = .int i := by
  rcases h with ⟨h, _⟩ | ⟨x, h, _⟩
  · exact .inl h
  · exact .inr ⟨x, h⟩
theorem first_nil {p : Int → Bool} {f l : Int} {n : Nat} {v : V} (h : l - f + 1 = n) (e : wl p f n = []) (hf : FirstOf p f l v) : v = .non := by
  rcases hf with ⟨h1, _⟩ | ⟨x, _, x1, x2, px, _⟩
  · exact h1
  · have : x ∈ wl p f n := wl_mem.mpr ⟨x1, by omega, px⟩
    rw [e] at this; cases this
theorem last_nil {p : Int → Bool} {f l : Int} {n : Nat} {v : V} (h : l - f + 1 = n) (e : wl p f n = []) (hf : LastOf p f l v) : v = .non := by
  rcases hf with ⟨h1, _⟩ | ⟨x, _, x1, x2, px, _⟩
  · exact h1
  · have : x ∈ wl p f n := wl_mem.mpr ⟨x1, by omega, px⟩
    rw [e] at this; cases this
theorem first_get {p : Int → Bool} {f l : Int} {n : Nat} {v : V} {y : Int} (h : l - f + 1 = n) (e : (wl p f n)[0]? = some y) (hf : FirstOf p f l v) : v = .int y := by
  rcases hf with ⟨_, h0⟩ | ⟨x, rfl, x1, x2, px, x3⟩
  · rw [(wl_nil h).mpr h0] at e; cases e
  · rw [wl_at e x1 px x3]
theorem last_get {p : Int → Bool} {f l : Int} {n : Nat} {v : V} {y : Int} (h : l - f + 1 = n) (e : (wl p f n)[(wl p f n).length - 1]? = some y) (hf : LastOf p f l v) : v = .int y := by
  rcases hf with ⟨_, h0⟩ | ⟨x, rfl, x1, x2, px, x3⟩
  · rw [(wl_nil h).mpr h0] at e; cases e
  · have t := wl_tot (p := p) h
    have s := tot_split p (first := f) (mid := x) (last := l) (by omega) x2
    rw [x3, tot_step p x1, if_pos px] at s
    have nn := tot_nonneg p f (x - 1)
    have yj : tot p f (x - 1) = (((wl p f n).length - 1 : Nat) : Int) := by omega
    rw [wl_at e x1 px yj]

section
variable {K : PySem.W.Frag} {mg : Str → Option Value} {H : Hp} {Q : VK} {p : Addr} {w : Wk}
theorem w_fW {i : Nat} {σ : L2.St} {f : Str} {v : V} (T : Txt K mg) (hs : σ[i]? = some (some (.ref p))) (k : Wd T.C_Walk H p w) (n : NoAttr K T.C_Walk f) (e : (wkf w).lookup f = some v) (q : Q v H) : tFld K (tVar i) f σ H Q := by
  obtain ⟨dx, h⟩ := k
  exact ⟨_, hs, p, _, dx, _, _, rfl, h, T.cl_Walk, n, e, q⟩
end

theorem w_mW {K : PySem.W.Frag} {mg : Str → Option Value} {H : Hp} {C : Addr} {p : Addr} {w : Wk} {f : Str} {P : Addr → Addr → List (Str × V) → Prop} (k : Wd C H p w) (e : (wkf w).lookup f = none) (q : ∀ dx, P p dx (wkf w)) : ∃ a dx fs, V.ref p = .ref a ∧ H a = some (.ins C dx fs) ∧ fs.lookup f = none ∧ P a dx fs := by
  obtain ⟨dx, h⟩ := k
  exact ⟨p, dx, _, rfl, h, e, q dx⟩
section
variable {K : PySem.W.Frag} {H : Hp} {Q : VK}
theorem ne_pair {q r : Addr} {n l : Int} (h1 : H q = some (.tup [.int n, .int l])) (h2 : H r = some (.tup [.int n, .int l])) (k : Q (.bl false) H) : rNeD K (.ref q) (.ref r) H Q := by
  refine w_neD (dp_pair h1) (dp_pair h2) (sh_pair _ _) (sh_pair _ _) ?_
  rw [eqv_pair]; exact k
theorem eq_pair {q r : Addr} {n l : Int} (h1 : H q = some (.tup [.int n, .int l])) (h2 : H r = some (.tup [.int n, .int l])) (k : Q (.bl true) H) : rEqD K (.ref q) (.ref r) H Q := by
  refine w_eqD (dp_pair h1) (dp_pair h2) (sh_pair _ _) (sh_pair _ _) ?_
  rw [eqv_pair]; exact k
end
theorem kbinds_of {K : PySem.W.Frag} {x qual : Str} {st : Stmt} {f : Addr} {fd : FuncData} {ps ks : List Str} {g : List Value → List Value → List Value} {gV : List V → List V → List V} (F : Fun K x qual st f fd)
    (h : ∀ (kV doc pm : Value) (an : Option Addr) (cdv ct : Value) (us ws : List Value), (g us ws).length = ps.length → bindArgs (PySem.W.fnOf x qual (defArgs st) (defBody st) (defScope st) .none kV doc pm an cdv ct) ⟨us, ks.zip ws⟩ = pure (ps.zip (g us ws)))
    (hrel : ∀ {vs : List V} {us : List Value} {zs : List V} {ws : List Value}, Vals vs us → Vals zs ws → Vals (gV vs zs) (g us ws)) : KBinds K fd ps ks g gV := by
  obtain ⟨oc, od, kV, doc, pm, an, cdv, ct, osl, rfl, lk, hcd⟩ := F.ex
  exact ⟨fun s us ws _ hl => .of_eq (h kV doc pm an cdv ct us ws hl), hrel⟩
local macro_rules | `(tactic| walk_at "kq") => `(tactic| first
  | exact Fw.Kq.refl _
  | assumption
  | (refine Fw.Kq.new ?_ (by assumption); walk_at "kq")
  | (refine Fw.Kq.trans ?_ (by assumption); walk_at "kq")
  | (refine Fw.Kq.sm ?_ (by assumption); walk_at "kq")
  | (refine Fw.Kq.same ?_ (by assumption); walk_at "kq"))
def sp_Walk___init__ (K : PySem.W.Frag) (C : Addr) (C_Walk : Addr) (TS : List (Addr × Str)) : Sp := fun vs H Q _ => ∃ (p : Addr) (w : Wk), vs = [.ref p, .int w.s, .int w.t, .int w.m, .int w.e, .int w.k, .int w.r] ∧ (∃ dx, H p = some (.ins C_Walk dx [])) ∧ ∀ H', Wd C_Walk H' p w → Kp p H H' → Q .non H'
theorem ok_Walk___init__ {P : Program} {w : World} {K : PySem.W.Frag} {mg : Str → Option Value} {base : Heap} (T : Txt K mg) : FnOk P w K mg base CX0 1 T.f_Walk___init__ T.fd_Walk___init__ ["self", "size", "step", "marks", "each", "marked", "around"] (sp_Walk___init__ K T.C_Kind T.C_Walk []) := by
  refine T.F_Walk___init__.ok sc_Walk___init__ (fun vs H Q E h => ?_) (fun cdv A outer s H vs Q E hr h => ?_)
  · obtain ⟨p, w, rfl, _⟩ := h
    rfl
  · obtain ⟨p, w, rfl, h⟩ := h
    refine ⟨_, (pss_cons (ps_fld (pv 0 (hv := Or.inl rfl)) (pv 1 (hv := Or.inl rfl)) rfl)
      (pss_cons (ps_fld (pv 0 (hv := Or.inl rfl)) (pv 2 (hv := Or.inl rfl)) rfl)
      (pss_cons (ps_fld (pv 0 (hv := Or.inl rfl)) (pv 3 (hv := Or.inl rfl)) rfl)
      (pss_cons (ps_fld (pv 0 (hv := Or.inl rfl)) (pv 4 (hv := Or.inl rfl)) rfl)
      (pss_cons (ps_fld (pv 0 (hv := Or.inl rfl)) (pv 5 (hv := Or.inl rfl)) rfl)
      (pss_one (ps_fld (pv 0 (hv := Or.inl rfl)) (pv 6 (hv := Or.inl rfl)) rfl))))))), ?_⟩
    try dsimp only [cxOf, Cx.nox, Cx.wish, Cx.blk]
    rw [show L2.start ["self", "size", "step", "marks", "each", "marked", "around"] [.ref p, .int w.s, .int w.t, .int w.m, .int w.e, .int w.k, .int w.r] = [some (.ref p), some (.int w.s), some (.int w.t), some (.int w.m), some (.int w.e), some (.int w.k), some (.int w.r)] from rfl]
    obtain ⟨⟨dx, hp⟩, k⟩ := h
    walk_at "rd"
    refine ⟨p, _, dx, _, rfl, hp, T.cl_Walk, T.na_Walk_size, (by show 0 < 1000; decide), ?_⟩
    walk_at "rd"
    refine ⟨p, _, dx, _, rfl, upd_same, T.cl_Walk, T.na_Walk_step, (by show 1 < 1000; decide), ?_⟩
    walk_at "rd"
    refine ⟨p, _, dx, _, rfl, upd_same, T.cl_Walk, T.na_Walk_marks, (by show 2 < 1000; decide), ?_⟩
    walk_at "rd"
    refine ⟨p, _, dx, _, rfl, upd_same, T.cl_Walk, T.na_Walk_each, (by show 3 < 1000; decide), ?_⟩
    walk_at "rd"
    refine ⟨p, _, dx, _, rfl, upd_same, T.cl_Walk, T.na_Walk_marked, (by show 4 < 1000; decide), ?_⟩
    walk_at "rd"
    refine ⟨p, _, dx, _, rfl, upd_same, T.cl_Walk, T.na_Walk_around, (by show 5 < 1000; decide), ?_⟩
    refine k _ ⟨dx, ?_⟩ ((Kp.refl p H).upd.upd.upd.upd.upd.upd)
    rw [upd_same]
    exact congrArg (fun f => some (HO.ins _ _ f)) (putW w)
def sp_Walk_mirrored (K : PySem.W.Frag) (C : Addr) (C_Walk : Addr) (TS : List (Addr × Str)) : Sp := fun vs H Q _ => ∃ (p : Addr) (w : Wk), vs = [.ref p] ∧ Wd C_Walk H p w ∧ ∀ q H', Same H H' → Wd C_Walk H' q w.mir → Q (.ref q) H'
theorem ok_Walk_mirrored {P : Program} {w : World} {K : PySem.W.Frag} {mg : Str → Option Value} {base : Heap} (T : Txt K mg) : FnOk P w K mg base CX0 3 T.f_Walk_mirrored T.fd_Walk_mirrored ["self"] (sp_Walk_mirrored K T.C_Kind T.C_Walk []) := by
  have G_Walk___init__ := ok_Walk___init__ (P := P) (w := w) (base := base) T
  refine T.F_Walk_mirrored.ok sc_Walk_mirrored (fun vs H Q E h => ?_) (fun cdv A outer s H vs Q E hr h => ?_)
  · obtain ⟨p, w, rfl, _⟩ := h
    rfl
  · obtain ⟨p, w, rfl, h⟩ := h
    have hr_Walk___init__ : Room 2 _ := hr.mono (by decide)
    refine ⟨_, (pss_cons (ps_set (i := 1) sc_Walk_mirrored.nd rfl (Or.inl rfl) (pe_op op_add (pe_op op_add (pe_fld (pv 0 (hv := Or.inl rfl)) rfl) (pe_fld (pv 0 (hv := Or.inl rfl)) rfl)) (pe_fld (pv 0 (hv := Or.inl rfl)) rfl)))
      (pss_one (ps_ret (pe_make T.mk_Walk G_Walk___init__ hr_Walk___init__ rfl T.g_Walk T.b_Walk___init__ .nil pass0 (pa_cons (pe_fld (pv 0 (hv := Or.inl rfl)) rfl) (pa_cons (pe_op op_sub (pe_fld (pv 0 (hv := Or.inl rfl)) rfl) (pe_fld (pv 0 (hv := Or.inl rfl)) rfl)) (pa_cons (pe_op op_sub (pe_fld (pv 0 (hv := Or.inl rfl)) rfl) (pe_fld (pv 0 (hv := Or.inl rfl)) rfl)) (pa_cons (pv 1 (hv := Or.inl rfl)) (pa_cons (pe_un un_neg (pe_fld (pv 0 (hv := Or.inl rfl)) rfl)) (pa_cons (pe_un un_neg (pe_fld (pv 0 (hv := Or.inl rfl)) rfl)) pa_nil)))))))))), ?_⟩
    try dsimp only [cxOf, Cx.nox, Cx.wish, Cx.blk]
    rw [show L2.start ["self", "each"] [.ref p] = [some (.ref p), none] from rfl]
    obtain ⟨hw, k⟩ := h
    walk_at "rd"
    refine w_fW T rfl hw T.na_Walk_each (wk4 w) ?_
    walk_at "rd"
    refine w_fW T rfl hw T.na_Walk_marked (wk5 w) ?_
    walk_at "rd"
    refine w_fW T rfl hw T.na_Walk_around (wk6 w) ?_
    walk_at "rd"
    refine w_fW T rfl hw T.na_Walk_size (wk1 w) ?_
    walk_at "rd"
    refine w_fW T rfl hw T.na_Walk_size (wk1 w) ?_
    walk_at "rd"
    refine w_fW T rfl hw T.na_Walk_step (wk2 w) ?_
    walk_at "rd"
    refine w_fW T rfl hw T.na_Walk_size (wk1 w) ?_
    walk_at "rd"
    refine w_fW T rfl hw T.na_Walk_marks (wk3 w) ?_
    walk_at "rd"
    refine w_fW T rfl hw T.na_Walk_marked (wk5 w) ?_
    walk_at "rd"
    refine w_fW T rfl hw T.na_Walk_around (wk6 w) ?_
    walk_at "rd"
    intro kx dx nx ndx nex
    refine ⟨kx, w.mir, rfl, ⟨dx, upd_same⟩, fun H3 hk kp3 => ⟨rfl, ?_⟩⟩
    exact k kx H3 (fun b o e => kp3 b o (ne_of_none e nx) (by rw [upd_ne (ne_of_none e nx), upd_ne (ne_of_none e ndx)]; exact e)) hk
def sp_Walk_of_laps (K : PySem.W.Frag) (C : Addr) (C_Walk : Addr) (TS : List (Addr × Str)) : Sp := fun vs H Q _ => ∃ (p : Addr) (w : Wk), vs = [.ref p] ∧ Wd C_Walk H p w ∧ 0 < w.t ∧ WF w ∧ WkB w ∧ ∀ q H', Same H H' → Wd C_Walk H' q w.laps → Q (.ref q) H'
theorem ok_Walk_of_laps {P : Program} {w : World} {K : PySem.W.Frag} {mg : Str → Option Value} {base : Heap} (T : Txt K mg) : FnOk P w K mg base CX0 3 T.f_Walk_of_laps T.fd_Walk_of_laps ["self"] (sp_Walk_of_laps K T.C_Kind T.C_Walk []) := by
  have G_Walk___init__ := ok_Walk___init__ (P := P) (w := w) (base := base) T
  refine T.F_Walk_of_laps.ok sc_Walk_of_laps (fun vs H Q E h => ?_) (fun cdv A outer s H vs Q E hr h => ?_)
  · obtain ⟨p, w, rfl, _⟩ := h
    rfl
  · obtain ⟨p, w, rfl, h⟩ := h
    have hr_Walk___init__ : Room 2 _ := hr.mono (by decide)
    refine ⟨_, (pss_cons (ps_set (i := 1) sc_Walk_of_laps.nd rfl (Or.inl rfl) (pe_un un_neg (pe_op op_fdivW (pe_un un_neg (pe_fld (pv 0 (hv := Or.inl rfl)) rfl)) (pe_fld (pv 0 (hv := Or.inl rfl)) rfl))))
      (pss_cons (ps_set (i := 2) sc_Walk_of_laps.nd rfl (Or.inl rfl) (pe_op op_sub (pe_op op_mulX (pv 1 (hv := Or.inl rfl)) (pe_fld (pv 0 (hv := Or.inl rfl)) rfl)) (pe_fld (pv 0 (hv := Or.inl rfl)) rfl)))
      (pss_cons (ps_set (i := 3) sc_Walk_of_laps.nd rfl (Or.inl rfl) (pe_op op_add (pe_op op_add (pe_op op_mulX (pv 1 (hv := Or.inl rfl)) (pe_fld (pv 0 (hv := Or.inl rfl)) rfl)) (pe_op op_mulX (pe_op op_fdivW (pe_fld (pv 0 (hv := Or.inl rfl)) rfl) (pe_fld (pv 0 (hv := Or.inl rfl)) rfl)) (pe_fld (pv 0 (hv := Or.inl rfl)) rfl))) (pe_fld (pv 0 (hv := Or.inl rfl)) rfl)))
      (pss_one (ps_ret (pe_make T.mk_Walk G_Walk___init__ hr_Walk___init__ rfl T.g_Walk T.b_Walk___init__ .nil pass0 (pa_cons (pe_fld (pv 0 (hv := Or.inl rfl)) rfl) (pa_cons (pv 2 (hv := Or.inl rfl)) (pa_cons (pe_op op_mod (pe_fld (pv 0 (hv := Or.inl rfl)) rfl) (pe_fld (pv 0 (hv := Or.inl rfl)) rfl)) (pa_cons (pv 3 (hv := Or.inl rfl)) (pa_cons (pe_fld (pv 0 (hv := Or.inl rfl)) rfl) (pa_cons (pe_un un_neg (pe_fld (pv 0 (hv := Or.inl rfl)) rfl)) pa_nil)))))))))))), ?_⟩
    try dsimp only [cxOf, Cx.nox, Cx.wish, Cx.blk]
    rw [show L2.start ["self", "longest", "step", "each"] [.ref p] = [some (.ref p), none, none, none] from rfl]
    obtain ⟨hw, ht, wf, wb, k⟩ := h
    obtain ⟨l1, l2⟩ := lng_b (w := w) ht
    have sb := wb.s
    have tb := wb.t
    have mb := wb.m
    have ts := wf.ts
    have s0 := wf.s0
    have n0 : 0 ≤ w.lng := by
      refine Int.not_lt.mp fun z => ?_
      have := Int.mul_le_mul_of_nonneg_right (show w.lng ≤ 0 by omega) (Int.le_of_lt ht)
      rw [Int.zero_mul] at this; omega
    have n1 : w.lng ≤ w.s + w.t := by
      have := Int.mul_le_mul_of_nonneg_left (show (1 : Int) ≤ w.t by omega) n0
      omega
    have nb : w.lng.natAbs < 2 ^ 131 := by
      have e : (2 : Nat) ^ 131 = 2 * 2 ^ 130 := by rw [Nat.pow_succ, Nat.mul_comm]
      omega
    have q0 : 0 ≤ w.m / w.t := Int.ediv_nonneg wf.m0 (Int.le_of_lt ht)
    have q1 : w.m / w.t ≤ w.m := Int.ediv_le_self _ wf.m0
    have qb : (w.m / w.t).natAbs < 2 ^ 130 := by omega
    walk_at "rd"
    refine w_fW T rfl hw T.na_Walk_size (wk1 w) ?_
    walk_at "rd"
    refine w_fW T rfl hw T.na_Walk_step (wk2 w) ?_
    refine w_I (wide_div ht wb.t (by decide) (by decide)) ?_
    walk_at "rd"
    rw [show -(-w.s / w.t) = w.lng from rfl]
    refine w_fW T rfl hw T.na_Walk_step (wk2 w) ?_
    refine w_I (mulx_ok nb tb (by decide)) ?_
    walk_at "rd"
    refine w_fW T rfl hw T.na_Walk_size (wk1 w) ?_
    walk_at "rd"
    refine w_fW T rfl hw T.na_Walk_each (wk4 w) ?_
    refine w_I (mulx_ok nb wb.e (by decide)) ?_
    walk_at "rd"
    refine w_fW T rfl hw T.na_Walk_marks (wk3 w) ?_
    walk_at "rd"
    refine w_fW T rfl hw T.na_Walk_step (wk2 w) ?_
    refine w_I (wide_div ht wb.t (by decide) (by decide)) ?_
    walk_at "rd"
    refine w_fW T rfl hw T.na_Walk_marked (wk5 w) ?_
    refine w_I (mulx_ok qb wb.k (by decide)) ?_
    walk_at "rd"
    refine w_fW T rfl hw T.na_Walk_around (wk6 w) ?_
    walk_at "rd"
    refine w_fW T rfl hw T.na_Walk_step (wk2 w) ?_
    walk_at "rd"
    refine w_fW T rfl hw T.na_Walk_marks (wk3 w) ?_
    walk_at "rd"
    refine w_fW T rfl hw T.na_Walk_step (wk2 w) ?_
    refine w_I ht ?_
    walk_at "rd"
    refine w_fW T rfl hw T.na_Walk_marked (wk5 w) ?_
    walk_at "rd"
    refine w_fW T rfl hw T.na_Walk_each (wk4 w) ?_
    walk_at "rd"
    intro kx dx nx ndx nex
    refine ⟨kx, w.laps, rfl, ⟨dx, upd_same⟩, fun H3 hk kp3 => ⟨rfl, ?_⟩⟩
    exact k kx H3 (fun b o e => kp3 b o (ne_of_none e nx) (by rw [upd_ne (ne_of_none e nx), upd_ne (ne_of_none e ndx)]; exact e)) hk
def sp_Walk_marked_steps (K : PySem.W.Frag) (C : Addr) (C_Walk : Addr) (TS : List (Addr × Str)) : Sp := fun vs H Q _ => ∃ (p : Addr) (w : Wk) (b : Int), vs = [.ref p, .int b] ∧ Wd C_Walk H p w ∧ 0 < w.t ∧ WkB w ∧ Q (.int (w.mst b)) H
theorem ok_Walk_marked_steps {P : Program} {w : World} {K : PySem.W.Frag} {mg : Str → Option Value} {base : Heap} (T : Txt K mg) : FnOk P w K mg base CX0 1 T.f_Walk_marked_steps T.fd_Walk_marked_steps ["self", "begin"] (sp_Walk_marked_steps K T.C_Kind T.C_Walk []) := by
  refine T.F_Walk_marked_steps.ok sc_Walk_marked_steps (fun vs H Q E h => ?_) (fun cdv A outer s H vs Q E hr h => ?_)
  · obtain ⟨p, w, b, rfl, _⟩ := h
    rfl
  · obtain ⟨p, w, b, rfl, h⟩ := h
    refine ⟨_, (pss_one (ps_ret (pe_callB (id := "max") (r := rmax2C) (call_max2 rfl) (by rfl) T.n_max (by decide +kernel) (pa_cons pe_int (pa_cons (pe_un un_neg (pe_op op_fdivW (pe_op op_sub (pv 1 (hv := Or.inl rfl)) (pe_fld (pv 0 (hv := Or.inl rfl)) rfl)) (pe_fld (pv 0 (hv := Or.inl rfl)) rfl))) pa_nil))))), ?_⟩
    try dsimp only [cxOf, Cx.nox, Cx.wish, Cx.blk]
    rw [show L2.start ["self", "begin"] [.ref p, .int b] = [some (.ref p), some (.int b)] from rfl]
    obtain ⟨hw, ht, wb, k⟩ := h
    walk_at "rd"
    refine w_fW T rfl hw T.na_Walk_marks (wk3 w) ?_
    walk_at "rd"
    refine w_fW T rfl hw T.na_Walk_step (wk2 w) ?_
    refine w_I (wide_div ht wb.t (by decide) (by decide)) ?_
    walk_at "rd"
    refine w_max2 ?_
    exact k
def sp_Walk_cost (K : PySem.W.Frag) (C : Addr) (C_Walk : Addr) (TS : List (Addr × Str)) : Sp := fun vs H Q _ => ∃ (p : Addr) (w : Wk) (b n : Int), vs = [.ref p, .int b, .int n] ∧ Wd C_Walk H p w ∧ 0 < w.t ∧ WkB w ∧ n.natAbs < 2 ^ 600 ∧ 0 ≤ n ∧ Q (.int (w.cost b n)) H
theorem ok_Walk_cost {P : Program} {w : World} {K : PySem.W.Frag} {mg : Str → Option Value} {base : Heap} (T : Txt K mg) : FnOk P w K mg base CX0 2 T.f_Walk_cost T.fd_Walk_cost ["self", "begin", "steps"] (sp_Walk_cost K T.C_Kind T.C_Walk []) := by
  have G_Walk_marked_steps := ok_Walk_marked_steps (P := P) (w := w) (base := base) T
  refine T.F_Walk_cost.ok sc_Walk_cost (fun vs H Q E h => ?_) (fun cdv A outer s H vs Q E hr h => ?_)
  · obtain ⟨p, w, b, n, rfl, _⟩ := h
    rfl
  · obtain ⟨p, w, b, n, rfl, h⟩ := h
    have hr_Walk_marked_steps : Room 1 _ := hr.mono (by decide)
    refine ⟨_, (pss_one (ps_ret (pe_op op_add (pe_op op_mulX (pv 2 (hv := Or.inl rfl)) (pe_fld (pv 0 (hv := Or.inl rfl)) rfl)) (pe_op op_mulX (pe_callB (id := "min") (r := rmin2C) (call_min2 rfl) (by rfl) T.n_min (by decide +kernel) (pa_cons (pv 2 (hv := Or.inl rfl)) (pa_cons (pe_meth (pv 0 (hv := Or.inl rfl)) T.cl_Walk T.m_Walk_marked_steps G_Walk_marked_steps hr_Walk_marked_steps T.b_Walk_marked_steps .nil pass0 (pa_cons (pv 1 (hv := Or.inl rfl)) pa_nil)) pa_nil))) (pe_fld (pv 0 (hv := Or.inl rfl)) rfl))))), ?_⟩
    try dsimp only [cxOf, Cx.nox, Cx.wish, Cx.blk]
    rw [show L2.start ["self", "begin", "steps"] [.ref p, .int b, .int n] = [some (.ref p), some (.int b), some (.int n)] from rfl]
    obtain ⟨hw, ht, wb, nb, n0, k⟩ := h
    obtain ⟨dx, e0⟩ := id hw
    walk_at "rd"
    refine w_fW T rfl hw T.na_Walk_each (wk4 w) ?_
    refine w_I (mulx_ok nb wb.e (by decide)) ?_
    walk_at "rd"
    refine w_methA ?_
    walk_at "rd"
    refine ⟨p, dx, _, rfl, e0, nW1 w, ?_⟩
    walk_at "rd"
    refine ⟨p, w, b, rfl, hw, ht, wb, ?_⟩
    walk_at "rd"
    refine w_min2 ?_
    walk_at "rd"
    refine w_fW T rfl hw T.na_Walk_marked (wk5 w) ?_
    refine w_I (mulx_ok (abs_min n0 nb) wb.k (by decide)) ?_
    walk_at "rd"
    exact k
def sp_Walk_steps_for (K : PySem.W.Frag) (C : Addr) (C_Walk : Addr) (TS : List (Addr × Str)) : Sp := fun vs H Q _ => ∃ (p : Addr) (w : Wk) (b g : Int), vs = [.ref p, .int b, .int g] ∧ Wd C_Walk H p w ∧ 0 < w.t ∧ WF w ∧ WkB w ∧ 0 ≤ b ∧ b < w.t ∧ 0 ≤ g ∧ Q (.int (w.sfor b g)) H
theorem ok_Walk_steps_for {P : Program} {w : World} {K : PySem.W.Frag} {mg : Str → Option Value} {base : Heap} (T : Txt K mg) : FnOk P w K mg base CX0 2 T.f_Walk_steps_for T.fd_Walk_steps_for ["self", "begin", "budget"] (sp_Walk_steps_for K T.C_Kind T.C_Walk []) := by
  have G_Walk_marked_steps := ok_Walk_marked_steps (P := P) (w := w) (base := base) T
  refine T.F_Walk_steps_for.ok sc_Walk_steps_for (fun vs H Q E h => ?_) (fun cdv A outer s H vs Q E hr h => ?_)
  · obtain ⟨p, w, b, g, rfl, _⟩ := h
    rfl
  · obtain ⟨p, w, b, g, rfl, h⟩ := h
    have hr_Walk_marked_steps : Room 1 _ := hr.mono (by decide)
    refine ⟨_, (pss_cons (ps_set (i := 3) sc_Walk_steps_for.nd rfl (Or.inl rfl) (pe_op op_sub (pe_un un_neg (pe_op op_fdivW (pe_op op_sub (pv 1 (hv := Or.inl rfl)) (pe_fld (pv 0 (hv := Or.inl rfl)) rfl)) (pe_fld (pv 0 (hv := Or.inl rfl)) rfl))) pe_int))
      (pss_cons (ps_set (i := 4) sc_Walk_steps_for.nd rfl (Or.inl rfl) (pe_callB (id := "min") (r := rmin2C) (call_min2 rfl) (by rfl) T.n_min (by decide +kernel) (pa_cons (pv 3 (hv := Or.inl rfl)) (pa_cons (pe_meth (pv 0 (hv := Or.inl rfl)) T.cl_Walk T.m_Walk_marked_steps G_Walk_marked_steps hr_Walk_marked_steps T.b_Walk_marked_steps .nil pass0 (pa_cons (pv 1 (hv := Or.inl rfl)) pa_nil)) pa_nil))))
      (pss_cons (ps_if (pt_cmpR op_gt (pe_op op_mulX (pv 4 (hv := Or.inl rfl)) (pe_op op_add (pe_fld (pv 0 (hv := Or.inl rfl)) rfl) (pe_fld (pv 0 (hv := Or.inl rfl)) rfl))) (pv 2 (hv := Or.inl rfl)) (nomark _)) (pss_one (ps_ret (pe_op op_fdivW (pv 2 (hv := Or.inl rfl)) (pe_op op_add (pe_fld (pv 0 (hv := Or.inl rfl)) rfl) (pe_fld (pv 0 (hv := Or.inl rfl)) rfl))))) pss_nil)
      (pss_cons (ps_set (i := 5) sc_Walk_steps_for.nd rfl (Or.inl rfl) (pe_op op_sub (pv 2 (hv := Or.inl rfl)) (pe_op op_mulX (pv 4 (hv := Or.inl rfl)) (pe_op op_add (pe_fld (pv 0 (hv := Or.inl rfl)) rfl) (pe_fld (pv 0 (hv := Or.inl rfl)) rfl)))))
      (pss_cons (ps_if (pt_cmpR op_gt (pe_op op_mulX (pe_op op_sub (pv 3 (hv := Or.inl rfl)) (pv 4 (hv := Or.inl rfl))) (pe_fld (pv 0 (hv := Or.inl rfl)) rfl)) (pv 5 (hv := Or.inl rfl)) (nomark _)) (pss_one (ps_ret (pe_op op_add (pv 4 (hv := Or.inl rfl)) (pe_op op_fdivW (pv 5 (hv := Or.inl rfl)) (pe_fld (pv 0 (hv := Or.inl rfl)) rfl))))) pss_nil)
      (pss_one (ps_ret (pv 3 (hv := Or.inl rfl))))))))), ?_⟩
    try dsimp only [cxOf, Cx.nox, Cx.wish, Cx.blk]
    rw [show L2.start ["self", "begin", "budget", "most", "steps", "rest"] [.ref p, .int b, .int g] = [some (.ref p), some (.int b), some (.int g), none, none, none] from rfl]
    obtain ⟨hw, ht, wf, wb, b0, b1, g0, k⟩ := h
    obtain ⟨dx, e0⟩ := id hw
    have mo0 : 0 ≤ w.most b := (most_iff (w := w) ht).mpr (by rw [Int.zero_mul]; have := wf.ts; omega)
    have mo1 : w.most b ≤ w.s := by
      have := (most_iff (w := w) ht (b := b) (i := w.most b)).mp (Int.le_refl _)
      have := Int.mul_le_mul_of_nonneg_left (show (1 : Int) ≤ w.t by omega) mo0
      omega
    have ms0 : 0 ≤ w.mst b := by unfold Wk.mst; omega
    have sb := wb.s
    walk_at "rd"
    refine w_fW T rfl hw T.na_Walk_size (wk1 w) ?_
    walk_at "rd"
    refine w_fW T rfl hw T.na_Walk_step (wk2 w) ?_
    refine w_I (wide_div ht wb.t (by decide) (by decide)) ?_
    walk_at "rd"
    rw [show -((b - w.s) / w.t) - 1 = w.most b from rfl]
    refine w_methA ?_
    walk_at "rd"
    refine ⟨p, dx, _, rfl, e0, nW1 w, ?_⟩
    walk_at "rd"
    refine ⟨p, w, b, rfl, hw, ht, wb, ?_⟩
    walk_at "rd"
    refine w_min2 ?_
    walk_at "rd"
    have nb : (min (w.most b) (w.mst b)).natAbs < 2 ^ 130 := by omega
    have nb2 : (w.most b - min (w.most b) (w.mst b)).natAbs < 2 ^ 130 := by omega
    obtain ⟨n, _, _, _, _⟩ := sfor_ok wf ht b0 b1 g0
    unfold Wk.sfor at k
    refine w_fW T rfl hw T.na_Walk_each (wk4 w) ?_
    walk_at "rd"
    refine w_fW T rfl hw T.na_Walk_marked (wk5 w) ?_
    walk_at "rd"
    refine w_I (mulx_ok nb (sum_b wb.e wb.k) (by decide)) ?_
    walk_at "rd"
    refine w_dec (fun c => ?_) (fun c => ?_)
    · have c' : min (w.most b) (w.mst b) * (w.e + w.k) > g := c
      rw [if_pos c'] at k
      have ek : 0 < w.e + w.k := by
        refine Int.not_le.mp fun z => ?_
        have := Int.mul_nonneg (show 0 ≤ min (w.most b) (w.mst b) by omega) (show 0 ≤ -(w.e + w.k) by omega)
        rw [Int.mul_neg] at this; omega
      walk_at "rd"
      refine w_fW T rfl hw T.na_Walk_each (wk4 w) ?_
      walk_at "rd"
      refine w_fW T rfl hw T.na_Walk_marked (wk5 w) ?_
      walk_at "rd"
      refine w_I (wide_div ek (sum_b wb.e wb.k) (by decide) (by decide)) ?_
      exact k
    · have c' : ¬ min (w.most b) (w.mst b) * (w.e + w.k) > g := c
      rw [if_neg c'] at k
      walk_at "rd"
      refine w_fW T rfl hw T.na_Walk_each (wk4 w) ?_
      walk_at "rd"
      refine w_fW T rfl hw T.na_Walk_marked (wk5 w) ?_
      walk_at "rd"
      refine w_I (mulx_ok nb (sum_b wb.e wb.k) (by decide)) ?_
      walk_at "rd"
      refine w_fW T rfl hw T.na_Walk_each (wk4 w) ?_
      refine w_I (mulx_ok nb2 wb.e (by decide)) ?_
      walk_at "rd"
      refine w_dec (fun d => ?_) (fun d => ?_)
      · have d' : (w.most b - min (w.most b) (w.mst b)) * w.e > g - min (w.most b) (w.mst b) * (w.e + w.k) := d
        rw [if_pos d'] at k
        have ep : 0 < w.e := by
          refine Int.not_le.mp fun z => ?_
          have := Int.mul_nonneg (show 0 ≤ w.most b - min (w.most b) (w.mst b) by omega) (show 0 ≤ -w.e by omega)
          rw [Int.mul_neg] at this; omega
        walk_at "rd"
        refine w_fW T rfl hw T.na_Walk_each (wk4 w) ?_
        refine w_I (wide_div ep wb.e (by decide) (by decide)) ?_
        walk_at "rd"
        exact k
      · have d' : ¬ (w.most b - min (w.most b) (w.mst b)) * w.e > g - min (w.most b) (w.mst b) * (w.e + w.k) := d
        rw [if_neg d'] at k
        walk_at "rd"
        exact k
def sp__steps_to_visit (K : PySem.W.Frag) (C : Addr) (C_Walk : Addr) (TS : List (Addr × Str)) : Sp := fun vs H Q _ => ∃ (s t m p j : Int) (N : Nat), vs = [.int s, .int t, .int m, .int p, .int j] ∧ WF ⟨s, t, m, 0, 1, 0⟩ ∧ s ≤ 2 ^ 129 ∧ 0 ≤ p ∧ p < s ∧ 0 ≤ j ∧ j < 2 ^ 400 ∧ N < 2 ^ 400 ∧ j < hC ⟨s, t, m, 0, 1, 0⟩ N p ∧ ∀ (n : Nat) (g : Int) H', hT ⟨s, t, m, 0, 1, 0⟩ p j n g → Same H H' → Q (.int (n : Int)) H'
theorem ok__steps_to_visit {P : Program} {w : World} {K : PySem.W.Frag} {mg : Str → Option Value} {base : Heap} (T : Txt K mg) : FnOk P w K mg base CX0 4 T.f__steps_to_visit T.fd__steps_to_visit ["size", "step", "marks", "place", "j"] (sp__steps_to_visit K T.C_Kind T.C_Walk []) := by
  have G_Walk___init__ := ok_Walk___init__ (P := P) (w := w) (base := base) T
  have G_Walk_cost := ok_Walk_cost (P := P) (w := w) (base := base) T
  have G_Walk_mirrored := ok_Walk_mirrored (P := P) (w := w) (base := base) T
  have G_Walk_of_laps := ok_Walk_of_laps (P := P) (w := w) (base := base) T
  have G_Walk_steps_for := ok_Walk_steps_for (P := P) (w := w) (base := base) T
  refine T.F__steps_to_visit.ok sc__steps_to_visit (fun vs H Q E h => ?_) (fun cdv A outer s H vs Q E hr h => ?_)
  · obtain ⟨s, t, m, p, j, N, rfl, _⟩ := h
    rfl
  · obtain ⟨s, t, m, p, j, N, rfl, h⟩ := h
    have hr_Walk___init__ : Room 2 _ := hr.mono (by decide)
    have hr_Walk_cost : Room 2 _ := hr.mono (by decide)
    have hr_Walk_mirrored : Room 3 _ := hr.mono (by decide)
    have hr_Walk_of_laps : Room 3 _ := hr.mono (by decide)
    have hr_Walk_steps_for : Room 2 _ := hr.mono (by decide)
    refine ⟨_, (pss_cons (ps_set (i := 5) sc__steps_to_visit.nd rfl (Or.inl rfl) (pe_make T.mk_Walk G_Walk___init__ hr_Walk___init__ rfl T.g_Walk T.b_Walk___init__ .nil pass0 (pa_cons (pv 0 (hv := Or.inl rfl)) (pa_cons (pv 1 (hv := Or.inl rfl)) (pa_cons (pv 2 (hv := Or.inl rfl)) (pa_cons pe_int (pa_cons pe_int (pa_cons pe_int pa_nil))))))))
      (pss_cons (ps_set (i := 6) sc__steps_to_visit.nd rfl (Or.inl rfl) (pv 4 (hv := Or.inl rfl)))
      (pss_cons (ps_set (i := 7) sc__steps_to_visit.nd rfl (Or.inl rfl) (pe_lst pa_nil))
      (pss_cons (ps_while PassesOwn.never (pt_cmpR op_gt (pe_fld (pv 5 (hv := Or.inl rfl)) rfl) pe_int (nomark _))
        (pss_cons (ps_if (pt_cmpR op_gt (pe_op op_mulX pe_int (pe_fld (pv 5 (hv := Or.inl rfl)) rfl)) (pe_fld (pv 5 (hv := Or.inl rfl)) rfl) (nomark _)) (pss_cons (ps_set (i := 3) sc__steps_to_visit.nd rfl (Or.inl rfl) (pe_op op_sub (pe_op op_sub (pe_fld (pv 5 (hv := Or.inl rfl)) rfl) pe_int) (pv 3 (hv := Or.inl rfl))))
      (pss_one (ps_set (i := 5) sc__steps_to_visit.nd rfl (Or.inl rfl) (pe_meth0 (pv 5 (hv := Or.inl rfl)) T.cl_Walk T.m_Walk_mirrored G_Walk_mirrored hr_Walk_mirrored T.b_Walk_mirrored .nil pass0)))) pss_nil)
      (pss_cons (ps_asg (pe_callB (id := "divmod") (r := rDivC) call_divmodW (by rfl) T.n_divmod (by decide +kernel) (pa_cons (pv 3 (hv := Or.inl rfl)) (pa_cons (pe_fld (pv 5 (hv := Or.inl rfl)) rfl) pa_nil))) (pg_tup rfl (pgs_cons (pg_name (i := 8) sc__steps_to_visit.nd rfl (Or.inl rfl)) (pgs_cons (pg_name (i := 3) sc__steps_to_visit.nd rfl (Or.inl rfl)) pgs_nil))))
      (pss_cons (ps_aug (i := 6) sc__steps_to_visit.nd rfl (Or.inl rfl) (pe_meth (pv 5 (hv := Or.inl rfl)) T.cl_Walk T.m_Walk_cost G_Walk_cost hr_Walk_cost T.b_Walk_cost .nil pass0 (pa_cons (pv 3 (hv := Or.inl rfl)) (pa_cons (pv 8 (hv := Or.inl rfl)) pa_nil))) ip_add)
      (pss_cons (ps_expr (pe_bm PySem.F.plainAttrs_list PySem.F.slot_list_append PySem.F.type_list_append mt_append (pv 7 (hv := Or.inl rfl)) (pa_cons (pe_tup (pa_cons (pv 5 (hv := Or.inl rfl)) (pa_cons (pv 3 (hv := Or.inl rfl)) (pa_cons (pv 8 (hv := Or.inl rfl)) pa_nil)))) pa_nil)))
      (pss_one (ps_set (i := 5) sc__steps_to_visit.nd rfl (Or.inl rfl) (pe_meth0 (pv 5 (hv := Or.inl rfl)) T.cl_Walk T.m_Walk_of_laps G_Walk_of_laps hr_Walk_of_laps T.b_Walk_of_laps .nil pass0))))))))
      (pss_cons (ps_asg (pe_callB (id := "divmod") (r := rDivC) call_divmodW (by rfl) T.n_divmod (by decide +kernel) (pa_cons (pv 6 (hv := Or.inl rfl)) (pa_cons (pe_op op_add (pe_fld (pv 5 (hv := Or.inl rfl)) rfl) (pe_ifExp (pt_cmpR op_lt (pv 3 (hv := Or.inl rfl)) (pe_fld (pv 5 (hv := Or.inl rfl)) rfl) (nomark _)) (pe_fld (pv 5 (hv := Or.inl rfl)) rfl) pe_int)) pa_nil))) (pg_tup rfl (pgs_cons (pg_name (i := 9) sc__steps_to_visit.nd rfl (Or.inl rfl)) (pgs_cons (pg_name (i := 6) sc__steps_to_visit.nd rfl (Or.inl rfl)) pgs_nil))))
      (pss_cons (ps_for PassesOwn.never rfl (pi_reversed (by rfl) T.n_reversed (pa_cons (pv 7 (hv := Or.inl rfl)) pa_nil)) (pg_tup rfl (pgs_cons (pg_name (i := 5) sc__steps_to_visit.nd rfl (Or.inl rfl)) (pgs_cons (pg_name (i := 3) sc__steps_to_visit.nd rfl (Or.inl rfl)) (pgs_cons (pg_name (i := 8) sc__steps_to_visit.nd rfl (Or.inl rfl)) pgs_nil))))
        (pss_cons (ps_set (i := 10) sc__steps_to_visit.nd rfl (Or.inl rfl) (pe_op op_sub (pe_op op_mulX (pv 9 (hv := Or.inl rfl)) (pe_fld (pv 5 (hv := Or.inl rfl)) rfl)) (pv 3 (hv := Or.inl rfl))))
      (pss_cons (ps_set (i := 9) sc__steps_to_visit.nd rfl (Or.inl rfl) (pe_un un_neg (pe_op op_fdivW (pe_un un_neg (pv 10 (hv := Or.inl rfl))) (pe_fld (pv 5 (hv := Or.inl rfl)) rfl))))
      (pss_cons (ps_set (i := 11) sc__steps_to_visit.nd rfl (Or.inl rfl) (pe_op op_sub (pe_op op_mulX (pv 9 (hv := Or.inl rfl)) (pe_fld (pv 5 (hv := Or.inl rfl)) rfl)) (pv 10 (hv := Or.inl rfl))))
      (pss_cons (ps_set (i := 12) sc__steps_to_visit.nd rfl (Or.inl rfl) (pe_meth (pv 5 (hv := Or.inl rfl)) T.cl_Walk T.m_Walk_steps_for G_Walk_steps_for hr_Walk_steps_for T.b_Walk_steps_for .nil pass0 (pa_cons (pv 11 (hv := Or.inl rfl)) (pa_cons (pv 6 (hv := Or.inl rfl)) pa_nil))))
      (pss_cons (ps_aug (i := 6) sc__steps_to_visit.nd rfl (Or.inl rfl) (pe_meth (pv 5 (hv := Or.inl rfl)) T.cl_Walk T.m_Walk_cost G_Walk_cost hr_Walk_cost T.b_Walk_cost .nil pass0 (pa_cons (pv 11 (hv := Or.inl rfl)) (pa_cons (pv 12 (hv := Or.inl rfl)) pa_nil))) ip_sub)
      (pss_one (ps_aug (i := 9) sc__steps_to_visit.nd rfl (Or.inl rfl) (pe_op op_sub (pv 12 (hv := Or.inl rfl)) (pv 8 (hv := Or.inl rfl))) ip_add))))))))
      (pss_one (ps_ret (pv 9 (hv := Or.inl rfl)))))))))), ?_⟩
    try dsimp only [cxOf, Cx.nox, Cx.wish, Cx.blk]
    rw [show L2.start ["size", "step", "marks", "place", "j", "walk", "budget", "outer", "ahead", "steps", "distance", "begin", "more"] [.int s, .int t, .int m, .int p, .int j] = [some (.int s), some (.int t), some (.int m), some (.int p), some (.int j), none, none, none, none, none, none, none, none] from rfl]
    obtain ⟨wf0, s1, p0, p1, j0, j1, N1, hN, k⟩ := h
    have s0 : 0 < s := wf0.s0
    have wb0 : WB ⟨s, t, m, 0, 1, 0⟩ := wb_top s0 s1
    obtain ⟨W0, hW0⟩ : ∃ W0 : Wk, W0 = ⟨s, t, m, 0, 1, 0⟩ := ⟨_, rfl⟩
    have es : W0.s = s := by rw [hW0]
    walk_at "rd"
    intro kx dx nx ndx nex
    refine ⟨kx, ⟨s, t, m, 0, 1, 0⟩, rfl, ⟨dx, upd_same⟩, fun H1 hw1 kp1 => ⟨rfl, ?_⟩⟩
    have sm1 : Same H H1 := fun b o e => kp1 b o (ne_of_none e nx) (by rw [upd_ne (ne_of_none e nx), upd_ne (ne_of_none e ndx)]; exact e)
    rw [← hW0] at wf0 wb0 hN k hw1
    clear kp1 nx ndx nex
    walk_at "rd"
    refine ⟨by show 0 ≤ sizeLine; decide, fun D hD => ?_⟩
    walk_at "rd"
    have hb0 : Bnd W0 p j := fun n g h => ⟨Nat.lt_trans (hT_lt wf0 p0 (by rw [es]; exact p1) h hN) (Nat.lt_trans N1 (Nat.pow_lt_pow_right (by decide) (by decide))), h.2.1⟩
    have q2 : (2 : Int) ^ 402 = 4 * 2 ^ 400 := by decide +kernel
    refine w_while (fun ms σ H' => ∃ (wa : Addr) (w : Wk) (pl b : Int) (st : List (Wk × Int × Nat × Int)) (N' : Nat) (v8 : Option V), σ = [some (.int s), some (.int t), some (.int m), some (.int pl), some (.int j), some (.ref wa), some (.int b), some (.ref D), v8, none, none, none, none] ∧ ms = w.s.toNat ∧ Wd T.C_Walk H' wa w ∧ WF w ∧ WB w ∧ 0 ≤ pl ∧ pl < w.s ∧ 0 ≤ b ∧ b + 2 ^ 710 * w.s ≤ 2 ^ 850 ∧ b < hC w N' pl ∧ (N' : Int) + 2 ^ 130 * w.s ≤ 2 ^ 402 ∧ w.s * 2 ^ st.length ≤ 2 ^ 129 ∧ Chain W0 p j st w pl b ∧ Rows T.C_Walk H' D st ∧ Same H H') s.toNat
      ⟨kx, W0, p, j, [], N, _, rfl, by rw [es], hw1.same (sm_new (Same.refl H1) hD), wf0, wb0, p0, by rw [es]; exact p1, j0, ?_, hN, ?_, by rw [es]; show s * 1 ≤ _; omega, ⟨rfl, rfl, rfl⟩, ⟨[], upd_same, rfl, fun i t e a => (by cases a)⟩, sm_new sm1 hD⟩ ?_
    · rw [es]
      have := Int.mul_le_mul_of_nonneg_left s1 (show (0 : Int) ≤ 2 ^ 710 by decide +kernel)
      have : (2 : Int) ^ 400 + 2 ^ 710 * 2 ^ 129 ≤ 2 ^ 850 := by decide +kernel
      omega
    · rw [es]
      have := Int.mul_le_mul_of_nonneg_left s1 (show (0 : Int) ≤ 2 ^ 130 by decide +kernel)
      have : (2 : Int) ^ 400 + 2 ^ 130 * 2 ^ 129 ≤ 2 ^ 402 := by decide +kernel
      have c : ((2 ^ 400 : Nat) : Int) = (2 : Int) ^ 400 := Int.natCast_pow 2 400
      omega
    have hDn : H D = none := same_free sm1 hD
    clear hw1 sm1 hD
    rintro ms σ H2 ⟨wa, w, pl, b, st, N', v8, rfl, rfl, hw, wf, wb, l0, l1, b0, b1, hN', n1, sl, ch, rows, sm⟩
    have ws0 := wf.s0
    have wt0 := wf.t0
    have wts := wf.ts
    walk_at "rd"
    refine w_fW T rfl hw T.na_Walk_step (wk2 w) ?_
    walk_at "rd"
    refine w_dec (fun ht => ?_) (fun ht => ?_)
    · refine ⟨_, fun _ _ h => h, ?_⟩
      obtain ⟨wfl, tl, t2, esl⟩ := low_facts wf ht
      obtain ⟨⟨r0, r1⟩, rc, rt⟩ := plow_ok wf ht l0 l1
      have wbn := wb_laps wf ht wb
      obtain ⟨E, e0, ee, ek, er, ec⟩ := low_ex wb
      have ws1 := wb.s1
      walk_at "rd"
      refine w_fW T rfl hw T.na_Walk_step (wk2 w) ?_
      refine w_I (mulx_ok (a := 2) (show (2 : Int).natAbs < 2 ^ 2 by decide) (wkb wf wb).t (by decide)) ?_
      walk_at "rd"
      refine w_fW T rfl hw T.na_Walk_size (wk1 w) ?_
      walk_at "rd"
      refine w_stJ (fun σ' H' => (∃ wa' : Addr, σ' = [some (.int s), some (.int t), some (.int m), some (.int (plow w pl)), some (.int j), some (.ref wa'), some (.int b), some (.ref D), v8, none, none, none, none] ∧ Wd T.C_Walk H' wa' w.low) ∧ Same H2 H') (fun c D' q => ?_) (fun c D' q => ?_) ?_
      · have el : w.low = w.mir := if_pos c
        have ep : plow w pl = w.s - 1 - pl := if_pos c
        obtain ⟨dx, e0⟩ := id hw
        walk_at "rd"
        refine w_fW T rfl hw T.na_Walk_size (wk1 w) ?_
        walk_at "rd"
        refine ⟨wa, dx, _, rfl, e0, nW4 w, wa, w, rfl, hw, fun q2 H' s' hq => ?_⟩
        walk_at "rd"
        exact q _ _ ⟨⟨q2, by rw [ep], by rw [el]; exact hq⟩, s'⟩
      · have el : w.low = w := if_neg c
        have ep : plow w pl = pl := if_neg c
        walk_at "rd"
        exact q _ _ ⟨⟨wa, by rw [ep], by rw [el]; exact hw⟩, Same.refl H2⟩
      rintro σ' H3 ⟨⟨wa', rfl, hwl⟩, s3⟩
      have rows := rows.same s3
      have sm := sm.trans s3
      obtain ⟨z, hz⟩ : ∃ z, z = plow w pl := ⟨_, rfl⟩
      rw [← hz] at r0 r1 rc rt ⊢
      obtain ⟨L, hL⟩ : ∃ L, L = w.low := ⟨_, rfl⟩
      rw [← hL] at wfl tl t2 esl r1 rc rt wbn hwl ee ek er
      rw [esl] at r1
      have WBL : WkB L := by
        have hE : 3 * E ≤ 2 ^ 700 := by
          have h1 : ∀ n : Nat, 1 ≤ w.s ^ n := fun n => by
            have := Int.pow_pos (m := n) ws0; omega
          by_cases c : w.s = 1
          · omega
          · have h2 : 3 ≤ w.s ^ 5 := by
              have e5 : w.s ^ 5 = w.s ^ 4 * w.s := Int.pow_succ _ _
              have e4 : w.s ^ 4 = w.s ^ 3 * w.s := Int.pow_succ _ _
              have h3 := h1 3
              have := Int.mul_le_mul_of_nonneg_left (show (2 : Int) ≤ w.s by omega) (show 0 ≤ w.s ^ 3 by omega)
              have := Int.mul_le_mul_of_nonneg_left (show (2 : Int) ≤ w.s by omega) (show 0 ≤ w.s ^ 4 by have := h1 4; omega)
              omega
            have := Int.mul_le_mul_of_nonneg_left h2 e0
            omega
        have m0 := wfl.m0
        have ms := wfl.ms
        exact ⟨bbE (by omega) (by omega), bbE (by omega) (by omega), bbE (by omega) (by omega), bb129 (by omega) (by omega), bb129 (by omega) (by omega), bb129 (by omega) (by omega)⟩
      obtain ⟨A, hA, eA1, eA2⟩ := ahead_ok wfl tl r0 (by rw [esl]; exact r1)
      obtain ⟨qq, hqq⟩ : ∃ qq, qq = z % L.t := ⟨_, rfl⟩
      have qq0 : 0 ≤ qq := by rw [hqq]; exact Int.emod_nonneg _ (Int.ne_of_gt tl)
      have qq1 : qq < L.t := by rw [hqq]; exact Int.emod_lt_of_pos _ tl
      have Al : (A : Int) ≤ z := by rw [← hA]; exact Int.ediv_le_self _ r0
      have wlts := wfl.ts
      have c0 := hC_nn wfl qq0 (by omega) A
      rw [← hqq] at eA1 eA2
      have cb : L.cost qq A ≤ 2 ^ 703 := by
        have h1 : w.s * (3 * E) ≤ 2 ^ 700 * 3 := by
          have h5 : E * w.s * w.s ^ 4 = E * w.s ^ 5 := by
            have e5 : w.s ^ 5 = w.s ^ 4 * w.s := Int.pow_succ _ _
            rw [e5, Int.mul_comm (w.s ^ 4) w.s, Int.mul_assoc]
          have h4 : 1 ≤ w.s ^ 4 := by
            have := Int.pow_pos (m := 4) ws0; omega
          have := Int.mul_le_mul_of_nonneg_left h4 (show 0 ≤ E * w.s from Int.mul_nonneg e0 (Int.le_of_lt ws0))
          rw [Int.mul_one] at this
          rw [show w.s * (3 * E) = 3 * (E * w.s) by rw [Int.mul_left_comm, Int.mul_comm w.s]]; omega
        have a1 := wb_mul ee (show 0 ≤ (A : Int) by omega)
        have mn0 : 0 ≤ min (A : Int) (L.mst qq) := by
          have : 0 ≤ L.mst qq := by unfold Wk.mst; omega
          omega
        have a2 := wb_mul ek mn0
        have a3 := Int.mul_le_mul_of_nonneg_right (show (A : Int) ≤ w.s by omega) (show 0 ≤ 3 * E by omega)
        have a4 := Int.mul_le_mul_of_nonneg_right (show min (A : Int) (L.mst qq) ≤ w.s by omega) (show 0 ≤ 3 * E by omega)
        have e702 : (2 : Int) ^ 703 = 8 * 2 ^ 700 := by rw [show (703 : Nat) = 700 + 3 from rfl, Int.pow_add, Int.mul_comm]; rfl
        unfold Wk.cost
        omega
      have e130 : (2 : Int) ^ 130 = 2 * 2 ^ 129 := by decide +kernel
      have zb : z.natAbs < 2 ^ 900 := Nat.lt_of_lt_of_le (lt_two_pow 130 r0 (by omega)) (Nat.pow_le_pow_right (by decide) (by decide))
      have Ab : (A : Int).natAbs < 2 ^ 600 := Nat.lt_of_lt_of_le (lt_two_pow 130 (by omega) (by omega)) (Nat.pow_le_pow_right (by decide) (by decide))
      walk_at "rd"
      refine w_fW T rfl hwl T.na_Walk_step (wk2 L) ?_
      walk_at "rd"
      refine ⟨z, L.t, rfl, bits130 zb tl, fun qd hqd => ?_⟩
      rw [hA, ← hqq]
      have s4 := sm_new (o := .tup [.int (A : Int), .int qq]) (Same.refl H3) hqd
      have hqd' : (L2.upd H3 qd (.tup [.int (A : Int), .int qq])) qd = some (.tup [.int (A : Int), .int qq]) := upd_same
      generalize L2.upd H3 qd _ = H4 at s4 hqd' ⊢
      have hw4 := hwl.same s4
      obtain ⟨dx4, e4⟩ := id hw4
      walk_at "rd"
      refine w_aug rfl ?_
      refine w_methA ?_
      walk_at "rd"
      refine ⟨wa', dx4, _, rfl, e4, nW2 L, ?_⟩
      walk_at "rd"
      refine ⟨wa', L, qq, A, rfl, hw4, tl, WBL, Ab, by omega, ?_⟩
      refine ⟨_, _, rfl, rfl, ?_⟩
      walk_at "rd"
      refine w_bm ?_
      walk_at "rd"
      obtain ⟨ts4, hD4, _, _⟩ := rows.same s4
      refine ⟨.inl ⟨rfl, _, SqL.of hD4⟩, ?_⟩
      walk_at "rd"
      refine ⟨by show 3 ≤ sizeLine; decide, fun t3 ht3 => ?_⟩
      have s5 := sm_new (o := .tup [.ref wa', .int qq, .int (A : Int)]) s4 ht3
      have ht3' : (L2.upd H4 t3 (.tup [.ref wa', .int qq, .int (A : Int)])) t3 = some (.tup [.ref wa', .int qq, .int (A : Int)]) := upd_same
      generalize L2.upd H4 t3 _ = H5 at s5 ht3' ⊢
      obtain ⟨ts, hD5, tl5, rw5⟩ := rows.same s5
      have hw5 := hwl.same s5
      have lenb : st.length ≤ 200 := by
        refine Nat.le_of_not_lt fun z => ?_
        have h1 := Int.mul_le_mul_of_nonneg_right (show (1 : Int) ≤ w.s by omega) (Int.le_of_lt (Int.pow_pos (m := st.length) (show (0 : Int) < 2 by decide)))
        have h2 : (2 : Int) ^ 130 ≤ 2 ^ st.length := by
          have := Nat.pow_le_pow_right (n := 2) (by decide) (show 130 ≤ st.length by omega)
          exact_mod_cast this
        have h3 : (2 : Int) ^ 129 < 2 ^ 130 := by decide +kernel
        omega
      refine ⟨D, _, _, rfl, rfl, hD5, by rw [List.length_map, tl5]; exact small1000 (by omega), ?_⟩
      have rows6 := Rows.push hD5 tl5 rw5 (e := (L, qq, A, b + L.cost qq A)) ⟨wa', ht3', hw5⟩
      have hw6 := hw5.mut (ys := ts.map V.ref ++ [.ref t3]) hD5
      have sm6 := sm_mut (o := .lst (ts.map V.ref ++ [.ref t3])) (sm.trans s5) hDn
      generalize L2.upd H5 D _ = H6 at rows6 hw6 sm6 ⊢
      obtain ⟨dx6, e6⟩ := id hw6
      walk_at "rd"
      refine ⟨wa', dx6, _, rfl, e6, nW5 L, wa', L, rfl, hw6, tl, wfl, WBL, fun q7 H7 s7 hw7 => ?_⟩
      walk_at "rd"
      refine ⟨L.laps.s.toNat, ?_, q7, L.laps, qq, b + L.cost qq A, (L, qq, A, b + L.cost qq A) :: st, N' + A, _, rfl, rfl, hw7, laps_wf wfl tl, wbn, qq0, qq1, by omega, ?_, ?_, ?_, ?_, ⟨rfl, rfl, rfl, ⟨wfl, tl, qq0, qq1, WBL⟩, w, pl, b, ch, fun n g h => ⟨?_, h.2.1⟩, fun X g h => ?_⟩, rows6.same s7, sm6.trans s7⟩
      · show L.t.toNat < w.s.toNat; omega
      · show b + L.cost qq A + 2 ^ 710 * L.t ≤ 2 ^ 850
        have h1 := Int.mul_le_mul_of_nonneg_left (show L.t ≤ w.s - 1 by omega) (show (0 : Int) ≤ 2 ^ 710 by decide +kernel)
        rw [Int.mul_sub, Int.mul_one] at h1
        have h2 : (2 : Int) ^ 703 ≤ 2 ^ 710 := by decide +kernel
        omega
      · obtain ⟨S, hS, _, eS, _⟩ := lap_many wfl tl qq0 qq1 (N' + A)
        rw [← eS]
        have h1 := hC_mono wfl qq0 (show qq < L.s by omega) (show A + N' ≤ S by omega)
        rw [hC_add, eA1, rc, eA2] at h1
        omega
      · show ((N' + A : Nat) : Int) + 2 ^ 130 * L.t ≤ 2 ^ 402
        have h1 := Int.mul_le_mul_of_nonneg_left (show L.t ≤ w.s - 1 by omega) (show (0 : Int) ≤ 2 ^ 130 by decide +kernel)
        rw [Int.mul_sub, Int.mul_one] at h1
        have h2 : (2 : Int) ^ 129 ≤ 2 ^ 130 := by decide +kernel
        rw [Int.natCast_add]; omega
      · show L.t * 2 ^ (st.length + 1) ≤ 2 ^ 129
        have h1 := Int.mul_le_mul_of_nonneg_right t2 (Int.le_of_lt (Int.pow_pos (m := st.length) (show (0 : Int) < 2 by decide)))
        have e5 : (2 : Int) ^ (st.length + 1) = 2 ^ st.length * 2 := Int.pow_succ _ _
        rw [e5, Int.mul_comm (2 ^ st.length) 2, ← Int.mul_assoc, Int.mul_comm L.t 2]
        omega
      · have h1 := hT_lt wf l0 l1 h hN'
        have h2 := Int.mul_nonneg (show (0 : Int) ≤ 2 ^ 130 by decide +kernel) (show 0 ≤ w.s by omega)
        have c : ((2 ^ 402 : Nat) : Int) = (2 : Int) ^ 402 := Int.natCast_pow 2 402
        omega
      · have h : hT L qq (b + L.cost qq A) X g := h
        rw [← eA2] at h
        obtain ⟨h1, h2⟩ := ahead_hT wfl qq0 (show qq < L.s by omega) b0 eA1 h
        exact ⟨h1, rt h2⟩
    · have wt : w.t = 0 := by omega
      obtain ⟨c0, n, en, hnT⟩ := base_hT wf wt l0 l1 b0 hN'
      have bb : b.natAbs < 2 ^ 900 := by
        have h1 := Int.mul_nonneg (show (0 : Int) ≤ 2 ^ 710 by decide +kernel) (show 0 ≤ w.s by omega)
        have h2 : (2 : Int) ^ 850 < 2 ^ 900 := by decide +kernel
        exact lt_two_pow 900 b0 (by omega)
      have bd0 : Bnd w pl b := fun n g h => ⟨by
        have h1 := hT_lt wf l0 l1 h hN'
        have h2 := Int.mul_nonneg (show (0 : Int) ≤ 2 ^ 130 by decide +kernel) (show 0 ≤ w.s by omega)
        have c : ((2 ^ 402 : Nat) : Int) = (2 : Int) ^ 402 := Int.natCast_pow 2 402
        omega, h.2.1⟩
      walk_at "rd"
      refine w_fW T rfl hw T.na_Walk_each (wk4 w) ?_
      walk_at "rd"
      refine w_ifJ (fun v H' => v = .int (if pl < w.m then w.k else 0) ∧ H2 = H') (fun Q hQ => ?_) ?_
      · refine w_if ?_
        walk_at "rd"
        refine w_fW T rfl hw T.na_Walk_marks (wk3 w) ?_
        walk_at "rd"
        refine w_dec (fun c => ?_) (fun c => ?_)
        · walk_at "rd"
          refine w_fW T rfl hw T.na_Walk_marked (wk5 w) ?_
          exact hQ _ _ ⟨by rw [if_pos c], rfl⟩
        · walk_at "rd"
          exact hQ _ _ ⟨by rw [if_neg c], rfl⟩
      rintro v _ ⟨rfl, rfl⟩
      walk_at "rd"
      refine ⟨b, _, rfl, bits130 bb c0, fun qd hqd => ?_⟩
      rw [en]
      have s3 := sm_new (o := .tup [.int (n : Int), .int (b % (w.e + (if pl < w.m then w.k else 0)))]) (Same.refl H2) hqd
      have hqd' : (L2.upd H2 qd (.tup [.int (n : Int), .int (b % (w.e + (if pl < w.m then w.k else 0)))])) qd = some (.tup [.int (n : Int), .int (b % (w.e + (if pl < w.m then w.k else 0)))]) := upd_same
      generalize L2.upd H2 qd _ = H3 at s3 hqd' ⊢
      generalize b % (w.e + (if pl < w.m then w.k else 0)) = g0 at hnT hqd' ⊢
      obtain ⟨ts, hD3, tl3, rw3⟩ := rows.same s3
      have smF := sm.trans s3
      walk_at "rd"
      refine w_itR ?_
      walk_at "rd"
      refine ⟨D, ts.map V.ref, rfl, SqL.of hD3, for_it (walk_rev (K := K) (a := D) (xs := ts.map V.ref)) (fun i σ H' => (∃ (w' : Wk) (pl' b' : Int) (N : Nat) (g : Int) (v3 v5 v8 v10 v11 v12 : Option V), σ = [some (.int s), some (.int t), some (.int m), v3, some (.int j), v5, some (.int g), some (.ref D), v8, some (.int (N : Int)), v10, v11, v12] ∧ Chain W0 p j (st.drop i) w' pl' b' ∧ Bnd w' pl' b' ∧ hT w' pl' b' N g) ∧ H3 = H') ⟨⟨w, pl, b, n, g0, _, _, _, _, _, _, rfl, ch, bd0, hnT⟩, rfl⟩ (fun i σ H' _ q => by rw [← q.2]; exact SqL.of hD3) ?_ ?_⟩
      · rintro i x σ H' H'' hi ⟨⟨w', pl', b', N, g, v3, v5, v8, v10, v11, v12, rfl, ch', bd', hT'⟩, rfl⟩ ⟨rfl, hx⟩
        rw [List.length_map] at hi hx
        obtain ⟨tt, htt, rfl⟩ := map_get hx
        have il : i < st.length := by omega
        have hst : st[i]? = some st[i] := List.getElem?_eq_getElem il
        obtain ⟨wv, hrow, hwv⟩ := rw3 _ tt st[i] htt (by rw [tl3, List.getElem?_reverse (by omega), show st.length - 1 - (st.length - 1 - i) = i by omega]; exact hst)
        rw [List.drop_eq_getElem_cons il] at ch'
        generalize st[i] = e at ch' hrow hwv
        obtain ⟨v, q, A, c⟩ := e
        obtain ⟨ew, ep, eb, ent, w2, p2', b2, ch2, bd2, nxt⟩ := ch'
        dsimp only at ew ep eb ent nxt hwv hrow
        have ew' := ew.symm
        have ep' := ep.symm
        have eb' := eb.symm
        subst ew' ep' eb'
        clear ew ep eb
        obtain ⟨vwf, vt0, q0, q1, vwb⟩ := ent
        obtain ⟨S, nn, eS, g1, g2, ef, hb2⟩ := back_ok vwf vt0 q0 q1 hT'
        obtain ⟨nb, g0'⟩ := bd' N g hT'
        obtain ⟨ax, hn2⟩ := nxt _ _ hb2
        have vs1 : v.s.natAbs < 2 ^ 130 := vwb.s
        have nb' : (N : Int).natAbs < 2 ^ 402 := by rw [Int.natAbs_natCast]; exact nb
        obtain ⟨dxv, ev⟩ := id hwv
        have vts := vwf.ts
        have NsB : (N * v.s).natAbs < 2 ^ 532 := Nat.lt_of_lt_of_eq (wide_lt nb' vs1) rfl
        have SB : (S : Int).natAbs < 2 ^ 600 := by
          have h1 : (S : Int) * 1 ≤ S * v.t := Int.mul_le_mul_of_nonneg_left (by omega) (by omega)
          have h2 : (2 : Nat) ^ 532 + 2 ^ 130 ≤ 2 ^ 600 := by decide +kernel
          omega
        have moreB : (nn : Int).natAbs < 2 ^ 600 := by
          obtain ⟨n3, e3, l3, _, _⟩ := sfor_ok vwf vt0 g1 g2 g0'
          have mo1 : v.most (S * v.t - (N * v.s - q)) ≤ v.s := by
            have mo0 : 0 ≤ v.most (S * v.t - (N * v.s - q)) := (most_iff (w := v) vt0).mpr (by rw [Int.zero_mul]; omega)
            have := (most_iff (w := v) vt0 (b := S * v.t - (N * v.s - q)) (i := v.most (S * v.t - (N * v.s - q)))).mp (Int.le_refl _)
            have := Int.mul_le_mul_of_nonneg_left (show (1 : Int) ≤ v.t by omega) mo0
            omega
          have h2 : (2 : Nat) ^ 130 ≤ 2 ^ 600 := Nat.pow_le_pow_right (by decide) (by decide)
          rw [ef] at e3
          omega
        walk_at "rd"
        refine w_fW T rfl hwv T.na_Walk_size (wk1 v) ?_
        refine w_I (mulx_ok nb' vs1 (by decide)) ?_
        walk_at "rd"
        refine w_fW T rfl hwv T.na_Walk_step (wk2 v) ?_
        refine w_I (wide_div vt0 vwb.t (by decide) (by decide)) ?_
        walk_at "rd"
        rw [show -(-(N * v.s - q) / v.t) = v.steps q N from rfl, eS]
        refine w_fW T rfl hwv T.na_Walk_step (wk2 v) ?_
        refine w_I (mulx_ok SB vwb.t (by decide)) ?_
        walk_at "rd"
        refine w_methA ?_
        walk_at "rd"
        refine ⟨wv, dxv, _, rfl, ev, nW3 v, ?_⟩
        walk_at "rd"
        refine ⟨wv, v, _, g, rfl, hwv, vt0, vwf, vwb, g1, g2, g0', ?_⟩
        rw [ef]
        walk_at "rd"
        refine w_aug rfl ?_
        refine w_methA ?_
        walk_at "rd"
        refine ⟨wv, dxv, _, rfl, ev, nW2 v, ?_⟩
        walk_at "rd"
        refine ⟨wv, v, _, nn, rfl, hwv, vt0, vwb, moreB, by omega, ?_⟩
        refine ⟨_, _, rfl, rfl, ?_⟩
        walk_at "rd"
        refine w_aug rfl ?_
        walk_at "rd"
        refine ⟨_, _, rfl, rfl, ?_⟩
        refine ⟨⟨w2, p2', b2, S + nn - A, _, some (.int q), some (.ref wv), some (.int (A : Int)), some (.int (N * v.s - q)), some (.int (S * v.t - (N * v.s - q))), some (.int (nn : Int)), ?_, ch2, bd2, hn2⟩, rfl⟩
        have ax' : A ≤ S + nn := ax
        rw [show ((S + nn - A : Nat) : Int) = (S : Int) + ((nn : Int) - (A : Int)) by omega]
        rfl
      · rintro σ H' ⟨⟨w', pl', b', N, g, v3, v5, v8, v10, v11, v12, rfl, ch', bd', hT'⟩, rfl⟩
        rw [List.length_map, tl3, List.drop_length] at ch'
        obtain ⟨rfl, rfl, rfl⟩ := ch'
        walk_at "rd"
        exact k N g _ hT' smF
def sp_hit_at (K : PySem.W.Frag) (C : Addr) (C_Walk : Addr) (TS : List (Addr × Str)) : Sp := fun vs H Q _ => ∃ (l : Addr) (a b S f lo hi j : Int) (N : Nat), vs = [.ref l, .int S, .int f, .int lo, .int hi, .int j] ∧ H l = some (.tup [.int a, .int b]) ∧ BB a ∧ BB f ∧ 0 < S ∧ S ≤ 2 ^ 129 ∧ lo ≤ hi + 1 ∧ hi - lo + 1 ≤ S ∧ 0 ≤ j ∧ j < 2 ^ 400 ∧ N < 2 ^ 400 ∧ j < hC ⟨S, a % S, hi - lo + 1, 0, 1, 0⟩ N ((a * f + b - lo) % S) ∧ ∀ (n : Nat) (g : Int) H', hT ⟨S, a % S, hi - lo + 1, 0, 1, 0⟩ ((a * f + b - lo) % S) j n g → Same H H' → Q (.int (f + (n : Int))) H'
theorem ok_hit_at {P : Program} {w : World} {K : PySem.W.Frag} {mg : Str → Option Value} {base : Heap} (T : Txt K mg) : FnOk P w K mg base CX0 5 T.f_hit_at T.fd_hit_at ["line", "size", "first", "low", "high", "j"] (sp_hit_at K T.C_Kind T.C_Walk []) := by
  have G__steps_to_visit := ok__steps_to_visit (P := P) (w := w) (base := base) T
  refine T.F_hit_at.ok sc_hit_at (fun vs H Q E h => ?_) (fun cdv A outer s H vs Q E hr h => ?_)
  · obtain ⟨l, a, b, S, f, lo, hi, j, N, rfl, _⟩ := h
    rfl
  · obtain ⟨l, a, b, S, f, lo, hi, j, N, rfl, h⟩ := h
    have hr__steps_to_visit : Room 4 _ := hr.mono (by decide)
    refine ⟨_, (pss_cons (ps_asg (pv 0 (hv := Or.inl rfl)) (pg_tup rfl (pgs_cons (pg_name (i := 6) sc_hit_at.nd rfl (Or.inl rfl)) (pgs_cons (pg_name (i := 7) sc_hit_at.nd rfl (Or.inl rfl)) pgs_nil))))
      (pss_one (ps_ret (pe_op op_add (pv 2 (hv := Or.inl rfl)) (pe_call G__steps_to_visit hr__steps_to_visit rfl T.g__steps_to_visit T.k__steps_to_visit T.b__steps_to_visit .nil pass0 (pa_cons (pv 1 (hv := Or.inl rfl)) (pa_cons (pe_op op_mod (pv 6 (hv := Or.inl rfl)) (pv 1 (hv := Or.inl rfl))) (pa_cons (pe_op op_add (pe_op op_sub (pv 4 (hv := Or.inl rfl)) (pv 3 (hv := Or.inl rfl))) pe_int) (pa_cons (pe_op op_mod (pe_op op_sub (pe_op op_add (pe_op op_mulX (pv 6 (hv := Or.inl rfl)) (pv 2 (hv := Or.inl rfl))) (pv 7 (hv := Or.inl rfl))) (pv 3 (hv := Or.inl rfl))) (pv 1 (hv := Or.inl rfl))) (pa_cons (pv 5 (hv := Or.inl rfl)) pa_nil)))))))))), ?_⟩
    try dsimp only [cxOf, Cx.nox, Cx.wish, Cx.blk]
    rw [show L2.start ["line", "size", "first", "low", "high", "j", "a", "b"] [.ref l, .int S, .int f, .int lo, .int hi, .int j] = [some (.ref l), some (.int S), some (.int f), some (.int lo), some (.int hi), some (.int j), none, none] from rfl]
    obtain ⟨hl, ba, bf, s0, s1, lh, hs, j0, j1, N1, hN, k⟩ := h
    walk_at "rd"
    refine w_I s0 ?_
    walk_at "rd"
    refine w_I (mulx_ok ba bf (by decide)) ?_
    walk_at "rd"
    refine w_I s0 ?_
    have wf : WF ⟨S, a % S, hi - lo + 1, 0, 1, 0⟩ := ⟨s0, Int.emod_nonneg _ (Int.ne_of_gt s0), Int.emod_lt_of_pos _ s0, by show 0 ≤ hi - lo + 1; omega, hs, fun p _ _ => by
      unfold hc
      show 0 ≤ (0 : Int) + (if p < hi - lo + 1 then 1 else 0) + (if S ≤ p + a % S then 0 else 0)
      split <;> split <;> omega⟩
    walk_at "rd"
    refine ⟨S, a % S, hi - lo + 1, (a * f + b - lo) % S, j, N, rfl, wf, s1, Int.emod_nonneg _ (Int.ne_of_gt s0), Int.emod_lt_of_pos _ s0, j0, j1, N1, hN, fun n g H1 h s1 => ?_⟩
    walk_at "rd"
    exact k n g H1 h s1
def sp_is_integer (K : PySem.W.Frag) (C : Addr) (C_Walk : Addr) (TS : List (Addr × Str)) : Sp := fun vs H Q _ => ∃ (v : V) (b : Bool), vs = [v] ∧ IntQ K H v b ∧ Q (.bl b) H
theorem ok_is_integer {P : Program} {w : World} {K : PySem.W.Frag} {mg : Str → Option Value} {base : Heap} (T : Txt K mg) : FnOk P w K mg base CX0 1 T.f_is_integer T.fd_is_integer ["value"] (sp_is_integer K T.C_Kind T.C_Walk []) := by
  refine T.F_is_integer.ok sc_is_integer (fun vs H Q E h => ?_) (fun cdv A outer s H vs Q E hr h => ?_)
  · obtain ⟨v, b, rfl, _⟩ := h
    rfl
  · obtain ⟨v, b, rfl, h⟩ := h
    refine ⟨_, (pss_one (ps_ret (pe_and (pe_callB (id := "isinstance") (r := rIsi K) call_isi (by rfl) T.n_isinstance (by decide +kernel) (pa_cons (pv 0 (hv := Or.inl rfl)) (pa_cons (pe_bltn (v := .ty "int") (by rfl) T.n_int (by decide +kernel) rfl) pa_nil))) (pe_one (pe_not (pe_callB (id := "isinstance") (r := rIsi K) call_isi (by rfl) T.n_isinstance (by decide +kernel) (pa_cons (pv 0 (hv := Or.inl rfl)) (pa_cons (pe_bltn (v := .ty "bool") (by rfl) T.n_bool (by decide +kernel) rfl) pa_nil)))))))), ?_⟩
    try dsimp only [cxOf, Cx.nox, Cx.wish, Cx.blk]
    rw [show L2.start ["value"] [v] = [some (v)] from rfl]
    obtain ⟨⟨t, ty, e1, -, c, e2, e3⟩, k⟩ := h
    walk_at "rd"
    refine w_isi ty e1 ?_
    walk_at "rd"
    cases hb : (b || t == "bool") with
    | false =>
      rw [hb] at e3
      have e3 : false = b := e3
      refine iteF ?_
      rw [e3]; exact k
    | true =>
      rw [hb] at e3
      refine iteT ?_
      walk_at "rd"
      refine w_isi ty e2 ?_
      walk_at "rd"
      have e4 : (!c) = b := e3
      rw [e4]; exact k
def sp_is_sixty_digits (K : PySem.W.Frag) (C : Addr) (C_Walk : Addr) (TS : List (Addr × Str)) : Sp := fun vs H Q _ => ∃ (i : Int), vs = [.int i] ∧ Q (.bl (decide (-(10 ^ 60) < i ∧ i < 10 ^ 60))) H
theorem ok_is_sixty_digits {P : Program} {w : World} {K : PySem.W.Frag} {mg : Str → Option Value} {base : Heap} (T : Txt K mg) : FnOk P w K mg base CX0 2 T.f_is_sixty_digits T.fd_is_sixty_digits ["value"] (sp_is_sixty_digits K T.C_Kind T.C_Walk []) := by
  have G_is_integer := ok_is_integer (P := P) (w := w) (base := base) T
  refine T.F_is_sixty_digits.ok sc_is_sixty_digits (fun vs H Q E h => ?_) (fun cdv A outer s H vs Q E hr h => ?_)
  · obtain ⟨i, rfl, _⟩ := h
    rfl
  · obtain ⟨i, rfl, h⟩ := h
    have hr_is_integer : Room 1 _ := hr.mono (by decide)
    refine ⟨_, (pss_one (ps_ret (pe_and (pe_call G_is_integer hr_is_integer rfl T.g_is_integer T.k_is_integer T.b_is_integer .nil pass0 (pa_cons (pv 0 (hv := Or.inl rfl)) pa_nil)) (pe_one (pe_cmpR op_lt (pe_callB (id := "abs") (r := rAbsC) call_abs (by rfl) T.n_abs (by decide +kernel) (pa_cons (pv 0 (hv := Or.inl rfl)) pa_nil)) (pe_glob (v := .int 1000000000000000000000000000000000000000000000000000000000000) rfl T.g_BEYOND_SIXTY_DIGITS ⟨_, rfl⟩) (nomark _)))))), ?_⟩
    try dsimp only [cxOf, Cx.nox, Cx.wish, Cx.blk]
    rw [show L2.start ["value"] [.int i] = [some (.int i)] from rfl]
    walk_at "rd"
    refine ⟨.int i, true, rfl, IntQ.int i, ?_⟩
    walk_at "rd"
    refine iteT ?_
    walk_at "rd"
    have e : decide (ab i < 1000000000000000000000000000000000000000000000000000000000000) = decide (-(10 ^ 60) < i ∧ i < 10 ^ 60) := by
      unfold ab
      by_cases c : i < 0
      · rw [if_pos c]
        by_cases d : -(10 ^ 60) < i
        · rw [decide_eq_true (show -i < 1000000000000000000000000000000000000000000000000000000000000 by omega), decide_eq_true ⟨d, by omega⟩]
        · rw [decide_eq_false (show ¬ -i < 1000000000000000000000000000000000000000000000000000000000000 by omega), decide_eq_false fun z => d z.1]
      · rw [if_neg c]
        by_cases d : i < 10 ^ 60
        · rw [decide_eq_true (show i < 1000000000000000000000000000000000000000000000000000000000000 by omega), decide_eq_true ⟨by omega, d⟩]
        · rw [decide_eq_false (show ¬ i < 1000000000000000000000000000000000000000000000000000000000000 by omega), decide_eq_false fun z => d z.2]
    rw [e]
    exact h
def sp_check_sixty_digits (K : PySem.W.Frag) (C : Addr) (C_Walk : Addr) (TS : List (Addr × Str)) : Sp := fun vs H Q _ => ∃ (i : Int) (z : Str), vs = [.int i, .str z] ∧ SD i ∧ Q .non H
theorem ok_check_sixty_digits {P : Program} {w : World} {K : PySem.W.Frag} {mg : Str → Option Value} {base : Heap} (T : Txt K mg) : FnOk P w K mg base CX0 3 T.f_check_sixty_digits T.fd_check_sixty_digits ["value", "argument"] (sp_check_sixty_digits K T.C_Kind T.C_Walk []) := by
  have G_is_sixty_digits := ok_is_sixty_digits (P := P) (w := w) (base := base) T
  refine T.F_check_sixty_digits.ok sc_check_sixty_digits (fun vs H Q E h => ?_) (fun cdv A outer s H vs Q E hr h => ?_)
  · obtain ⟨i, z, rfl, _⟩ := h
    rfl
  · obtain ⟨i, z, rfl, h⟩ := h
    have hr_is_sixty_digits : Room 2 _ := hr.mono (by decide)
    refine ⟨_, (pss_one (ps_if (pt_not (pt_val (pe_call G_is_sixty_digits hr_is_sixty_digits rfl T.g_is_sixty_digits T.k_is_sixty_digits T.b_is_sixty_digits .nil pass0 (pa_cons (pv 0 (hv := Or.inl rfl)) pa_nil)))) (pss_one ps_never) pss_nil)), ?_⟩
    try dsimp only [cxOf, Cx.nox, Cx.wish, Cx.blk]
    rw [show L2.start ["value", "argument"] [.int i, .str z] = [some (.int i), some (.str z)] from rfl]
    obtain ⟨sd, k⟩ := h
    walk_at "rd"
    refine ⟨i, rfl, ?_⟩
    walk_at "rd"
    rw [decide_eq_true (show -(10 ^ 60) < i ∧ i < 10 ^ 60 from sd)]
    refine iteF ?_
    walk_at "rd"
    exact k
def sp_is_count (K : PySem.W.Frag) (C : Addr) (C_Walk : Addr) (TS : List (Addr × Str)) : Sp := fun vs H Q _ => ∃ (i : Int), vs = [.int i] ∧ Q (.bl (decide (0 ≤ i))) H
theorem ok_is_count {P : Program} {w : World} {K : PySem.W.Frag} {mg : Str → Option Value} {base : Heap} (T : Txt K mg) : FnOk P w K mg base CX0 2 T.f_is_count T.fd_is_count ["value"] (sp_is_count K T.C_Kind T.C_Walk []) := by
  have G_is_integer := ok_is_integer (P := P) (w := w) (base := base) T
  refine T.F_is_count.ok sc_is_count (fun vs H Q E h => ?_) (fun cdv A outer s H vs Q E hr h => ?_)
  · obtain ⟨i, rfl, _⟩ := h
    rfl
  · obtain ⟨i, rfl, h⟩ := h
    have hr_is_integer : Room 1 _ := hr.mono (by decide)
    refine ⟨_, (pss_one (ps_ret (pe_and (pe_call G_is_integer hr_is_integer rfl T.g_is_integer T.k_is_integer T.b_is_integer .nil pass0 (pa_cons (pv 0 (hv := Or.inl rfl)) pa_nil)) (pe_one (pe_cmpR op_ge (pv 0 (hv := Or.inl rfl)) pe_int (nomark _)))))), ?_⟩
    try dsimp only [cxOf, Cx.nox, Cx.wish, Cx.blk]
    rw [show L2.start ["value"] [.int i] = [some (.int i)] from rfl]
    walk_at "rd"
    refine ⟨.int i, true, rfl, IntQ.int i, ?_⟩
    walk_at "rd"
    refine iteT ?_
    walk_at "rd"
    exact h
def sp_check_number (K : PySem.W.Frag) (C : Addr) (C_Walk : Addr) (TS : List (Addr × Str)) : Sp := fun vs H Q _ => ∃ (j t : Int), vs = [.int j, .int t] ∧ 0 ≤ j ∧ j < t ∧ Q .non H
theorem ok_check_number {P : Program} {w : World} {K : PySem.W.Frag} {mg : Str → Option Value} {base : Heap} (T : Txt K mg) : FnOk P w K mg base CX0 3 T.f_check_number T.fd_check_number ["j", "total"] (sp_check_number K T.C_Kind T.C_Walk []) := by
  have G_is_count := ok_is_count (P := P) (w := w) (base := base) T
  refine T.F_check_number.ok sc_check_number (fun vs H Q E h => ?_) (fun cdv A outer s H vs Q E hr h => ?_)
  · obtain ⟨j, t, rfl, _⟩ := h
    rfl
  · obtain ⟨j, t, rfl, h⟩ := h
    have hr_is_count : Room 2 _ := hr.mono (by decide)
    refine ⟨_, (pss_one (ps_if (pt_not (PW.pt (pw_and (pt_val (pe_call G_is_count hr_is_count rfl T.g_is_count T.k_is_count T.b_is_count .nil pass0 (pa_cons (pv 0 (hv := Or.inl rfl)) pa_nil))) (pw_and1 (pt_cmpR op_lt (pv 0 (hv := Or.inl rfl)) (pv 1 (hv := Or.inl rfl)) (nomark _)))))) (pss_one ps_never) pss_nil)), ?_⟩
    try dsimp only [cxOf, Cx.nox, Cx.wish, Cx.blk]
    rw [show L2.start ["j", "total"] [.int j, .int t] = [some (.int j), some (.int t)] from rfl]
    obtain ⟨h1, h2, k⟩ := h
    walk_at "rd"
    refine ⟨j, rfl, ?_⟩
    walk_at "rd"
    refine w_decT h1 ?_
    walk_at "rd"
    refine w_bF (by rw [decide_eq_true h2]; rfl) ?_
    walk_at "rd"
    exact k
def sp_Kind___init__ (K : PySem.W.Frag) (C : Addr) (C_Walk : Addr) (TS : List (Addr × Str)) : Sp := fun vs H Q _ => ∃ (p : Addr) (wd : Nat) (s : Bool), vs = [.ref p, .int (wd : Int), .bl s] ∧ (∃ dx, H p = some (.ins C dx [])) ∧ 1 ≤ wd ∧ wd ≤ 128 ∧ ∀ H', Kd C H' p wd s → Kp p H H' → Q .non H'
theorem ok_Kind___init__ {P : Program} {w : World} {K : PySem.W.Frag} {mg : Str → Option Value} {base : Heap} (T : Txt K mg) : FnOk P w K mg base CX0 2 T.f_Kind___init__ T.fd_Kind___init__ ["self", "bits", "is_signed"] (sp_Kind___init__ K T.C_Kind T.C_Walk []) := by
  have G_is_integer := ok_is_integer (P := P) (w := w) (base := base) T
  refine T.F_Kind___init__.ok sc_Kind___init__ (fun vs H Q E h => ?_) (fun cdv A outer s H vs Q E hr h => ?_)
  · obtain ⟨p, wd, s, rfl, _⟩ := h
    rfl
  · obtain ⟨p, wd, s, rfl, h⟩ := h
    have hr_is_integer : Room 1 _ := hr.mono (by decide)
    refine ⟨_, (pss_cons (ps_if (pt_not (PW.pt (pw_and (pt_val (pe_call G_is_integer hr_is_integer rfl T.g_is_integer T.k_is_integer T.b_is_integer .nil pass0 (pa_cons (pv 1 (hv := Or.inl rfl)) pa_nil))) (pw_and1 (pt_chain op_le op_le pe_int (pv 1 (hv := Or.inl rfl)) (pe_glob (v := .int 128) rfl T.g_MOST_BITS ⟨_, rfl⟩)))))) (pss_one ps_never) pss_nil)
      (pss_cons (ps_if (pt_not (pt_val (pe_callB (id := "isinstance") (r := rIsi K) call_isi (by rfl) T.n_isinstance (by decide +kernel) (pa_cons (pv 2 (hv := Or.inl rfl)) (pa_cons (pe_bltn (v := .ty "bool") (by rfl) T.n_bool (by decide +kernel) rfl) pa_nil))))) (pss_one ps_never) pss_nil)
      (pss_cons (ps_fld (pv 0 (hv := Or.inl rfl)) (pv 1 (hv := Or.inl rfl)) rfl)
      (pss_one (ps_fld (pv 0 (hv := Or.inl rfl)) (pv 2 (hv := Or.inl rfl)) rfl))))), ?_⟩
    try dsimp only [cxOf, Cx.nox, Cx.wish, Cx.blk]
    rw [show L2.start ["self", "bits", "is_signed"] [.ref p, .int (wd : Int), .bl s] = [some (.ref p), some (.int (wd : Int)), some (.bl s)] from rfl]
    obtain ⟨⟨dx, hp⟩, h1, h2, k⟩ := h
    walk_at "rd"
    refine ⟨_, true, rfl, IntQ.int _, ?_⟩
    walk_at "rd"
    refine iteT ?_
    walk_at "rd"
    refine w_chain ?_
    walk_at "rd"
    refine w_decT (by omega) ?_
    walk_at "rd"
    refine w_bF (by rw [decide_eq_true (show ((wd : Int) ≤ 128) by omega)]; rfl) ?_
    walk_at "rd"
    refine w_isi (b := true) (.base (.bl s)) (by decide +kernel) ?_
    walk_at "rd"
    refine iteF ?_
    walk_at "rd"
    refine ⟨p, _, dx, _, rfl, hp, T.cl_Kind, T.na_Kind_bits, (by show 0 < 1000; decide), ?_⟩
    walk_at "rd"
    refine ⟨p, _, dx, _, rfl, upd_same, T.cl_Kind, T.na_Kind_is_signed, (by show 1 < 1000; decide), ?_⟩
    refine k _ ⟨⟨dx, ?_⟩, h1, h2⟩ ((Kp.refl p H).upd.upd)
    rw [upd_same]
    show some (HO.ins _ _ (if ("bits" : Str) = "is_signed" then [(("bits" : Str), V.bl s)] else (("bits" : Str), V.int (wd : Int)) :: putF "is_signed" (V.bl s) [])) = _
    rw [if_neg (by decide +kernel)]
    rfl
def sp_check_kind (K : PySem.W.Frag) (C : Addr) (C_Walk : Addr) (TS : List (Addr × Str)) : Sp := fun vs H Q _ => ∃ (p : Addr), vs = [.ref p] ∧ (∃ wd s, Kd C H p wd s) ∧ Q .non H
theorem ok_check_kind {P : Program} {w : World} {K : PySem.W.Frag} {mg : Str → Option Value} {base : Heap} (T : Txt K mg) : FnOk P w K mg base CX0 1 T.f_check_kind T.fd_check_kind ["kind"] (sp_check_kind K T.C_Kind T.C_Walk []) := by
  refine T.F_check_kind.ok sc_check_kind (fun vs H Q E h => ?_) (fun cdv A outer s H vs Q E hr h => ?_)
  · obtain ⟨p, rfl, _⟩ := h
    rfl
  · obtain ⟨p, rfl, h⟩ := h
    refine ⟨_, (pss_one (ps_if (pt_not (pt_val (pe_callB (id := "isinstance") (r := rIsi K) call_isi (by rfl) T.n_isinstance (by decide +kernel) (pa_cons (pv 0 (hv := Or.inl rfl)) (pa_cons (pe_glob (v := .ref T.C_Kind) rfl T.g_Kind rfl) pa_nil))))) (pss_one ps_never) pss_nil)), ?_⟩
    try dsimp only [cxOf, Cx.nox, Cx.wish, Cx.blk]
    rw [show L2.start ["kind"] [.ref p] = [some (.ref p)] from rfl]
    obtain ⟨⟨wd, s, hk⟩, k⟩ := h
    walk_at "rd"
    refine w_isK T hk ?_
    walk_at "rd"
    refine iteF ?_
    walk_at "rd"
    exact k
def sp_least (K : PySem.W.Frag) (C : Addr) (C_Walk : Addr) (TS : List (Addr × Str)) : Sp := fun vs H Q _ => ∃ (p : Addr) (wd : Nat) (s : Bool), vs = [.ref p] ∧ Kd C H p wd s ∧ Q (.int (loK wd s)) H
theorem ok_least {P : Program} {w : World} {K : PySem.W.Frag} {mg : Str → Option Value} {base : Heap} (T : Txt K mg) : FnOk P w K mg base CX0 2 T.f_least T.fd_least ["kind"] (sp_least K T.C_Kind T.C_Walk []) := by
  have G_check_kind := ok_check_kind (P := P) (w := w) (base := base) T
  refine T.F_least.ok sc_least (fun vs H Q E h => ?_) (fun cdv A outer s H vs Q E hr h => ?_)
  · obtain ⟨p, wd, s, rfl, _⟩ := h
    rfl
  · obtain ⟨p, wd, s, rfl, h⟩ := h
    have hr_check_kind : Room 1 _ := hr.mono (by decide)
    refine ⟨_, (pss_cons (ps_expr (pe_call G_check_kind hr_check_kind rfl T.g_check_kind T.k_check_kind T.b_check_kind .nil pass0 (pa_cons (pv 0 (hv := Or.inl rfl)) pa_nil)))
      (pss_one (ps_ret (pe_ifExp (pt_val (pe_fld (pv 0 (hv := Or.inl rfl)) rfl)) (pe_un un_neg (pe_op op_shl pe_int (pe_op op_sub (pe_fld (pv 0 (hv := Or.inl rfl)) rfl) pe_int))) pe_int)))), ?_⟩
    try dsimp only [cxOf, Cx.nox, Cx.wish, Cx.blk]
    rw [show L2.start ["kind"] [.ref p] = [some (.ref p)] from rfl]
    obtain ⟨hk, k⟩ := h
    walk_at "rd"
    refine ⟨p, rfl, ⟨wd, s, hk⟩, ?_⟩
    walk_at "rd"
    refine w_if ?_
    walk_at "rd"
    refine w_fs T rfl hk ?_
    walk_at "rd"
    cases s with
    | false =>
      refine iteF ?_
      walk_at "rd"
      have e : loK wd false = 0 := by unfold loK; rw [if_neg Bool.false_ne_true]
      rw [e] at k
      exact k
    | true =>
      refine iteT ?_
      walk_at "rd"
      refine w_fb T rfl hk ?_
      walk_at "rd"
      have h1 := hk.w1
      have h2 := hk.w2
      have e : (wd : Int) - 1 = ((wd - 1 : Nat) : Int) := by omega
      rw [e]
      refine w_I (cpow (n := 1) (by omega) (by decide)) ?_
      walk_at "rd"
      rw [Int.toNat_natCast, Int.one_mul]
      have e : loK wd true = -(2 ^ (wd - 1)) := by unfold loK; rw [if_pos rfl]
      rw [e] at k
      exact k
def sp_greatest (K : PySem.W.Frag) (C : Addr) (C_Walk : Addr) (TS : List (Addr × Str)) : Sp := fun vs H Q _ => ∃ (p : Addr) (wd : Nat) (s : Bool), vs = [.ref p] ∧ Kd C H p wd s ∧ Q (.int (hiK wd s)) H
theorem ok_greatest {P : Program} {w : World} {K : PySem.W.Frag} {mg : Str → Option Value} {base : Heap} (T : Txt K mg) : FnOk P w K mg base CX0 3 T.f_greatest T.fd_greatest ["kind"] (sp_greatest K T.C_Kind T.C_Walk []) := by
  have G_least := ok_least (P := P) (w := w) (base := base) T
  refine T.F_greatest.ok sc_greatest (fun vs H Q E h => ?_) (fun cdv A outer s H vs Q E hr h => ?_)
  · obtain ⟨p, wd, s, rfl, _⟩ := h
    rfl
  · obtain ⟨p, wd, s, rfl, h⟩ := h
    have hr_least : Room 2 _ := hr.mono (by decide)
    refine ⟨_, (pss_one (ps_ret (pe_op op_sub (pe_op op_add (pe_call G_least hr_least rfl T.g_least T.k_least T.b_least .nil pass0 (pa_cons (pv 0 (hv := Or.inl rfl)) pa_nil)) (pe_op op_shl pe_int (pe_fld (pv 0 (hv := Or.inl rfl)) rfl))) pe_int))), ?_⟩
    try dsimp only [cxOf, Cx.nox, Cx.wish, Cx.blk]
    rw [show L2.start ["kind"] [.ref p] = [some (.ref p)] from rfl]
    obtain ⟨hk, k⟩ := h
    have h2 := hk.w2
    walk_at "rd"
    refine ⟨p, wd, s, rfl, hk, ?_⟩
    walk_at "rd"
    refine w_fb T rfl hk ?_
    walk_at "rd"
    refine w_I (cpow (n := 1) (by omega) (by decide)) ?_
    walk_at "rd"
    rw [Int.toNat_natCast, Int.one_mul]
    exact k
def sp_is_value (K : PySem.W.Frag) (C : Addr) (C_Walk : Addr) (TS : List (Addr × Str)) : Sp := fun vs H Q _ => ∃ (p : Addr) (v : V) (wd : Nat) (s : Bool), vs = [.ref p, v] ∧ Kd C H p wd s ∧ ((∃ i : Int, v = .int i ∧ Q (.bl (decide (loK wd s ≤ i ∧ i ≤ hiK wd s))) H) ∨ (IntQ K H v false ∧ Q (.bl false) H))
theorem ok_is_value {P : Program} {w : World} {K : PySem.W.Frag} {mg : Str → Option Value} {base : Heap} (T : Txt K mg) : FnOk P w K mg base CX0 4 T.f_is_value T.fd_is_value ["kind", "x"] (sp_is_value K T.C_Kind T.C_Walk []) := by
  have G_check_kind := ok_check_kind (P := P) (w := w) (base := base) T
  have G_greatest := ok_greatest (P := P) (w := w) (base := base) T
  have G_is_integer := ok_is_integer (P := P) (w := w) (base := base) T
  have G_least := ok_least (P := P) (w := w) (base := base) T
  refine T.F_is_value.ok sc_is_value (fun vs H Q E h => ?_) (fun cdv A outer s H vs Q E hr h => ?_)
  · obtain ⟨p, v, wd, s, rfl, _⟩ := h
    rfl
  · obtain ⟨p, v, wd, s, rfl, h⟩ := h
    have hr_check_kind : Room 1 _ := hr.mono (by decide)
    have hr_greatest : Room 3 _ := hr.mono (by decide)
    have hr_is_integer : Room 1 _ := hr.mono (by decide)
    have hr_least : Room 2 _ := hr.mono (by decide)
    refine ⟨_, (pss_cons (ps_expr (pe_call G_check_kind hr_check_kind rfl T.g_check_kind T.k_check_kind T.b_check_kind .nil pass0 (pa_cons (pv 0 (hv := Or.inl rfl)) pa_nil)))
      (pss_one (ps_ret (pe_and (pe_call G_is_integer hr_is_integer rfl T.g_is_integer T.k_is_integer T.b_is_integer .nil pass0 (pa_cons (pv 1 (hv := Or.inl rfl)) pa_nil)) (pe_one (pe_chain op_le op_le (pe_call G_least hr_least rfl T.g_least T.k_least T.b_least .nil pass0 (pa_cons (pv 0 (hv := Or.inl rfl)) pa_nil)) (pv 1 (hv := Or.inl rfl)) (pe_call G_greatest hr_greatest rfl T.g_greatest T.k_greatest T.b_greatest .nil pass0 (pa_cons (pv 0 (hv := Or.inl rfl)) pa_nil)))))))), ?_⟩
    try dsimp only [cxOf, Cx.nox, Cx.wish, Cx.blk]
    rw [show L2.start ["kind", "x"] [.ref p, v] = [some (.ref p), some (v)] from rfl]
    obtain ⟨hk, k⟩ := h
    walk_at "rd"
    refine ⟨p, rfl, ⟨wd, s, hk⟩, ?_⟩
    walk_at "rd"
    rcases k with ⟨i, rfl, k⟩ | ⟨hi, k⟩
    · refine ⟨_, true, rfl, IntQ.int _, ?_⟩
      walk_at "rd"
      refine iteT ?_
      refine w_chain ?_
      walk_at "rd"
      refine ⟨p, wd, s, rfl, hk, ?_⟩
      walk_at "rd"
      refine w_dec (fun h1 => ?_) (fun h1 => ?_)
      · walk_at "rd"
        refine ⟨p, wd, s, rfl, hk, ?_⟩
        walk_at "rd"
        have e : decide (loK wd s ≤ i ∧ i ≤ hiK wd s) = decide (i ≤ hiK wd s) := by simp [h1]
        rw [e] at k
        exact k
      · have e : decide (loK wd s ≤ i ∧ i ≤ hiK wd s) = false := by simp [h1]
        rw [e] at k
        exact k
    · refine ⟨_, false, rfl, hi, ?_⟩
      walk_at "rd"
      refine iteF ?_
      exact k
def sp_check_value (K : PySem.W.Frag) (C : Addr) (C_Walk : Addr) (TS : List (Addr × Str)) : Sp := fun vs H Q _ => ∃ (p : Addr) (i : Int) (z : Str), vs = [.ref p, .int i, .str z] ∧ (∃ wd s, Kd C H p wd s ∧ loK wd s ≤ i ∧ i ≤ hiK wd s) ∧ Q .non H
theorem ok_check_value {P : Program} {w : World} {K : PySem.W.Frag} {mg : Str → Option Value} {base : Heap} (T : Txt K mg) : FnOk P w K mg base CX0 5 T.f_check_value T.fd_check_value ["kind", "x", "argument"] (sp_check_value K T.C_Kind T.C_Walk []) := by
  have G_is_value := ok_is_value (P := P) (w := w) (base := base) T
  refine T.F_check_value.ok sc_check_value (fun vs H Q E h => ?_) (fun cdv A outer s H vs Q E hr h => ?_)
  · obtain ⟨p, i, z, rfl, _⟩ := h
    rfl
  · obtain ⟨p, i, z, rfl, h⟩ := h
    have hr_is_value : Room 4 _ := hr.mono (by decide)
    refine ⟨_, (pss_one (ps_if (pt_not (pt_val (pe_call G_is_value hr_is_value rfl T.g_is_value T.k_is_value T.b_is_value .nil pass0 (pa_cons (pv 0 (hv := Or.inl rfl)) (pa_cons (pv 1 (hv := Or.inl rfl)) pa_nil))))) (pss_one ps_never) pss_nil)), ?_⟩
    try dsimp only [cxOf, Cx.nox, Cx.wish, Cx.blk]
    rw [show L2.start ["kind", "x", "argument"] [.ref p, .int i, .str z] = [some (.ref p), some (.int i), some (.str z)] from rfl]
    obtain ⟨⟨wd, s, hk, h1, h2⟩, k⟩ := h
    walk_at "rd"
    refine ⟨p, _, wd, s, rfl, hk, Or.inl ⟨i, rfl, ?_⟩⟩
    walk_at "rd"
    rw [decide_eq_true (show loK wd s ≤ i ∧ i ≤ hiK wd s from ⟨h1, h2⟩)]
    refine iteF ?_
    walk_at "rd"
    exact k
def sp_quotient_total (K : PySem.W.Frag) (C : Addr) (C_Walk : Addr) (TS : List (Addr × Str)) : Sp := fun vs H Q _ => ∃ (l : Addr) (a b m first last : Int), vs = [.ref l, .int m, .int first, .int last] ∧ H l = some (.tup [.int a, .int b]) ∧ 0 < m ∧ BB m ∧ BB a ∧ b.natAbs < 2 ^ 302 ∧ BB first ∧ BB last ∧ ∀ H', Same H H' → Q (.int (QT a b m first last)) H'
theorem ok_quotient_total {P : Program} {w : World} {K : PySem.W.Frag} {mg : Str → Option Value} {base : Heap} (T : Txt K mg) : FnOk P w K mg base CX0 1 T.f_quotient_total T.fd_quotient_total ["line", "size", "first", "last"] (sp_quotient_total K T.C_Kind T.C_Walk []) := by
  refine T.F_quotient_total.ok sc_quotient_total (fun vs H Q E h => ?_) (fun cdv A outer s H vs Q E hr h => ?_)
  · obtain ⟨l, a, b, m, first, last, rfl, _⟩ := h
    rfl
  · obtain ⟨l, a, b, m, first, last, rfl, h⟩ := h
    refine ⟨_, (pss_cons (ps_asg (pv 0 (hv := Or.inl rfl)) (pg_tup rfl (pgs_cons (pg_name (i := 4) sc_quotient_total.nd rfl (Or.inl rfl)) (pgs_cons (pg_name (i := 5) sc_quotient_total.nd rfl (Or.inl rfl)) pgs_nil))))
      (pss_cons (ps_set (i := 6) sc_quotient_total.nd rfl (Or.inl rfl) (pe_op op_add (pe_op op_sub (pv 3 (hv := Or.inl rfl)) (pv 2 (hv := Or.inl rfl))) pe_int))
      (pss_cons (ps_if (pt_cmpR op_le (pv 6 (hv := Or.inl rfl)) pe_int (nomark _)) (pss_one (ps_ret pe_int)) pss_nil)
      (pss_cons (ps_aug (i := 5) sc_quotient_total.nd rfl (Or.inl rfl) (pe_op op_mulX (pv 4 (hv := Or.inl rfl)) (pv 2 (hv := Or.inl rfl))) ip_add)
      (pss_cons (ps_set (i := 7) sc_quotient_total.nd rfl (Or.inl rfl) pe_int)
      (pss_one (ps_while PassesOwn.never (pt_val pe_bl)
        (pss_cons (ps_aug (i := 7) sc_quotient_total.nd rfl (Or.inl rfl) (pe_op op_add (pe_op op_mulX (pe_op op_fdiv (pe_op op_mulX (pv 6 (hv := Or.inl rfl)) (pe_op op_sub (pv 6 (hv := Or.inl rfl)) pe_int)) pe_int) (pe_op op_fdivW (pv 4 (hv := Or.inl rfl)) (pv 1 (hv := Or.inl rfl)))) (pe_op op_mulX (pv 6 (hv := Or.inl rfl)) (pe_op op_fdivW (pv 5 (hv := Or.inl rfl)) (pv 1 (hv := Or.inl rfl))))) ip_add)
      (pss_cons (ps_par rfl sc_quotient_total.nd (i := 4) (j := 5) rfl rfl (by decide) rfl rfl (pa_cons (pe_op op_mod (pv 4 (hv := Or.inl rfl)) (pv 1 (hv := Or.inl rfl))) (pa_cons (pe_op op_mod (pv 5 (hv := Or.inl rfl)) (pv 1 (hv := Or.inl rfl))) pa_nil)) (by rfl))
      (pss_cons (ps_set (i := 8) sc_quotient_total.nd rfl (Or.inl rfl) (pe_op op_add (pe_op op_mulX (pv 4 (hv := Or.inl rfl)) (pv 6 (hv := Or.inl rfl))) (pv 5 (hv := Or.inl rfl))))
      (pss_cons (ps_if (pt_cmpR op_lt (pv 8 (hv := Or.inl rfl)) (pv 1 (hv := Or.inl rfl)) (nomark _)) (pss_one (ps_ret (pv 7 (hv := Or.inl rfl)))) pss_nil)
      (pss_cons (ps_asg (pe_callB (id := "divmod") (r := rDivC) call_divmodW (by rfl) T.n_divmod (by decide +kernel) (pa_cons (pv 8 (hv := Or.inl rfl)) (pa_cons (pv 1 (hv := Or.inl rfl)) pa_nil))) (pg_tup rfl (pgs_cons (pg_name (i := 6) sc_quotient_total.nd rfl (Or.inl rfl)) (pgs_cons (pg_name (i := 5) sc_quotient_total.nd rfl (Or.inl rfl)) pgs_nil))))
      (pss_one (ps_par rfl sc_quotient_total.nd (i := 4) (j := 1) rfl rfl (by decide) rfl rfl (pa_cons (pv 1 (hv := Or.inl rfl)) (pa_cons (pv 4 (hv := Or.inl rfl)) pa_nil)) (by rfl))))))))))))))), ?_⟩
    try dsimp only [cxOf, Cx.nox, Cx.wish, Cx.blk]
    rw [show L2.start ["line", "size", "first", "last", "a", "b", "count", "total", "top"] [.ref l, .int m, .int first, .int last] = [some (.ref l), some (.int m), some (.int first), some (.int last), none, none, none, none, none] from rfl]
    obtain ⟨hl, m0, bm, ba, bb, bf, bl, k⟩ := h
    unfold BB at bm ba bf bl
    have h302 : (2 : Nat) ^ 302 = 4 * 2 ^ 300 := by decide +kernel
    walk_at "rd"
    refine w_dec (fun c => ?_) (fun c => ?_)
    · walk_at "rd"
      have e : QT a b m first last = 0 := by unfold QT; rw [show (last - first + 1).toNat = 0 by omega]; rfl
      rw [e] at k
      exact k _ (Same.refl H)
    obtain ⟨n, hn⟩ := Int.eq_ofNat_of_zero_le (show 0 ≤ last - first + 1 by omega)
    have n0 : 0 < n := by omega
    have nb : n < 2 ^ 302 := by omega
    rw [hn]
    have bmul : (a * first).natAbs < 2 ^ (300 + 300) := wide_lt ba bf
    have h600 : (2 : Nat) ^ (300 + 300) + 2 ^ 302 < 2 ^ 601 := by decide +kernel
    walk_at "rd"
    refine w_aug rfl ?_
    walk_at "rd"
    refine w_I (mulx_ok ba bf (by decide)) ?_
    refine ⟨_, _, rfl, rfl, ?_⟩
    walk_at "rd"
    rw [QT_QS, hn, Int.toNat_natCast] at k
    refine w_while (fun ms σ H' => ∃ (a' b' m' t : Int) (n' : Nat) (v : Option V), σ = [some (.ref l), some (.int m'), some (.int first), some (.int last), some (.int a'), some (.int b'), some (.int (n' : Int)), some (.int t), v] ∧ ms = m'.toNat ∧ 0 < m' ∧ BB m' ∧ BB a' ∧ b'.natAbs < 2 ^ 601 ∧ 0 < n' ∧ n' < 2 ^ 302 ∧ t + QS a' b' m' n' = QS a (b + a * first) m n ∧ Same H H')
      m.toNat ⟨a, b + a * first, m, 0, n, none, rfl, rfl, m0, bm, ba, by omega, n0, nb, by omega, Same.refl H⟩ ?_
    rintro ms σ H' ⟨a', b', m', t, n', v, rfl, rfl, m0', bm', ba', bb', n0', nb', heq, sm⟩
    unfold BB at bm' ba'
    walk_at "rd"
    refine iteT ?_
    refine ⟨_, fun _ _ h => h, ?_⟩
    walk_at "rd"
    refine w_aug rfl ?_
    have bn : ((n' : Int)).natAbs < 2 ^ 302 := by omega
    have bn1 : ((n' : Int) - 1).natAbs < 2 ^ 302 := by omega
    have bnn : ((n' : Int) * ((n' : Int) - 1)).natAbs < 2 ^ (302 + 302) := wide_lt bn bn1
    have q1 := Int.natAbs_ediv_le_natAbs a' m'
    have q2 := Int.natAbs_ediv_le_natAbs b' m'
    have bnn2 : ((n' : Int) * ((n' : Int) - 1) / 2).natAbs < 2 ^ (302 + 302) := Nat.lt_of_le_of_lt (Int.natAbs_ediv_le_natAbs _ 2) bnn
    walk_at "rd"
    refine w_I (mulx_ok bn bn1 (by decide)) ?_
    walk_at "rd"
    refine w_I (wide_div m0' bm' (by decide) (by decide)) ?_
    walk_at "rd"
    refine w_I (mulx_ok bnn2 (Nat.lt_of_le_of_lt q1 ba') (by decide)) ?_
    walk_at "rd"
    refine w_I (wide_div m0' bm' (by decide) (by decide)) ?_
    walk_at "rd"
    refine w_I (mulx_ok bn (Nat.lt_of_le_of_lt q2 bb') (by decide)) ?_
    walk_at "rd"
    refine ⟨_, _, rfl, rfl, ?_⟩
    walk_at "rd"
    refine w_I m0' ?_
    walk_at "rd"
    refine w_I m0' ?_
    walk_at "rd"
    have r0 := Int.emod_nonneg a' (Int.ne_of_gt m0')
    have r1 := Int.emod_lt_of_pos a' m0'
    have s0 := Int.emod_nonneg b' (Int.ne_of_gt m0')
    have s1 := Int.emod_lt_of_pos b' m0'
    have bam : (a' % m').natAbs < 2 ^ 300 := by omega
    have bbm : (b' % m').natAbs < 2 ^ 300 := by omega
    refine w_I (mulx_ok bam bn (by decide)) ?_
    have bam2 : (a' % m' * (n' : Int)).natAbs < 2 ^ (300 + 302) := wide_lt bam bn
    walk_at "rd"
    have red := QS_red a' b' m0' n'
    refine w_dec (fun c2 => ?_) (fun c2 => ?_)
    · walk_at "rd"
      have z := QS_zero r0 s0 n' c2
      have e : t + ((n' : Int) * ((n' : Int) - 1) / 2 * (a' / m') + (n' : Int) * (b' / m')) = QS a (b + a * first) m n := by omega
      rw [e]
      exact k _ sm
    have ap : 0 < a' % m' := by
      rcases Int.lt_or_le 0 (a' % m') with z | z
      · exact z
      · have z0 : a' % m' = 0 := by omega
        rw [z0, Int.zero_mul] at c2; omega
    have anb : 0 ≤ a' % m' * (n' : Int) := Int.mul_nonneg r0 (by omega)
    have top0 : 0 ≤ a' % m' * (n' : Int) + b' % m' := by omega
    have topb : (a' % m' * (n' : Int) + b' % m').natAbs < 2 ^ 603 := by
      have : (2 : Nat) ^ (300 + 302) + 2 ^ 300 < 2 ^ 603 := by decide +kernel
      omega
    walk_at "rd"
    refine ⟨_, _, rfl, divp_ok m0' ?_, fun pr hpr => ?_⟩
    · have := PyProof.Rows.intBits_le topb
      omega
    have hq0 : 0 ≤ (a' % m' * (n' : Int) + b' % m') / m' := Int.ediv_nonneg top0 (Int.le_of_lt m0')
    obtain ⟨n2, hn2⟩ := Int.eq_ofNat_of_zero_le hq0
    have n2p : 0 < n2 := by
      have : 1 ≤ (a' % m' * (n' : Int) + b' % m') / m' := (Int.le_ediv_iff_mul_le m0').mpr (by omega)
      omega
    have n2b : n2 ≤ n' := by
      have h1 : (a' % m' * (n' : Int) + b' % m') / m' < (n' : Int) + 1 := (Int.ediv_lt_iff_lt_mul m0').mpr (by
        have : a' % m' * (n' : Int) ≤ m' * (n' : Int) := Int.mul_le_mul_of_nonneg_right (by omega) (by omega)
        rw [Int.add_mul, Int.one_mul, Int.mul_comm (n' : Int) m']; omega)
      omega
    rw [hn2]
    have u0 := Int.emod_nonneg (a' % m' * (n' : Int) + b' % m') (Int.ne_of_gt m0')
    have u1 := Int.emod_lt_of_pos (a' % m' * (n' : Int) + b' % m') m0'
    have turn := QS_turn ap r1 s0 s1 n' hn2.symm
    have h601 : (2 : Nat) ^ 300 < 2 ^ 601 := by decide +kernel
    walk_at "rd"
    refine ⟨(a' % m').toNat, by omega, m', _, a' % m', _, n2, _, rfl, rfl, ap, bam, bm', ?_, n2p, by omega, ?_, sm_new sm hpr⟩
    · omega
    · omega
def sp_total_between (K : PySem.W.Frag) (C : Addr) (C_Walk : Addr) (TS : List (Addr × Str)) : Sp := fun vs H Q _ => ∃ (l : Addr) (a b m first last lo hi : Int), vs = [.ref l, .int m, .int first, .int last, .int lo, .int hi] ∧ H l = some (.tup [.int a, .int b]) ∧ 0 < m ∧ BB m ∧ BB a ∧ BB b ∧ BB first ∧ BB last ∧ BB lo ∧ BB hi ∧ (lo ≤ hi → hi - lo < m) ∧ ∀ H', Same H H' → Q (.int (tot (fun x => inR m lo hi (a * x + b)) first last)) H'
theorem ok_total_between {P : Program} {w : World} {K : PySem.W.Frag} {mg : Str → Option Value} {base : Heap} (T : Txt K mg) : FnOk P w K mg base CX0 2 T.f_total_between T.fd_total_between ["line", "size", "first", "last", "low", "high"] (sp_total_between K T.C_Kind T.C_Walk []) := by
  have G_quotient_total := ok_quotient_total (P := P) (w := w) (base := base) T
  refine T.F_total_between.ok sc_total_between (fun vs H Q E h => ?_) (fun cdv A outer s H vs Q E hr h => ?_)
  · obtain ⟨l, a, b, m, first, last, lo, hi, rfl, _⟩ := h
    rfl
  · obtain ⟨l, a, b, m, first, last, lo, hi, rfl, h⟩ := h
    have hr_quotient_total : Room 1 _ := hr.mono (by decide)
    refine ⟨_, (pss_cons (ps_if (pt_cmpR op_lt (pv 5 (hv := Or.inl rfl)) (pv 4 (hv := Or.inl rfl)) (nomark _)) (pss_one (ps_ret pe_int)) pss_nil)
      (pss_cons (ps_asg (pv 0 (hv := Or.inl rfl)) (pg_tup rfl (pgs_cons (pg_name (i := 6) sc_total_between.nd rfl (Or.inl rfl)) (pgs_cons (pg_name (i := 7) sc_total_between.nd rfl (Or.inl rfl)) pgs_nil))))
      (pss_one (ps_ret (pe_op op_sub (pe_call G_quotient_total hr_quotient_total rfl T.g_quotient_total T.k_quotient_total T.b_quotient_total .nil pass0 (pa_cons (pe_tup (pa_cons (pv 6 (hv := Or.inl rfl)) (pa_cons (pe_op op_sub (pv 7 (hv := Or.inl rfl)) (pv 4 (hv := Or.inl rfl))) pa_nil))) (pa_cons (pv 1 (hv := Or.inl rfl)) (pa_cons (pv 2 (hv := Or.inl rfl)) (pa_cons (pv 3 (hv := Or.inl rfl)) pa_nil))))) (pe_call G_quotient_total hr_quotient_total rfl T.g_quotient_total T.k_quotient_total T.b_quotient_total .nil pass0 (pa_cons (pe_tup (pa_cons (pv 6 (hv := Or.inl rfl)) (pa_cons (pe_op op_sub (pe_op op_sub (pv 7 (hv := Or.inl rfl)) (pv 5 (hv := Or.inl rfl))) pe_int) pa_nil))) (pa_cons (pv 1 (hv := Or.inl rfl)) (pa_cons (pv 2 (hv := Or.inl rfl)) (pa_cons (pv 3 (hv := Or.inl rfl)) pa_nil)))))))))), ?_⟩
    try dsimp only [cxOf, Cx.nox, Cx.wish, Cx.blk]
    rw [show L2.start ["line", "size", "first", "last", "low", "high", "a", "b"] [.ref l, .int m, .int first, .int last, .int lo, .int hi] = [some (.ref l), some (.int m), some (.int first), some (.int last), some (.int lo), some (.int hi), none, none] from rfl]
    obtain ⟨hl, m0, bm, ba, bb, bf, bl, blo, bhi, hlt, k⟩ := h
    walk_at "rd"
    refine w_dec (fun c => ?_) (fun c => ?_)
    · walk_at "rd"
      rw [tot_never (fun x => inR_none c (a * x + b))] at k
      exact k _ (Same.refl H)
    walk_at "rd"
    have e := QT_between (a := a) (b := b) (first := first) (last := last) m0 (show lo ≤ hi by omega) (hlt (by omega))
    have h302 : (2 : Nat) ^ 302 = 4 * 2 ^ 300 := by decide +kernel
    unfold BB at bb blo bhi
    refine ⟨by show 2 ≤ sizeLine; decide, fun q1 hq1 => ?_⟩
    walk_at "rd"
    refine ⟨q1, a, b - lo, m, first, last, rfl, upd_same, m0, bm, ba, by omega, bf, bl, fun H1 s1 => ?_⟩
    walk_at "rd"
    refine ⟨by show 2 ≤ sizeLine; decide, fun q2 hq2 => ?_⟩
    walk_at "rd"
    refine ⟨q2, a, b - hi - 1, m, first, last, rfl, upd_same, m0, bm, ba, by omega, bf, bl, fun H2 s2 => ?_⟩
    walk_at "rd"
    rw [e]
    exact k _ (((sm_new (Same.refl H) hq1).trans s1).trans ((sm_new (Same.refl H1) hq2).trans s2))
def sp_least_remainder (K : PySem.W.Frag) (C : Addr) (C_Walk : Addr) (TS : List (Addr × Str)) : Sp := fun vs H Q _ => ∃ (l : Addr) (a b m first last : Int), vs = [.ref l, .int m, .int first, .int last] ∧ H l = some (.tup [.int a, .int b]) ∧ 0 < m ∧ BB m ∧ BB a ∧ b.natAbs < 2 ^ 302 ∧ BB first ∧ BB last ∧ first ≤ last ∧ ∀ H' y, Same H H' → LrIs a b m first last y → Q (.int y) H'
theorem ok_least_remainder {P : Program} {w : World} {K : PySem.W.Frag} {mg : Str → Option Value} {base : Heap} (T : Txt K mg) : FnOk P w K mg base CX0 1 T.f_least_remainder T.fd_least_remainder ["line", "size", "first", "last"] (sp_least_remainder K T.C_Kind T.C_Walk []) := by
  refine T.F_least_remainder.ok sc_least_remainder (fun vs H Q E h => ?_) (fun cdv A outer s H vs Q E hr h => ?_)
  · obtain ⟨l, a, b, m, first, last, rfl, _⟩ := h
    rfl
  · obtain ⟨l, a, b, m, first, last, rfl, h⟩ := h
    refine ⟨_, (pss_cons (ps_asg (pv 0 (hv := Or.inl rfl)) (pg_tup rfl (pgs_cons (pg_name (i := 4) sc_least_remainder.nd rfl (Or.inl rfl)) (pgs_cons (pg_name (i := 5) sc_least_remainder.nd rfl (Or.inl rfl)) pgs_nil))))
      (pss_cons (ps_par3 rfl sc_least_remainder.nd (i := 6) (j := 7) (l := 8) rfl rfl rfl (by decide) (by decide) (by decide) rfl rfl rfl (pa_cons (pe_op op_mod (pe_op op_add (pe_op op_mulX (pv 4 (hv := Or.inl rfl)) (pv 2 (hv := Or.inl rfl))) (pv 5 (hv := Or.inl rfl))) (pv 1 (hv := Or.inl rfl))) (pa_cons (pe_op op_mod (pv 4 (hv := Or.inl rfl)) (pv 1 (hv := Or.inl rfl))) (pa_cons (pe_op op_sub (pv 3 (hv := Or.inl rfl)) (pv 2 (hv := Or.inl rfl))) pa_nil))) (by rfl))
      (pss_cons (ps_set (i := 9) sc_least_remainder.nd rfl (Or.inl rfl) (pv 6 (hv := Or.inl rfl)))
      (pss_cons (ps_while PassesOwn.never (pt_cmpR op_gt (pv 7 (hv := Or.inl rfl)) pe_int (nomark _))
        (pss_cons (ps_if (pt_cmpR op_gt (pe_op op_mulX pe_int (pv 7 (hv := Or.inl rfl))) (pv 1 (hv := Or.inl rfl)) (nomark _)) (pss_cons (ps_par rfl sc_least_remainder.nd (i := 6) (j := 7) rfl rfl (by decide) rfl rfl (pa_cons (pe_op op_mod (pe_op op_add (pv 6 (hv := Or.inl rfl)) (pe_op op_mulX (pv 7 (hv := Or.inl rfl)) (pv 8 (hv := Or.inl rfl)))) (pv 1 (hv := Or.inl rfl))) (pa_cons (pe_op op_sub (pv 1 (hv := Or.inl rfl)) (pv 7 (hv := Or.inl rfl))) pa_nil)) (by rfl))
      (pss_one (ps_set (i := 9) sc_least_remainder.nd rfl (Or.inl rfl) (pe_callB (id := "min") (r := rmin2C) (call_min2 rfl) (by rfl) T.n_min (by decide +kernel) (pa_cons (pv 9 (hv := Or.inl rfl)) (pa_cons (pv 6 (hv := Or.inl rfl)) pa_nil)))))) pss_nil)
      (pss_cons (ps_set (i := 10) sc_least_remainder.nd rfl (Or.inl rfl) (pe_op op_fdivW (pe_op op_add (pv 6 (hv := Or.inl rfl)) (pe_op op_mulX (pv 7 (hv := Or.inl rfl)) (pv 8 (hv := Or.inl rfl)))) (pv 1 (hv := Or.inl rfl))))
      (pss_cons (ps_if (pt_cmpR op_eq (pv 10 (hv := Or.inl rfl)) pe_int (nomark _)) (pss_one (ps_ret (pv 9 (hv := Or.inl rfl)))) pss_nil)
      (pss_cons (ps_asg (pe_tup (pa_cons (pe_op op_mod (pe_op op_sub (pv 6 (hv := Or.inl rfl)) (pv 1 (hv := Or.inl rfl))) (pv 7 (hv := Or.inl rfl))) (pa_cons (pe_op op_mod (pe_un un_neg (pv 1 (hv := Or.inl rfl))) (pv 7 (hv := Or.inl rfl))) (pa_cons (pv 7 (hv := Or.inl rfl)) (pa_cons (pe_op op_sub (pv 10 (hv := Or.inl rfl)) pe_int) pa_nil))))) (pg_tup rfl (pgs_cons (pg_name (i := 6) sc_least_remainder.nd rfl (Or.inl rfl)) (pgs_cons (pg_name (i := 7) sc_least_remainder.nd rfl (Or.inl rfl)) (pgs_cons (pg_name (i := 1) sc_least_remainder.nd rfl (Or.inl rfl)) (pgs_cons (pg_name (i := 8) sc_least_remainder.nd rfl (Or.inl rfl)) pgs_nil))))))
      (pss_one (ps_set (i := 9) sc_least_remainder.nd rfl (Or.inl rfl) (pe_callB (id := "min") (r := rmin2C) (call_min2 rfl) (by rfl) T.n_min (by decide +kernel) (pa_cons (pv 9 (hv := Or.inl rfl)) (pa_cons (pv 6 (hv := Or.inl rfl)) pa_nil))))))))))
      (pss_one (ps_ret (pv 9 (hv := Or.inl rfl)))))))), ?_⟩
    try dsimp only [cxOf, Cx.nox, Cx.wish, Cx.blk]
    rw [show L2.start ["line", "size", "first", "last", "a", "b", "start", "step", "steps", "least", "laps"] [.ref l, .int m, .int first, .int last] = [some (.ref l), some (.int m), some (.int first), some (.int last), none, none, none, none, none, none, none] from rfl]
    obtain ⟨hl, m0, bm, ba, bb, bf, bl, fl, k⟩ := h
    unfold BB at bm ba bf bl
    have h302 : (2 : Nat) ^ 302 = 4 * 2 ^ 300 := by decide +kernel
    have h2 : (2 : Int).natAbs < 2 ^ 2 := by decide
    obtain ⟨y, hy, lr⟩ := Lr.of (a := a) (b := b) m0 fl
    walk_at "rd"
    refine w_par3 ?_
    walk_at "rd"
    refine w_I (mulx_ok ba bf (by decide)) ?_
    walk_at "rd"
    refine w_I m0 ?_
    walk_at "rd"
    refine w_I m0 ?_
    walk_at "rd"
    refine ⟨_, _, _, rfl, ?_⟩
    walk_at "rd"
    refine w_while (fun ms σ H' => ∃ (start step size steps least : Int) (v : Option V), σ = [some (.ref l), some (.int size), some (.int first), some (.int last), some (.int a), some (.int b), some (.int start), some (.int step), some (.int steps), some (.int least), v] ∧ ms = size.toNat ∧ Lr y start step size steps least ∧ size.natAbs < 2 ^ 300 ∧ steps.natAbs < 2 ^ 302 ∧ Same H H')
      m.toNat ⟨_, _, m, _, _, none, rfl, rfl, lr, bm, by omega, Same.refl H⟩ ?_
    clear lr
    rintro ms σ H' ⟨start, step, size, steps, least, v, rfl, rfl, lr, bz, bn, sm⟩
    have s0 := lr.s0
    have s1 := lr.s1
    walk_at "rd"
    refine w_dec (fun c => ?_) (fun c => ?_)
    rotate_left
    · walk_at "rd"
      rw [lr.z0 c]
      exact k _ _ sm hy
    refine ⟨_, fun _ _ h => h, ?_⟩
    walk_at "rd"
    refine w_I (mulx_ok h2 (show step.natAbs < 2 ^ 300 by omega) (by decide)) ?_
    walk_at "rd"
    refine w_stJ (fun σ' H2 => ∃ (start step least : Int) (v : Option V), σ' = [some (.ref l), some (.int size), some (.int first), some (.int last), some (.int a), some (.int b), some (.int start), some (.int step), some (.int steps), some (.int least), v] ∧ 0 < step ∧ Lr y start step size steps least ∧ Same H H2) (fun c2 D' q => ?_) (fun c2 D' q => ?_) ?_
    · walk_at "rd"
      refine w_I (mulx_ok (show step.natAbs < 2 ^ 300 by omega) bn (by decide)) ?_
      walk_at "rd"
      refine w_I (show 0 < size by omega) ?_
      walk_at "rd"
      refine w_min2 ?_
      walk_at "rd"
      exact q _ _ ⟨_, _, _, _, rfl, by omega, lr.flip c, sm⟩
    · walk_at "rd"
      exact q _ _ ⟨_, _, _, _, rfl, c, lr, sm⟩
    clear c s0 s1 lr sm
    rintro σ' H2 ⟨start, step, least, v, rfl, c, lr, sm⟩
    have s1 := lr.s1
    have a0 := lr.a0
    have a1 := lr.a1
    obtain ⟨l0, l1⟩ := lr.laps
    walk_at "rd"
    refine w_I (mulx_ok (show step.natAbs < 2 ^ 300 by omega) bn (by decide)) ?_
    walk_at "rd"
    refine w_I (wide_div (show 0 < size by omega) bz (by decide) (by decide)) ?_
    walk_at "rd"
    refine w_dec (fun c3 => ?_) (fun c3 => ?_)
    · walk_at "rd"
      rw [lr.z1 c3]
      exact k _ _ sm hy
    walk_at "rd"
    refine w_I c ?_
    walk_at "rd"
    refine w_I c ?_
    walk_at "rd"
    refine ⟨by show 4 ≤ sizeLine; decide, fun t ht => ?_⟩
    walk_at "rd"
    refine w_min2 ?_
    walk_at "rd"
    exact ⟨step.toNat, by omega, _, _, step, _, _, _, rfl, rfl, lr.next c c3, by omega, by omega, sm_new sm ht⟩
def sp_check_line (K : PySem.W.Frag) (C : Addr) (C_Walk : Addr) (TS : List (Addr × Str)) : Sp := fun vs H Q _ => ∃ (l : Addr) (z : Str) (a b : Int), vs = [.ref l, .str z] ∧ H l = some (.tup [.int a, .int b]) ∧ SD a ∧ SD b ∧ Q .non H
theorem ok_check_line {P : Program} {w : World} {K : PySem.W.Frag} {mg : Str → Option Value} {base : Heap} (T : Txt K mg) : FnOk P w K mg base CX0 3 T.f_check_line T.fd_check_line ["line", "argument"] (sp_check_line K T.C_Kind T.C_Walk []) := by
  have G_is_sixty_digits := ok_is_sixty_digits (P := P) (w := w) (base := base) T
  refine T.F_check_line.ok sc_check_line (fun vs H Q E h => ?_) (fun cdv A outer s H vs Q E hr h => ?_)
  · obtain ⟨l, z, a, b, rfl, _⟩ := h
    rfl
  · obtain ⟨l, z, a, b, rfl, h⟩ := h
    have hr_is_sixty_digits : Room 2 _ := hr.mono (by decide)
    refine ⟨_, (pss_cons (ps_if (pt_not (PW.pt (pw_and (pt_val (pe_callB (id := "isinstance") (r := rIsi K) call_isi (by rfl) T.n_isinstance (by decide +kernel) (pa_cons (pv 0 (hv := Or.inl rfl)) (pa_cons (pe_bltn (v := .ty "tuple") (by rfl) T.n_tuple (by decide +kernel) rfl) pa_nil)))) (pw_and1 (pt_cmpR op_eq (pe_callB (id := "len") (r := rLenS K) call_len_seq (by rfl) T.n_len (by decide +kernel) (pa_cons (pv 0 (hv := Or.inl rfl)) pa_nil)) pe_int (nomark _)))))) (pss_one ps_never) pss_nil)
      (pss_one (ps_if (pt_not (PW.pt (pw_and (pt_val (pe_call G_is_sixty_digits hr_is_sixty_digits rfl T.g_is_sixty_digits T.k_is_sixty_digits T.b_is_sixty_digits .nil pass0 (pa_cons (pe_ix (r := rIxT K) ix_tup (pv 0 (hv := Or.inl rfl)) pe_int (fun _ _ => rfl)) pa_nil))) (pw_and1 (pt_val (pe_call G_is_sixty_digits hr_is_sixty_digits rfl T.g_is_sixty_digits T.k_is_sixty_digits T.b_is_sixty_digits .nil pass0 (pa_cons (pe_ix (r := rIxT K) ix_tup (pv 0 (hv := Or.inl rfl)) pe_int (fun _ _ => rfl)) pa_nil))))))) (pss_one ps_never) pss_nil))), ?_⟩
    try dsimp only [cxOf, Cx.nox, Cx.wish, Cx.blk]
    rw [show L2.start ["line", "argument"] [.ref l, .str z] = [some (.ref l), some (.str z)] from rfl]
    obtain ⟨hl, sa, sb, k⟩ := h
    walk_at "rd"
    refine w_isi (b := true) (.base (.tup hl)) (by decide +kernel) ?_
    walk_at "rd"
    refine iteT ?_
    walk_at "rd"
    refine w_lenT hl ?_
    walk_at "rd"
    refine w_bF (by simp) ?_
    walk_at "rd"
    refine ⟨a, rfl, ?_⟩
    walk_at "rd"
    rw [decide_eq_true (show -(10 ^ 60) < a ∧ a < 10 ^ 60 from sa)]
    refine iteT ?_
    walk_at "rd"
    refine ⟨b, rfl, ?_⟩
    walk_at "rd"
    rw [decide_eq_true (show -(10 ^ 60) < b ∧ b < 10 ^ 60 from sb)]
    refine iteF ?_
    walk_at "rd"
    exact k
def sp_check_range (K : PySem.W.Frag) (C : Addr) (C_Walk : Addr) (TS : List (Addr × Str)) : Sp := fun vs H Q _ => ∃ (i j : Int), vs = [.int i, .int j] ∧ SD i ∧ SD j ∧ Q .non H
theorem ok_check_range {P : Program} {w : World} {K : PySem.W.Frag} {mg : Str → Option Value} {base : Heap} (T : Txt K mg) : FnOk P w K mg base CX0 4 T.f_check_range T.fd_check_range ["first", "last"] (sp_check_range K T.C_Kind T.C_Walk []) := by
  have G_check_sixty_digits := ok_check_sixty_digits (P := P) (w := w) (base := base) T
  refine T.F_check_range.ok sc_check_range (fun vs H Q E h => ?_) (fun cdv A outer s H vs Q E hr h => ?_)
  · obtain ⟨i, j, rfl, _⟩ := h
    rfl
  · obtain ⟨i, j, rfl, h⟩ := h
    have hr_check_sixty_digits : Room 3 _ := hr.mono (by decide)
    refine ⟨_, (pss_cons (ps_expr (pe_call G_check_sixty_digits hr_check_sixty_digits rfl T.g_check_sixty_digits T.k_check_sixty_digits T.b_check_sixty_digits .nil pass0 (pa_cons (pv 0 (hv := Or.inl rfl)) (pa_cons pe_str pa_nil))))
      (pss_one (ps_expr (pe_call G_check_sixty_digits hr_check_sixty_digits rfl T.g_check_sixty_digits T.k_check_sixty_digits T.b_check_sixty_digits .nil pass0 (pa_cons (pv 1 (hv := Or.inl rfl)) (pa_cons pe_str pa_nil)))))), ?_⟩
    try dsimp only [cxOf, Cx.nox, Cx.wish, Cx.blk]
    rw [show L2.start ["first", "last"] [.int i, .int j] = [some (.int i), some (.int j)] from rfl]
    obtain ⟨si, sj, k⟩ := h
    walk_at "rd"
    refine ⟨i, _, rfl, si, ?_⟩
    walk_at "rd"
    refine ⟨j, _, rfl, sj, ?_⟩
    walk_at "rd"
    exact k
def sp__check (K : PySem.W.Frag) (C : Addr) (C_Walk : Addr) (TS : List (Addr × Str)) : Sp := fun vs H Q _ => ∃ (kp l : Addr) (first last : Int), vs = [.ref kp, .ref l, .int first, .int last] ∧ (∃ wd s, Kd C H kp wd s) ∧ (∃ a b, H l = some (.tup [.int a, .int b]) ∧ SD a ∧ SD b ∧ SD first ∧ SD last) ∧ Q .non H
theorem ok__check {P : Program} {w : World} {K : PySem.W.Frag} {mg : Str → Option Value} {base : Heap} (T : Txt K mg) : FnOk P w K mg base CX0 5 T.f__check T.fd__check ["kind", "line", "first", "last"] (sp__check K T.C_Kind T.C_Walk []) := by
  have G_check_kind := ok_check_kind (P := P) (w := w) (base := base) T
  have G_check_line := ok_check_line (P := P) (w := w) (base := base) T
  have G_check_range := ok_check_range (P := P) (w := w) (base := base) T
  refine T.F__check.ok sc__check (fun vs H Q E h => ?_) (fun cdv A outer s H vs Q E hr h => ?_)
  · obtain ⟨kp, l, first, last, rfl, _⟩ := h
    rfl
  · obtain ⟨kp, l, first, last, rfl, h⟩ := h
    have hr_check_kind : Room 1 _ := hr.mono (by decide)
    have hr_check_line : Room 3 _ := hr.mono (by decide)
    have hr_check_range : Room 4 _ := hr.mono (by decide)
    refine ⟨_, (pss_cons (ps_expr (pe_call G_check_kind hr_check_kind rfl T.g_check_kind T.k_check_kind T.b_check_kind .nil pass0 (pa_cons (pv 0 (hv := Or.inl rfl)) pa_nil)))
      (pss_cons (ps_expr (pe_call G_check_line hr_check_line rfl T.g_check_line T.k_check_line T.b_check_line .nil pass0 (pa_cons (pv 1 (hv := Or.inl rfl)) (pa_cons pe_str pa_nil))))
      (pss_one (ps_expr (pe_call G_check_range hr_check_range rfl T.g_check_range T.k_check_range T.b_check_range .nil pass0 (pa_cons (pv 2 (hv := Or.inl rfl)) (pa_cons (pv 3 (hv := Or.inl rfl)) pa_nil))))))), ?_⟩
    try dsimp only [cxOf, Cx.nox, Cx.wish, Cx.blk]
    rw [show L2.start ["kind", "line", "first", "last"] [.ref kp, .ref l, .int first, .int last] = [some (.ref kp), some (.ref l), some (.int first), some (.int last)] from rfl]
    obtain ⟨hk, ⟨a, b, hl, sa, sb, sf, sl⟩, k⟩ := h
    walk_at "rd"
    refine ⟨kp, rfl, hk, ?_⟩
    walk_at "rd"
    refine ⟨l, _, a, b, rfl, hl, sa, sb, ?_⟩
    walk_at "rd"
    refine ⟨_, _, rfl, sf, sl, ?_⟩
    walk_at "rd"
    exact k
def sp__check_within (K : PySem.W.Frag) (C : Addr) (C_Walk : Addr) (TS : List (Addr × Str)) : Sp := fun vs H Q _ => ∃ (kp l : Addr) (first last lo hi : Int), vs = [.ref kp, .ref l, .int first, .int last, .int lo, .int hi] ∧ (∃ wd s, Kd C H kp wd s ∧ loK wd s ≤ lo ∧ lo ≤ hiK wd s ∧ loK wd s ≤ hi ∧ hi ≤ hiK wd s) ∧ (∃ a b, H l = some (.tup [.int a, .int b]) ∧ SD a ∧ SD b ∧ SD first ∧ SD last) ∧ Q .non H
theorem ok__check_within {P : Program} {w : World} {K : PySem.W.Frag} {mg : Str → Option Value} {base : Heap} (T : Txt K mg) : FnOk P w K mg base CX0 6 T.f__check_within T.fd__check_within ["kind", "line", "first", "last", "low", "high"] (sp__check_within K T.C_Kind T.C_Walk []) := by
  have G__check := ok__check (P := P) (w := w) (base := base) T
  have G_check_value := ok_check_value (P := P) (w := w) (base := base) T
  refine T.F__check_within.ok sc__check_within (fun vs H Q E h => ?_) (fun cdv A outer s H vs Q E hr h => ?_)
  · obtain ⟨kp, l, first, last, lo, hi, rfl, _⟩ := h
    rfl
  · obtain ⟨kp, l, first, last, lo, hi, rfl, h⟩ := h
    have hr__check : Room 5 _ := hr.mono (by decide)
    have hr_check_value : Room 5 _ := hr.mono (by decide)
    refine ⟨_, (pss_cons (ps_expr (pe_call G__check hr__check rfl T.g__check T.k__check T.b__check .nil pass0 (pa_cons (pv 0 (hv := Or.inl rfl)) (pa_cons (pv 1 (hv := Or.inl rfl)) (pa_cons (pv 2 (hv := Or.inl rfl)) (pa_cons (pv 3 (hv := Or.inl rfl)) pa_nil))))))
      (pss_cons (ps_expr (pe_call G_check_value hr_check_value rfl T.g_check_value T.k_check_value T.b_check_value .nil pass0 (pa_cons (pv 0 (hv := Or.inl rfl)) (pa_cons (pv 4 (hv := Or.inl rfl)) (pa_cons pe_str pa_nil)))))
      (pss_one (ps_expr (pe_call G_check_value hr_check_value rfl T.g_check_value T.k_check_value T.b_check_value .nil pass0 (pa_cons (pv 0 (hv := Or.inl rfl)) (pa_cons (pv 5 (hv := Or.inl rfl)) (pa_cons pe_str pa_nil)))))))), ?_⟩
    try dsimp only [cxOf, Cx.nox, Cx.wish, Cx.blk]
    rw [show L2.start ["kind", "line", "first", "last", "low", "high"] [.ref kp, .ref l, .int first, .int last, .int lo, .int hi] = [some (.ref kp), some (.ref l), some (.int first), some (.int last), some (.int lo), some (.int hi)] from rfl]
    obtain ⟨⟨wd, s, hk, b1, b2, b3, b4⟩, ⟨a, b, hl, sa, sb, sf, sl⟩, k⟩ := h
    walk_at "rd"
    refine ⟨kp, l, first, last, rfl, ⟨wd, s, hk⟩, ⟨a, b, hl, sa, sb, sf, sl⟩, ?_⟩
    walk_at "rd"
    refine ⟨kp, _, _, rfl, ⟨wd, s, hk, b1, b2⟩, ?_⟩
    walk_at "rd"
    refine ⟨kp, _, _, rfl, ⟨wd, s, hk, b3, b4⟩, ?_⟩
    walk_at "rd"
    exact k
def sp__total (K : PySem.W.Frag) (C : Addr) (C_Walk : Addr) (TS : List (Addr × Str)) : Sp := fun vs H Q _ => ∃ (kp l : Addr) (first last lo hi : Int) (a b : Int) (wd : Nat) (s : Bool), vs = [.ref kp, .ref l, .int first, .int last, .int lo, .int hi] ∧ Kd C H kp wd s ∧ H l = some (.tup [.int a, .int b]) ∧ BB a ∧ BB b ∧ BB first ∧ BB last ∧ BB lo ∧ BB hi ∧ (lo ≤ hi → hi - lo < 2 ^ wd) ∧ ∀ H', Same H H' → Q (.int (tot (rsP wd a b lo hi) first last)) H'
theorem ok__total {P : Program} {w : World} {K : PySem.W.Frag} {mg : Str → Option Value} {base : Heap} (T : Txt K mg) : FnOk P w K mg base CX0 3 T.f__total T.fd__total ["kind", "line", "first", "last", "low", "high"] (sp__total K T.C_Kind T.C_Walk []) := by
  have G_total_between := ok_total_between (P := P) (w := w) (base := base) T
  refine T.F__total.ok sc__total (fun vs H Q E h => ?_) (fun cdv A outer s H vs Q E hr h => ?_)
  · obtain ⟨kp, l, first, last, lo, hi, a, b, wd, s, rfl, _⟩ := h
    rfl
  · obtain ⟨kp, l, first, last, lo, hi, a, b, wd, s, rfl, h⟩ := h
    have hr_total_between : Room 2 _ := hr.mono (by decide)
    refine ⟨_, (pss_one (ps_ret (pe_call G_total_between hr_total_between rfl T.g_total_between T.k_total_between T.b_total_between .nil pass0 (pa_cons (pv 1 (hv := Or.inl rfl)) (pa_cons (pe_op op_shl pe_int (pe_fld (pv 0 (hv := Or.inl rfl)) rfl)) (pa_cons (pv 2 (hv := Or.inl rfl)) (pa_cons (pv 3 (hv := Or.inl rfl)) (pa_cons (pv 4 (hv := Or.inl rfl)) (pa_cons (pv 5 (hv := Or.inl rfl)) pa_nil))))))))), ?_⟩
    try dsimp only [cxOf, Cx.nox, Cx.wish, Cx.blk]
    rw [show L2.start ["kind", "line", "first", "last", "low", "high"] [.ref kp, .ref l, .int first, .int last, .int lo, .int hi] = [some (.ref kp), some (.ref l), some (.int first), some (.int last), some (.int lo), some (.int hi)] from rfl]
    obtain ⟨hk, hl, ba, bb, bf, bl, blo, bhi, hlt, k⟩ := h
    have h2 := hk.w2
    walk_at "rd"
    refine w_fb T rfl hk ?_
    walk_at "rd"
    refine w_I (cpow (n := 1) (by omega) (by decide)) ?_
    rw [Int.toNat_natCast, Int.one_mul]
    walk_at "rd"
    exact ⟨l, a, b, 2 ^ wd, first, last, lo, hi, rfl, hl, p2 wd, bb_pow h2, ba, bb, bf, bl, blo, bhi, hlt, k⟩
def sp__hit (K : PySem.W.Frag) (C : Addr) (C_Walk : Addr) (TS : List (Addr × Str)) : Sp := fun vs H Q _ => ∃ (kp l : Addr) (f lo hi j : Int) (a b : Int) (wd : Nat) (s : Bool) (N : Nat), vs = [.ref kp, .ref l, .int f, .int lo, .int hi, .int j] ∧ Kd C H kp wd s ∧ H l = some (.tup [.int a, .int b]) ∧ BB a ∧ BB f ∧ lo ≤ hi ∧ hi - lo < 2 ^ wd ∧ 0 ≤ j ∧ N < 2 ^ 400 ∧ j < tot (rsP wd a b lo hi) f (f + (N : Int) - 1) ∧ ∀ (n : Nat) H', n < N → rsP wd a b lo hi (f + (n : Int)) = true → tot (rsP wd a b lo hi) f (f + (n : Int) - 1) = j → Same H H' → Q (.int (f + (n : Int))) H'
theorem ok__hit {P : Program} {w : World} {K : PySem.W.Frag} {mg : Str → Option Value} {base : Heap} (T : Txt K mg) : FnOk P w K mg base CX0 6 T.f__hit T.fd__hit ["kind", "line", "first", "low", "high", "j"] (sp__hit K T.C_Kind T.C_Walk []) := by
  have G_hit_at := ok_hit_at (P := P) (w := w) (base := base) T
  refine T.F__hit.ok sc__hit (fun vs H Q E h => ?_) (fun cdv A outer s H vs Q E hr h => ?_)
  · obtain ⟨kp, l, f, lo, hi, j, a, b, wd, s, N, rfl, _⟩ := h
    rfl
  · obtain ⟨kp, l, f, lo, hi, j, a, b, wd, s, N, rfl, h⟩ := h
    have hr_hit_at : Room 5 _ := hr.mono (by decide)
    refine ⟨_, (pss_one (ps_ret (pe_call G_hit_at hr_hit_at rfl T.g_hit_at T.k_hit_at T.b_hit_at .nil pass0 (pa_cons (pv 1 (hv := Or.inl rfl)) (pa_cons (pe_op op_shl pe_int (pe_fld (pv 0 (hv := Or.inl rfl)) rfl)) (pa_cons (pv 2 (hv := Or.inl rfl)) (pa_cons (pv 3 (hv := Or.inl rfl)) (pa_cons (pv 4 (hv := Or.inl rfl)) (pa_cons (pv 5 (hv := Or.inl rfl)) pa_nil))))))))), ?_⟩
    try dsimp only [cxOf, Cx.nox, Cx.wish, Cx.blk]
    rw [show L2.start ["kind", "line", "first", "low", "high", "j"] [.ref kp, .ref l, .int f, .int lo, .int hi, .int j] = [some (.ref kp), some (.ref l), some (.int f), some (.int lo), some (.int hi), some (.int j)] from rfl]
    obtain ⟨hk, hl, ba, bf, lh, hs, j0, N1, hj, k⟩ := h
    have w2 := hk.w2
    have hp := p2 wd
    have p129 : (2 : Int) ^ wd ≤ 2 ^ 129 := by
      have := Nat.pow_le_pow_right (n := 2) (by decide) (show wd ≤ 129 by omega)
      exact_mod_cast this
    have jl := tot_le (rsP wd a b lo hi) (first := f) (last := f + (N : Int) - 1) (by omega)
    have c4 : ((2 ^ 400 : Nat) : Int) = (2 : Int) ^ 400 := Int.natCast_pow 2 400
    walk_at "rd"
    refine w_fb T rfl hk ?_
    walk_at "rd"
    refine w_I (cpow (n := 1) (by omega) (by decide)) ?_
    rw [Int.toNat_natCast, Int.one_mul]
    walk_at "rd"
    have hC0 := (hit_pos (a := a) (b := b) hp lh hs f N).2
    refine ⟨l, a, b, 2 ^ wd, f, lo, hi, j, N, rfl, hl, ba, bf, hp, p129, by omega, by omega, j0, by omega, N1, by rw [hC0]; exact hj, fun n g H1 h s1 => ?_⟩
    obtain ⟨x1, x2⟩ := hit_is hp lh hs h
    refine k n H1 ?_ x1 x2 s1
    refine Nat.lt_of_not_le fun z => ?_
    have hj' : j < tot (rsP wd a b lo hi) f (f + (N : Int) - 1) := hj
    have x2' : tot (rsP wd a b lo hi) f (f + (n : Int) - 1) = j := x2
    have := tot_mono (rsP wd a b lo hi) (first := f) (show f + (N : Int) - 1 ≤ f + (n : Int) - 1 by omega)
    omega
def sp_total_within (K : PySem.W.Frag) (C : Addr) (C_Walk : Addr) (TS : List (Addr × Str)) : Sp := fun vs H Q _ => ∃ (kp l : Addr) (first last lo hi : Int) (a b : Int) (wd : Nat) (s : Bool), vs = [.ref kp, .ref l, .int first, .int last, .int lo, .int hi] ∧ Kd C H kp wd s ∧ H l = some (.tup [.int a, .int b]) ∧ SD a ∧ SD b ∧ SD first ∧ SD last ∧ loK wd s ≤ lo ∧ lo ≤ hiK wd s ∧ loK wd s ≤ hi ∧ hi ≤ hiK wd s ∧ ∀ H', Same H H' → Q (.int (tot (rsP wd a b lo hi) first last)) H'
theorem ok_total_within {P : Program} {w : World} {K : PySem.W.Frag} {mg : Str → Option Value} {base : Heap} (T : Txt K mg) : FnOk P w K mg base CX0 7 T.f_total_within T.fd_total_within ["kind", "line", "first", "last", "low", "high"] (sp_total_within K T.C_Kind T.C_Walk []) := by
  have G__check_within := ok__check_within (P := P) (w := w) (base := base) T
  have G__total := ok__total (P := P) (w := w) (base := base) T
  refine T.F_total_within.ok sc_total_within (fun vs H Q E h => ?_) (fun cdv A outer s H vs Q E hr h => ?_)
  · obtain ⟨kp, l, first, last, lo, hi, a, b, wd, s, rfl, _⟩ := h
    rfl
  · obtain ⟨kp, l, first, last, lo, hi, a, b, wd, s, rfl, h⟩ := h
    have hr__check_within : Room 6 _ := hr.mono (by decide)
    have hr__total : Room 3 _ := hr.mono (by decide)
    refine ⟨_, (pss_cons (ps_expr (pe_call G__check_within hr__check_within rfl T.g__check_within T.k__check_within T.b__check_within .nil pass0 (pa_cons (pv 0 (hv := Or.inl rfl)) (pa_cons (pv 1 (hv := Or.inl rfl)) (pa_cons (pv 2 (hv := Or.inl rfl)) (pa_cons (pv 3 (hv := Or.inl rfl)) (pa_cons (pv 4 (hv := Or.inl rfl)) (pa_cons (pv 5 (hv := Or.inl rfl)) pa_nil))))))))
      (pss_one (ps_ret (pe_call G__total hr__total rfl T.g__total T.k__total T.b__total .nil pass0 (pa_cons (pv 0 (hv := Or.inl rfl)) (pa_cons (pv 1 (hv := Or.inl rfl)) (pa_cons (pv 2 (hv := Or.inl rfl)) (pa_cons (pv 3 (hv := Or.inl rfl)) (pa_cons (pv 4 (hv := Or.inl rfl)) (pa_cons (pv 5 (hv := Or.inl rfl)) pa_nil)))))))))), ?_⟩
    try dsimp only [cxOf, Cx.nox, Cx.wish, Cx.blk]
    rw [show L2.start ["kind", "line", "first", "last", "low", "high"] [.ref kp, .ref l, .int first, .int last, .int lo, .int hi] = [some (.ref kp), some (.ref l), some (.int first), some (.int last), some (.int lo), some (.int hi)] from rfl]
    obtain ⟨hk, hl, sa, sb, sf, sl, b1, b2, b3, b4, k⟩ := h
    have w2 := hk.w2
    walk_at "rd"
    refine ⟨kp, l, first, last, lo, hi, rfl, ⟨wd, s, hk, b1, b2, b3, b4⟩, ⟨a, b, hl, sa, sb, sf, sl⟩, ?_⟩
    walk_at "rd"
    refine ⟨kp, l, first, last, lo, hi, a, b, wd, s, rfl, hk, hl, sa.bb, sb.bb, sf.bb, sl.bb, bbk w2 b1 b2, bbk w2 b3 b4, fun _ => ?_, fun H' s' => ?_⟩
    · unfold hiK at b4; omega
    · exact k _ s'
def sp_first_within (K : PySem.W.Frag) (C : Addr) (C_Walk : Addr) (TS : List (Addr × Str)) : Sp := fun vs H Q _ => ∃ (kp l : Addr) (first last lo hi : Int) (a b : Int) (wd : Nat) (s : Bool), vs = [.ref kp, .ref l, .int first, .int last, .int lo, .int hi] ∧ Kd C H kp wd s ∧ H l = some (.tup [.int a, .int b]) ∧ SD a ∧ SD b ∧ SD first ∧ SD last ∧ loK wd s ≤ lo ∧ lo ≤ hiK wd s ∧ loK wd s ≤ hi ∧ hi ≤ hiK wd s ∧ LamX.Tabs TS H ∧ ∀ v H', FirstOf (rsP wd a b lo hi) first last v → Sm TS H H' → Q v H'
theorem ok_first_within {P : Program} {w : World} {K : PySem.W.Frag} {mg : Str → Option Value} {base : Heap} (T : Txt K mg) : FnOk P w K mg base CX0 7 T.f_first_within T.fd_first_within ["kind", "line", "first", "last", "low", "high"] (sp_first_within K T.C_Kind T.C_Walk []) := by
  have G__check_within := ok__check_within (P := P) (w := w) (base := base) T
  have G__hit := ok__hit (P := P) (w := w) (base := base) T
  have G__total := ok__total (P := P) (w := w) (base := base) T
  refine T.F_first_within.ok sc_first_within (fun vs H Q E h => ?_) (fun cdv A outer s H vs Q E hr h => ?_)
  · obtain ⟨kp, l, first, last, lo, hi, a, b, wd, s, rfl, _⟩ := h
    rfl
  · obtain ⟨kp, l, first, last, lo, hi, a, b, wd, s, rfl, h⟩ := h
    have hr__check_within : Room 6 _ := hr.mono (by decide)
    have hr__hit : Room 6 _ := hr.mono (by decide)
    have hr__total : Room 3 _ := hr.mono (by decide)
    refine ⟨_, (pss_cons (ps_expr (pe_call G__check_within hr__check_within rfl T.g__check_within T.k__check_within T.b__check_within .nil pass0 (pa_cons (pv 0 (hv := Or.inl rfl)) (pa_cons (pv 1 (hv := Or.inl rfl)) (pa_cons (pv 2 (hv := Or.inl rfl)) (pa_cons (pv 3 (hv := Or.inl rfl)) (pa_cons (pv 4 (hv := Or.inl rfl)) (pa_cons (pv 5 (hv := Or.inl rfl)) pa_nil))))))))
      (pss_cons (ps_set (i := 6) sc_first_within.nd rfl (Or.inl rfl) (pe_call G__total hr__total rfl T.g__total T.k__total T.b__total .nil pass0 (pa_cons (pv 0 (hv := Or.inl rfl)) (pa_cons (pv 1 (hv := Or.inl rfl)) (pa_cons (pv 2 (hv := Or.inl rfl)) (pa_cons (pv 3 (hv := Or.inl rfl)) (pa_cons (pv 4 (hv := Or.inl rfl)) (pa_cons (pv 5 (hv := Or.inl rfl)) pa_nil))))))))
      (pss_one (ps_ret (pe_ifExp (pt_cmpR op_eq (pv 6 (hv := Or.inl rfl)) pe_int (nomark _)) pe_non (pe_call G__hit hr__hit rfl T.g__hit T.k__hit T.b__hit .nil pass0 (pa_cons (pv 0 (hv := Or.inl rfl)) (pa_cons (pv 1 (hv := Or.inl rfl)) (pa_cons (pv 2 (hv := Or.inl rfl)) (pa_cons (pv 4 (hv := Or.inl rfl)) (pa_cons (pv 5 (hv := Or.inl rfl)) (pa_cons pe_int pa_nil)))))))))))), ?_⟩
    try dsimp only [cxOf, Cx.nox, Cx.wish, Cx.blk]
    rw [show L2.start ["kind", "line", "first", "last", "low", "high", "total"] [.ref kp, .ref l, .int first, .int last, .int lo, .int hi] = [some (.ref kp), some (.ref l), some (.int first), some (.int last), some (.int lo), some (.int hi), none] from rfl]
    obtain ⟨hk, hl, sa, sb, sf, sl, b1, b2, b3, b4, hT, k⟩ := h
    have w2 := hk.w2
    walk_at "rd"
    refine ⟨kp, l, first, last, lo, hi, rfl, ⟨wd, s, hk, b1, b2, b3, b4⟩, ⟨a, b, hl, sa, sb, sf, sl⟩, ?_⟩
    walk_at "rd"
    refine ⟨kp, l, first, last, lo, hi, a, b, wd, s, rfl, hk, hl, sa.bb, sb.bb, sf.bb, sl.bb, bbk w2 b1 b2, bbk w2 b3 b4, fun _ => ?_, fun H1 s1 => ?_⟩
    · unfold hiK at b4; omega
    have hk1 := hk.same s1
    have hl1 := s1 _ _ hl
    obtain ⟨t, et⟩ : ∃ t, t = tot (rsP wd a b lo hi) first last := ⟨_, rfl⟩
    have q61 : (10 : Int) ^ 60 * 3 < 2 ^ 400 := by decide +kernel
    have c4 : ((2 ^ 400 : Nat) : Int) = (2 : Int) ^ 400 := Int.natCast_pow 2 400
    have sf1 := sf.1
    have sl2 := sl.2
    rw [← et]
    have lh : 0 < t → first ≤ last ∧ lo ≤ hi := fun z => by
      refine ⟨Int.not_lt.mp fun c => ?_, Int.not_lt.mp fun c => ?_⟩
      · rw [tot_none c] at et; omega
      · have : tot (rsP wd a b lo hi) first last = 0 := tot_zero_iff.mpr fun x _ _ => by
          unfold rsP inR
          exact decide_eq_false fun z => by omega
        omega
    
    walk_at "rd"
    refine w_if ?_
    walk_at "rd"
    refine w_dec (fun z => ?_) (fun z => ?_)
    · walk_at "rd"
      exact k _ _ (.inl ⟨rfl, by rw [← et]; exact z⟩) (Sm.of s1)
    have tn := tot_nonneg (rsP wd a b lo hi) first last
    obtain ⟨fl, llh⟩ := lh (by omega)
    walk_at "rd"
    
    have eN : first + (((last - first + 1).toNat : Nat) : Int) - 1 = last := by omega
    refine ⟨kp, l, first, lo, hi, 0, a, b, wd, s, (last - first + 1).toNat, rfl, hk1, hl1, sa.bb, sf.bb, llh, (by unfold hiK at b4; omega), by omega, by omega, by rw [eN]; omega, fun n H2 n1 px pt s2 => ?_⟩
    refine k _ _ (.inr ⟨_, rfl, by omega, by omega, px, pt⟩) (Sm.of (s1.trans s2))
def sp_within_at (K : PySem.W.Frag) (C : Addr) (C_Walk : Addr) (TS : List (Addr × Str)) : Sp := fun vs H Q _ => ∃ (kp l : Addr) (first last lo hi j : Int) (a b : Int) (wd : Nat) (s : Bool), vs = [.ref kp, .ref l, .int first, .int last, .int lo, .int hi, .int j] ∧ Kd C H kp wd s ∧ H l = some (.tup [.int a, .int b]) ∧ SD a ∧ SD b ∧ SD first ∧ SD last ∧ loK wd s ≤ lo ∧ lo ≤ hiK wd s ∧ loK wd s ≤ hi ∧ hi ≤ hiK wd s ∧ LamX.Tabs TS H ∧ 0 ≤ j ∧ j < tot (rsP wd a b lo hi) first last ∧ ∀ x H', AtOf (rsP wd a b lo hi) first last j x → Sm TS H H' → Q (.int x) H'
theorem ok_within_at {P : Program} {w : World} {K : PySem.W.Frag} {mg : Str → Option Value} {base : Heap} (T : Txt K mg) : FnOk P w K mg base CX0 7 T.f_within_at T.fd_within_at ["kind", "line", "first", "last", "low", "high", "j"] (sp_within_at K T.C_Kind T.C_Walk []) := by
  have G__check_within := ok__check_within (P := P) (w := w) (base := base) T
  have G__hit := ok__hit (P := P) (w := w) (base := base) T
  have G__total := ok__total (P := P) (w := w) (base := base) T
  have G_check_number := ok_check_number (P := P) (w := w) (base := base) T
  refine T.F_within_at.ok sc_within_at (fun vs H Q E h => ?_) (fun cdv A outer s H vs Q E hr h => ?_)
  · obtain ⟨kp, l, first, last, lo, hi, j, a, b, wd, s, rfl, _⟩ := h
    rfl
  · obtain ⟨kp, l, first, last, lo, hi, j, a, b, wd, s, rfl, h⟩ := h
    have hr__check_within : Room 6 _ := hr.mono (by decide)
    have hr__hit : Room 6 _ := hr.mono (by decide)
    have hr__total : Room 3 _ := hr.mono (by decide)
    have hr_check_number : Room 3 _ := hr.mono (by decide)
    refine ⟨_, (pss_cons (ps_expr (pe_call G__check_within hr__check_within rfl T.g__check_within T.k__check_within T.b__check_within .nil pass0 (pa_cons (pv 0 (hv := Or.inl rfl)) (pa_cons (pv 1 (hv := Or.inl rfl)) (pa_cons (pv 2 (hv := Or.inl rfl)) (pa_cons (pv 3 (hv := Or.inl rfl)) (pa_cons (pv 4 (hv := Or.inl rfl)) (pa_cons (pv 5 (hv := Or.inl rfl)) pa_nil))))))))
      (pss_cons (ps_expr (pe_call G_check_number hr_check_number rfl T.g_check_number T.k_check_number T.b_check_number .nil pass0 (pa_cons (pv 6 (hv := Or.inl rfl)) (pa_cons (pe_call G__total hr__total rfl T.g__total T.k__total T.b__total .nil pass0 (pa_cons (pv 0 (hv := Or.inl rfl)) (pa_cons (pv 1 (hv := Or.inl rfl)) (pa_cons (pv 2 (hv := Or.inl rfl)) (pa_cons (pv 3 (hv := Or.inl rfl)) (pa_cons (pv 4 (hv := Or.inl rfl)) (pa_cons (pv 5 (hv := Or.inl rfl)) pa_nil))))))) pa_nil))))
      (pss_one (ps_ret (pe_call G__hit hr__hit rfl T.g__hit T.k__hit T.b__hit .nil pass0 (pa_cons (pv 0 (hv := Or.inl rfl)) (pa_cons (pv 1 (hv := Or.inl rfl)) (pa_cons (pv 2 (hv := Or.inl rfl)) (pa_cons (pv 4 (hv := Or.inl rfl)) (pa_cons (pv 5 (hv := Or.inl rfl)) (pa_cons (pv 6 (hv := Or.inl rfl)) pa_nil))))))))))), ?_⟩
    try dsimp only [cxOf, Cx.nox, Cx.wish, Cx.blk]
    rw [show L2.start ["kind", "line", "first", "last", "low", "high", "j"] [.ref kp, .ref l, .int first, .int last, .int lo, .int hi, .int j] = [some (.ref kp), some (.ref l), some (.int first), some (.int last), some (.int lo), some (.int hi), some (.int j)] from rfl]
    obtain ⟨hk, hl, sa, sb, sf, sl, b1, b2, b3, b4, hT, j0, j1, k⟩ := h
    have w2 := hk.w2
    walk_at "rd"
    refine ⟨kp, l, first, last, lo, hi, rfl, ⟨wd, s, hk, b1, b2, b3, b4⟩, ⟨a, b, hl, sa, sb, sf, sl⟩, ?_⟩
    walk_at "rd"
    refine ⟨kp, l, first, last, lo, hi, a, b, wd, s, rfl, hk, hl, sa.bb, sb.bb, sf.bb, sl.bb, bbk w2 b1 b2, bbk w2 b3 b4, fun _ => ?_, fun H1 s1 => ?_⟩
    · unfold hiK at b4; omega
    have hk1 := hk.same s1
    have hl1 := s1 _ _ hl
    obtain ⟨t, et⟩ : ∃ t, t = tot (rsP wd a b lo hi) first last := ⟨_, rfl⟩
    have q61 : (10 : Int) ^ 60 * 3 < 2 ^ 400 := by decide +kernel
    have c4 : ((2 ^ 400 : Nat) : Int) = (2 : Int) ^ 400 := Int.natCast_pow 2 400
    have sf1 := sf.1
    have sl2 := sl.2
    rw [← et]
    have lh : 0 < t → first ≤ last ∧ lo ≤ hi := fun z => by
      refine ⟨Int.not_lt.mp fun c => ?_, Int.not_lt.mp fun c => ?_⟩
      · rw [tot_none c] at et; omega
      · have : tot (rsP wd a b lo hi) first last = 0 := tot_zero_iff.mpr fun x _ _ => by
          unfold rsP inR
          exact decide_eq_false fun z => by omega
        omega
    
    walk_at "rd"
    refine ⟨j, t, rfl, j0, by omega, ?_⟩
    obtain ⟨fl, llh⟩ := lh (by omega)
    walk_at "rd"
    
    have eN : first + (((last - first + 1).toNat : Nat) : Int) - 1 = last := by omega
    refine ⟨kp, l, first, lo, hi, j, a, b, wd, s, (last - first + 1).toNat, rfl, hk1, hl1, sa.bb, sf.bb, llh, (by unfold hiK at b4; omega), by omega, by omega, by rw [eN]; omega, fun n H2 n1 px pt s2 => ?_⟩
    refine k _ _ ⟨by omega, by omega, px, pt⟩ (Sm.of (s1.trans s2))
def sp_least_result (K : PySem.W.Frag) (C : Addr) (C_Walk : Addr) (TS : List (Addr × Str)) : Sp := fun vs H Q _ => ∃ (kp l : Addr) (first last : Int) (a b : Int) (wd : Nat) (s : Bool), vs = [.ref kp, .ref l, .int first, .int last] ∧ Kd C H kp wd s ∧ H l = some (.tup [.int a, .int b]) ∧ SD a ∧ SD b ∧ SD first ∧ SD last ∧ LamX.Tabs TS H ∧ ∀ v H', ExtV (LeastAt (ln wd s a b) first last) first last H' v → Sm TS H H' → Q v H'
theorem ok_least_result {P : Program} {w : World} {K : PySem.W.Frag} {mg : Str → Option Value} {base : Heap} (T : Txt K mg) : FnOk P w K mg base CX0 7 T.f_least_result T.fd_least_result ["kind", "line", "first", "last"] (sp_least_result K T.C_Kind T.C_Walk []) := by
  have G__check := ok__check (P := P) (w := w) (base := base) T
  have G__hit := ok__hit (P := P) (w := w) (base := base) T
  have G_least := ok_least (P := P) (w := w) (base := base) T
  have G_least_remainder := ok_least_remainder (P := P) (w := w) (base := base) T
  refine T.F_least_result.ok sc_least_result (fun vs H Q E h => ?_) (fun cdv A outer s H vs Q E hr h => ?_)
  · obtain ⟨kp, l, first, last, a, b, wd, s, rfl, _⟩ := h
    rfl
  · obtain ⟨kp, l, first, last, a, b, wd, s, rfl, h⟩ := h
    have hr__check : Room 5 _ := hr.mono (by decide)
    have hr__hit : Room 6 _ := hr.mono (by decide)
    have hr_least : Room 2 _ := hr.mono (by decide)
    have hr_least_remainder : Room 1 _ := hr.mono (by decide)
    refine ⟨_, (pss_cons (ps_expr (pe_call G__check hr__check rfl T.g__check T.k__check T.b__check .nil pass0 (pa_cons (pv 0 (hv := Or.inl rfl)) (pa_cons (pv 1 (hv := Or.inl rfl)) (pa_cons (pv 2 (hv := Or.inl rfl)) (pa_cons (pv 3 (hv := Or.inl rfl)) pa_nil))))))
      (pss_cons (ps_if (pt_cmpR op_lt (pv 3 (hv := Or.inl rfl)) (pv 2 (hv := Or.inl rfl)) (nomark _)) (pss_one (ps_ret pe_non)) pss_nil)
      (pss_cons (ps_asg (pv 1 (hv := Or.inl rfl)) (pg_tup rfl (pgs_cons (pg_name (i := 4) sc_least_result.nd rfl (Or.inl rfl)) (pgs_cons (pg_name (i := 5) sc_least_result.nd rfl (Or.inl rfl)) pgs_nil))))
      (pss_cons (ps_set (i := 6) sc_least_result.nd rfl (Or.inl rfl) (pe_call G_least hr_least rfl T.g_least T.k_least T.b_least .nil pass0 (pa_cons (pv 0 (hv := Or.inl rfl)) pa_nil)))
      (pss_cons (ps_set (i := 7) sc_least_result.nd rfl (Or.inl rfl) (pe_op op_add (pv 6 (hv := Or.inl rfl)) (pe_call G_least_remainder hr_least_remainder rfl T.g_least_remainder T.k_least_remainder T.b_least_remainder .nil pass0 (pa_cons (pe_tup (pa_cons (pv 4 (hv := Or.inl rfl)) (pa_cons (pe_op op_sub (pv 5 (hv := Or.inl rfl)) (pv 6 (hv := Or.inl rfl))) pa_nil))) (pa_cons (pe_op op_shl pe_int (pe_fld (pv 0 (hv := Or.inl rfl)) rfl)) (pa_cons (pv 2 (hv := Or.inl rfl)) (pa_cons (pv 3 (hv := Or.inl rfl)) pa_nil)))))))
      (pss_one (ps_ret (pe_tup (pa_cons (pv 7 (hv := Or.inl rfl)) (pa_cons (pe_call G__hit hr__hit rfl T.g__hit T.k__hit T.b__hit .nil pass0 (pa_cons (pv 0 (hv := Or.inl rfl)) (pa_cons (pv 1 (hv := Or.inl rfl)) (pa_cons (pv 2 (hv := Or.inl rfl)) (pa_cons (pv 7 (hv := Or.inl rfl)) (pa_cons (pv 7 (hv := Or.inl rfl)) (pa_cons pe_int pa_nil))))))) pa_nil)))))))))), ?_⟩
    try dsimp only [cxOf, Cx.nox, Cx.wish, Cx.blk]
    rw [show L2.start ["kind", "line", "first", "last", "a", "b", "low", "y"] [.ref kp, .ref l, .int first, .int last] = [some (.ref kp), some (.ref l), some (.int first), some (.int last), none, none, none, none] from rfl]
    obtain ⟨hk, hl, sa, sb, sf, sl, hT, k⟩ := h
    have w2 := hk.w2
    have hp := p2 wd
    have hpb := bb_pow w2
    obtain ⟨z1, z2, z3, z4, z5⟩ := loK_b (s := s) w2
    have z6 := p128
    have z7 := p290
    have q61 : (10 : Int) ^ 60 * 3 < 2 ^ 400 := by decide +kernel
    have c4 : ((2 ^ 400 : Nat) : Int) = (2 : Int) ^ 400 := Int.natCast_pow 2 400
    have h302 : (2 : Nat) ^ 302 = 4 * 2 ^ 300 := by decide +kernel
    have bba := sa.bb
    have bbb := sb.bb
    have bbf := sf.bb
    have bbl := sl.bb
    have sf1 := sf.1
    have sl2 := sl.2
    have blo : BB (loK wd s) := bb_of (by omega) (by omega)
    have bhi : BB (hiK wd s) := bb_of (by omega) (by omega)
    unfold BB at bba bbb bbf bbl blo bhi
    walk_at "rd"
    refine ⟨kp, l, first, last, rfl, ⟨wd, s, hk⟩, ⟨a, b, hl, sa, sb, sf, sl⟩, ?_⟩
    walk_at "rd"
    refine w_dec (fun c => ?_) (fun c => ?_)
    · walk_at "rd"
      exact k _ _ (.inl ⟨c, rfl⟩) (Sm.refl H)
    have fl : first ≤ last := by omega
    walk_at "rd"
    refine ⟨kp, wd, s, rfl, hk, ?_⟩
    walk_at "rd"
    refine ⟨by show 2 ≤ sizeLine; decide, fun t0 ht0 => ?_⟩
    have s0 : Same H (L2.upd H t0 (.tup [.int (a), .int (b - loK wd s)])) := fun q u e => gn e ht0
    have ht0' : (L2.upd H t0 (.tup [.int (a), .int (b - loK wd s)])) t0 = some (.tup [.int (a), .int (b - loK wd s)]) := upd_same
    generalize L2.upd H t0 _ = H0 at s0 ht0' ⊢
    walk_at "rd"
    refine w_fb T rfl (hk.same s0) ?_
    walk_at "rd"
    refine w_I (cpow (n := 1) (by omega) (by decide)) ?_
    rw [Int.toNat_natCast, Int.one_mul]
    walk_at "rd"
    refine ⟨t0, a, b - loK wd s, 2 ^ wd, first, last, rfl, ht0', hp, hpb, (by show Int.natAbs _ < _; omega), by omega, bbf, bbl, fl, fun H1 yy s1 hy => ?_⟩
    have s01 := s0.trans s1
    obtain ⟨⟨x0, x01, x02, x03⟩, all⟩ := lr_low hy
    obtain ⟨y, ey⟩ : ∃ y, y = loK wd s + yy := ⟨_, rfl⟩
    rw [← ey] at x03 all
    have y0 : loK wd s ≤ y := by rw [← x03]; exact wr_lo wd s _
    have y1 : y ≤ hiK wd s := by rw [← x03]; exact wr_hi wd s _
    have eN : first + (((last - first + 1).toNat : Nat) : Int) - 1 = last := by omega
    walk_at "rd"
    rw [← ey]
    refine ⟨kp, l, first, y, y, 0, a, b, wd, s, (last - first + 1).toNat, rfl, hk.same s01, s01 _ _ hl, sa.bb, sf.bb, Int.le_refl _, by omega, by omega, by omega, (by rw [eN]; exact tot_pos x01 x02 (by rw [rs_y y0 y1]; exact decide_eq_true x03)), fun n H2 n1 px pt s2 => ?_⟩
    walk_at "rd"
    refine ⟨by show 2 ≤ sizeLine; decide, fun t ht => ?_⟩
    rw [rs_y y0 y1] at px
    refine k _ _ (.inr ⟨t, y, first + (n : Int), rfl, upd_same, by omega, by omega, of_decide_eq_true px, all, fun z z1 z2 => ?_⟩) ((Sm.of (s01.trans s2)).new ht)
    have := tot_zero_iff.mp pt z z1 (by omega)
    rw [rs_y y0 y1] at this
    exact of_decide_eq_false this
def sp_greatest_result (K : PySem.W.Frag) (C : Addr) (C_Walk : Addr) (TS : List (Addr × Str)) : Sp := fun vs H Q _ => ∃ (kp l : Addr) (first last : Int) (a b : Int) (wd : Nat) (s : Bool), vs = [.ref kp, .ref l, .int first, .int last] ∧ Kd C H kp wd s ∧ H l = some (.tup [.int a, .int b]) ∧ SD a ∧ SD b ∧ SD first ∧ SD last ∧ LamX.Tabs TS H ∧ ∀ v H', ExtV (GreatAt (ln wd s a b) first last) first last H' v → Sm TS H H' → Q v H'
theorem ok_greatest_result {P : Program} {w : World} {K : PySem.W.Frag} {mg : Str → Option Value} {base : Heap} (T : Txt K mg) : FnOk P w K mg base CX0 7 T.f_greatest_result T.fd_greatest_result ["kind", "line", "first", "last"] (sp_greatest_result K T.C_Kind T.C_Walk []) := by
  have G__check := ok__check (P := P) (w := w) (base := base) T
  have G__hit := ok__hit (P := P) (w := w) (base := base) T
  have G_greatest := ok_greatest (P := P) (w := w) (base := base) T
  have G_least_remainder := ok_least_remainder (P := P) (w := w) (base := base) T
  refine T.F_greatest_result.ok sc_greatest_result (fun vs H Q E h => ?_) (fun cdv A outer s H vs Q E hr h => ?_)
  · obtain ⟨kp, l, first, last, a, b, wd, s, rfl, _⟩ := h
    rfl
  · obtain ⟨kp, l, first, last, a, b, wd, s, rfl, h⟩ := h
    have hr__check : Room 5 _ := hr.mono (by decide)
    have hr__hit : Room 6 _ := hr.mono (by decide)
    have hr_greatest : Room 3 _ := hr.mono (by decide)
    have hr_least_remainder : Room 1 _ := hr.mono (by decide)
    refine ⟨_, (pss_cons (ps_expr (pe_call G__check hr__check rfl T.g__check T.k__check T.b__check .nil pass0 (pa_cons (pv 0 (hv := Or.inl rfl)) (pa_cons (pv 1 (hv := Or.inl rfl)) (pa_cons (pv 2 (hv := Or.inl rfl)) (pa_cons (pv 3 (hv := Or.inl rfl)) pa_nil))))))
      (pss_cons (ps_if (pt_cmpR op_lt (pv 3 (hv := Or.inl rfl)) (pv 2 (hv := Or.inl rfl)) (nomark _)) (pss_one (ps_ret pe_non)) pss_nil)
      (pss_cons (ps_asg (pv 1 (hv := Or.inl rfl)) (pg_tup rfl (pgs_cons (pg_name (i := 4) sc_greatest_result.nd rfl (Or.inl rfl)) (pgs_cons (pg_name (i := 5) sc_greatest_result.nd rfl (Or.inl rfl)) pgs_nil))))
      (pss_cons (ps_set (i := 6) sc_greatest_result.nd rfl (Or.inl rfl) (pe_call G_greatest hr_greatest rfl T.g_greatest T.k_greatest T.b_greatest .nil pass0 (pa_cons (pv 0 (hv := Or.inl rfl)) pa_nil)))
      (pss_cons (ps_set (i := 7) sc_greatest_result.nd rfl (Or.inl rfl) (pe_op op_sub (pv 6 (hv := Or.inl rfl)) (pe_call G_least_remainder hr_least_remainder rfl T.g_least_remainder T.k_least_remainder T.b_least_remainder .nil pass0 (pa_cons (pe_tup (pa_cons (pe_un un_neg (pv 4 (hv := Or.inl rfl))) (pa_cons (pe_op op_sub (pv 6 (hv := Or.inl rfl)) (pv 5 (hv := Or.inl rfl))) pa_nil))) (pa_cons (pe_op op_shl pe_int (pe_fld (pv 0 (hv := Or.inl rfl)) rfl)) (pa_cons (pv 2 (hv := Or.inl rfl)) (pa_cons (pv 3 (hv := Or.inl rfl)) pa_nil)))))))
      (pss_one (ps_ret (pe_tup (pa_cons (pv 7 (hv := Or.inl rfl)) (pa_cons (pe_call G__hit hr__hit rfl T.g__hit T.k__hit T.b__hit .nil pass0 (pa_cons (pv 0 (hv := Or.inl rfl)) (pa_cons (pv 1 (hv := Or.inl rfl)) (pa_cons (pv 2 (hv := Or.inl rfl)) (pa_cons (pv 7 (hv := Or.inl rfl)) (pa_cons (pv 7 (hv := Or.inl rfl)) (pa_cons pe_int pa_nil))))))) pa_nil)))))))))), ?_⟩
    try dsimp only [cxOf, Cx.nox, Cx.wish, Cx.blk]
    rw [show L2.start ["kind", "line", "first", "last", "a", "b", "high", "y"] [.ref kp, .ref l, .int first, .int last] = [some (.ref kp), some (.ref l), some (.int first), some (.int last), none, none, none, none] from rfl]
    obtain ⟨hk, hl, sa, sb, sf, sl, hT, k⟩ := h
    have w2 := hk.w2
    have hp := p2 wd
    have hpb := bb_pow w2
    obtain ⟨z1, z2, z3, z4, z5⟩ := loK_b (s := s) w2
    have z6 := p128
    have z7 := p290
    have q61 : (10 : Int) ^ 60 * 3 < 2 ^ 400 := by decide +kernel
    have c4 : ((2 ^ 400 : Nat) : Int) = (2 : Int) ^ 400 := Int.natCast_pow 2 400
    have h302 : (2 : Nat) ^ 302 = 4 * 2 ^ 300 := by decide +kernel
    have bba := sa.bb
    have bbb := sb.bb
    have bbf := sf.bb
    have bbl := sl.bb
    have sf1 := sf.1
    have sl2 := sl.2
    have blo : BB (loK wd s) := bb_of (by omega) (by omega)
    have bhi : BB (hiK wd s) := bb_of (by omega) (by omega)
    unfold BB at bba bbb bbf bbl blo bhi
    walk_at "rd"
    refine ⟨kp, l, first, last, rfl, ⟨wd, s, hk⟩, ⟨a, b, hl, sa, sb, sf, sl⟩, ?_⟩
    walk_at "rd"
    refine w_dec (fun c => ?_) (fun c => ?_)
    · walk_at "rd"
      exact k _ _ (.inl ⟨c, rfl⟩) (Sm.refl H)
    have fl : first ≤ last := by omega
    walk_at "rd"
    refine ⟨kp, wd, s, rfl, hk, ?_⟩
    walk_at "rd"
    refine ⟨by show 2 ≤ sizeLine; decide, fun t0 ht0 => ?_⟩
    have s0 : Same H (L2.upd H t0 (.tup [.int (-a), .int (hiK wd s - b)])) := fun q u e => gn e ht0
    have ht0' : (L2.upd H t0 (.tup [.int (-a), .int (hiK wd s - b)])) t0 = some (.tup [.int (-a), .int (hiK wd s - b)]) := upd_same
    generalize L2.upd H t0 _ = H0 at s0 ht0' ⊢
    walk_at "rd"
    refine w_fb T rfl (hk.same s0) ?_
    walk_at "rd"
    refine w_I (cpow (n := 1) (by omega) (by decide)) ?_
    rw [Int.toNat_natCast, Int.one_mul]
    walk_at "rd"
    refine ⟨t0, -a, hiK wd s - b, 2 ^ wd, first, last, rfl, ht0', hp, hpb, (by show Int.natAbs _ < _; omega), by omega, bbf, bbl, fl, fun H1 yy s1 hy => ?_⟩
    have s01 := s0.trans s1
    obtain ⟨⟨x0, x01, x02, x03⟩, all⟩ := lr_high hy
    obtain ⟨y, ey⟩ : ∃ y, y = hiK wd s - yy := ⟨_, rfl⟩
    rw [← ey] at x03 all
    have y0 : loK wd s ≤ y := by rw [← x03]; exact wr_lo wd s _
    have y1 : y ≤ hiK wd s := by rw [← x03]; exact wr_hi wd s _
    have eN : first + (((last - first + 1).toNat : Nat) : Int) - 1 = last := by omega
    walk_at "rd"
    rw [← ey]
    refine ⟨kp, l, first, y, y, 0, a, b, wd, s, (last - first + 1).toNat, rfl, hk.same s01, s01 _ _ hl, sa.bb, sf.bb, Int.le_refl _, by omega, by omega, by omega, (by rw [eN]; exact tot_pos x01 x02 (by rw [rs_y y0 y1]; exact decide_eq_true x03)), fun n H2 n1 px pt s2 => ?_⟩
    walk_at "rd"
    refine ⟨by show 2 ≤ sizeLine; decide, fun t ht => ?_⟩
    rw [rs_y y0 y1] at px
    refine k _ _ (.inr ⟨t, y, first + (n : Int), rfl, upd_same, by omega, by omega, of_decide_eq_true px, all, fun z z1 z2 => ?_⟩) ((Sm.of (s01.trans s2)).new ht)
    have := tot_zero_iff.mp pt z z1 (by omega)
    rw [rs_y y0 y1] at this
    exact of_decide_eq_false this
def sp__falling (K : PySem.W.Frag) (C : Addr) (C_Walk : Addr) (TS : List (Addr × Str)) : Sp := fun vs H Q _ => ∃ (kp l : Addr) (a b : Int) (wd : Nat) (s : Bool), vs = [.ref kp, .ref l] ∧ Kd C H kp wd s ∧ H l = some (.tup [.int a, .int b]) ∧ BB a ∧ ∀ t, H t = none → Q (.ref t) (upd H t (.tup [.int (hiK wd s + 1 - a % 2 ^ wd), .int (hiK wd s)]))
theorem ok__falling {P : Program} {w : World} {K : PySem.W.Frag} {mg : Str → Option Value} {base : Heap} (T : Txt K mg) : FnOk P w K mg base CX0 4 T.f__falling T.fd__falling ["kind", "line"] (sp__falling K T.C_Kind T.C_Walk []) := by
  have G_greatest := ok_greatest (P := P) (w := w) (base := base) T
  refine T.F__falling.ok sc__falling (fun vs H Q E h => ?_) (fun cdv A outer s H vs Q E hr h => ?_)
  · obtain ⟨kp, l, a, b, wd, s, rfl, _⟩ := h
    rfl
  · obtain ⟨kp, l, a, b, wd, s, rfl, h⟩ := h
    have hr_greatest : Room 3 _ := hr.mono (by decide)
    refine ⟨_, (pss_cons (ps_set (i := 2) sc__falling.nd rfl (Or.inl rfl) (pe_op op_mod (pe_ix (r := rIxT K) ix_tup (pv 1 (hv := Or.inl rfl)) pe_int (fun _ _ => rfl)) (pe_op op_shl pe_int (pe_fld (pv 0 (hv := Or.inl rfl)) rfl))))
      (pss_one (ps_ret (pe_tup (pa_cons (pe_op op_sub (pe_op op_add (pe_call G_greatest hr_greatest rfl T.g_greatest T.k_greatest T.b_greatest .nil pass0 (pa_cons (pv 0 (hv := Or.inl rfl)) pa_nil)) pe_int) (pv 2 (hv := Or.inl rfl))) (pa_cons (pe_call G_greatest hr_greatest rfl T.g_greatest T.k_greatest T.b_greatest .nil pass0 (pa_cons (pv 0 (hv := Or.inl rfl)) pa_nil)) pa_nil)))))), ?_⟩
    try dsimp only [cxOf, Cx.nox, Cx.wish, Cx.blk]
    rw [show L2.start ["kind", "line", "added"] [.ref kp, .ref l] = [some (.ref kp), some (.ref l), none] from rfl]
    obtain ⟨hk, hl, ba, k⟩ := h
    have h2 := hk.w2
    have hp := p2 wd
    walk_at "rd"
    refine w_fb T rfl hk ?_
    walk_at "rd"
    refine w_I (cpow (n := 1) (by omega) (by decide)) ?_
    rw [Int.toNat_natCast, Int.one_mul]
    refine w_I hp ?_
    walk_at "rd"
    refine ⟨kp, wd, s, rfl, hk, ?_⟩
    walk_at "rd"
    refine ⟨kp, wd, s, rfl, hk, ?_⟩
    walk_at "rd"
    refine ⟨by show 2 ≤ sizeLine; decide, fun t ht => ?_⟩
    exact k t ht
def sp_descents (K : PySem.W.Frag) (C : Addr) (C_Walk : Addr) (TS : List (Addr × Str)) : Sp := fun vs H Q _ => ∃ (kp l : Addr) (first last : Int) (a b : Int) (wd : Nat) (s : Bool), vs = [.ref kp, .ref l, .int first, .int last] ∧ Kd C H kp wd s ∧ H l = some (.tup [.int a, .int b]) ∧ SD a ∧ SD b ∧ SD first ∧ SD last ∧ ∀ H', Same H H' → Q (.int (tot (dsP wd s a b) first last)) H'
theorem ok_descents {P : Program} {w : World} {K : PySem.W.Frag} {mg : Str → Option Value} {base : Heap} (T : Txt K mg) : FnOk P w K mg base CX0 6 T.f_descents T.fd_descents ["kind", "line", "first", "last"] (sp_descents K T.C_Kind T.C_Walk []) := by
  have G__check := ok__check (P := P) (w := w) (base := base) T
  have G__falling := ok__falling (P := P) (w := w) (base := base) T
  have G__total := ok__total (P := P) (w := w) (base := base) T
  refine T.F_descents.ok sc_descents (fun vs H Q E h => ?_) (fun cdv A outer s H vs Q E hr h => ?_)
  · obtain ⟨kp, l, first, last, a, b, wd, s, rfl, _⟩ := h
    rfl
  · obtain ⟨kp, l, first, last, a, b, wd, s, rfl, h⟩ := h
    have hr__check : Room 5 _ := hr.mono (by decide)
    have hr__falling : Room 4 _ := hr.mono (by decide)
    have hr__total : Room 3 _ := hr.mono (by decide)
    refine ⟨_, (pss_cons (ps_expr (pe_call G__check hr__check rfl T.g__check T.k__check T.b__check .nil pass0 (pa_cons (pv 0 (hv := Or.inl rfl)) (pa_cons (pv 1 (hv := Or.inl rfl)) (pa_cons (pv 2 (hv := Or.inl rfl)) (pa_cons (pv 3 (hv := Or.inl rfl)) pa_nil))))))
      (pss_cons (ps_asg (pe_call G__falling hr__falling rfl T.g__falling T.k__falling T.b__falling .nil pass0 (pa_cons (pv 0 (hv := Or.inl rfl)) (pa_cons (pv 1 (hv := Or.inl rfl)) pa_nil))) (pg_tup rfl (pgs_cons (pg_name (i := 4) sc_descents.nd rfl (Or.inl rfl)) (pgs_cons (pg_name (i := 5) sc_descents.nd rfl (Or.inl rfl)) pgs_nil))))
      (pss_one (ps_ret (pe_call G__total hr__total rfl T.g__total T.k__total T.b__total .nil pass0 (pa_cons (pv 0 (hv := Or.inl rfl)) (pa_cons (pv 1 (hv := Or.inl rfl)) (pa_cons (pv 2 (hv := Or.inl rfl)) (pa_cons (pv 3 (hv := Or.inl rfl)) (pa_cons (pv 4 (hv := Or.inl rfl)) (pa_cons (pv 5 (hv := Or.inl rfl)) pa_nil))))))))))), ?_⟩
    try dsimp only [cxOf, Cx.nox, Cx.wish, Cx.blk]
    rw [show L2.start ["kind", "line", "first", "last", "low", "high"] [.ref kp, .ref l, .int first, .int last] = [some (.ref kp), some (.ref l), some (.int first), some (.int last), none, none] from rfl]
    obtain ⟨hk, hl, sa, sb, sf, sl, k⟩ := h
    
    have h2 := hk.w2
    have hp := p2 wd
    have a0 := Int.emod_nonneg a (Int.ne_of_gt hp)
    have a1 := Int.emod_lt_of_pos a hp
    obtain ⟨z1, z2, z3, z4, z5⟩ := loK_b (s := s) h2
    have z6 := p128
    have z7 := p290
    walk_at "rd"
    refine ⟨kp, l, first, last, rfl, ⟨wd, s, hk⟩, ⟨a, b, hl, sa, sb, sf, sl⟩, ?_⟩
    walk_at "rd"
    refine ⟨kp, l, a, b, wd, s, rfl, hk, hl, sa.bb, fun t0 ht0 => ?_⟩
    have s0 : Same H (L2.upd H t0 (.tup [.int (hiK wd s + 1 - a % 2 ^ wd), .int (hiK wd s)])) := fun q u e => gn e ht0
    have ht0' : (L2.upd H t0 (.tup [.int (hiK wd s + 1 - a % 2 ^ wd), .int (hiK wd s)])) t0 = some (.tup [.int (hiK wd s + 1 - a % 2 ^ wd), .int (hiK wd s)]) := upd_same
    generalize L2.upd H t0 _ = H0 at s0 ht0' ⊢
    walk_at "rd"
    refine ⟨kp, l, first, last, hiK wd s + 1 - a % 2 ^ wd, hiK wd s, a, b, wd, s, rfl, hk.same s0, s0 _ _ hl, sa.bb, sb.bb, sf.bb, sl.bb, bb_of (by omega) (by omega), bb_of (by omega) (by omega), fun _ => by omega, fun H1 s1 => ?_⟩
    rw [tot_congr (q := dsP wd s a b) fun x _ _ => dsP_rs wd s a b x]
    exact k _ (s0.trans s1)
def sp__law_deck (K : PySem.W.Frag) (C : Addr) (C_Walk : Addr) (TS : List (Addr × Str)) : Sp := fun vs H Q _ => ∃ (c : Int), vs = [.int c] ∧ ∀ p H', H p = none → Same H H' → SrcN 3 H' p → Q (.ref p) H'
theorem ok__law_deck {P : Program} {w : World} {K : PySem.W.Frag} {mg : Str → Option Value} {base : Heap} (T : Txt K mg) : FnOk P w K mg base CX0 1 T.f__law_deck T.fd__law_deck ["_law_cell"] (sp__law_deck K T.C_Kind T.C_Walk []) := by
  refine T.F__law_deck.ok sc__law_deck (fun vs H Q E h => ?_) (fun cdv A outer s H vs Q E hr h => ?_)
  · obtain ⟨c, rfl, _⟩ := h
    rfl
  · obtain ⟨c, rfl, h⟩ := h
    refine ⟨_, (pss_one (ps_ret (pe_lst (pa_cons (pe_op op_mul (pv 0 (hv := Or.inl rfl)) (pe_callTy (T := "int") (r := rIntC) call_int1 (by rfl) T.n_int (by decide +kernel) (pa_cons (pe_cmpR op_ge (pv 0 (hv := Or.inl rfl)) (pe_op op_pow pe_int pe_int) (nomark _)) pa_nil))) (pa_cons (pe_op op_mod (pe_callTy (T := "int") (r := rIntC) call_int1 (by rfl) T.n_int (by decide +kernel) (pa_cons (pv 0 (hv := Or.inl rfl)) pa_nil)) pe_int) (pa_cons pe_int pa_nil)))))), ?_⟩
    try dsimp only [cxOf, Cx.nox, Cx.wish, Cx.blk]
    rw [show L2.start ["_law_cell"] [.int c] = [some (.int c)] from rfl]
    walk_at "rd"
    refine w_I (Or.inr ⟨by split <;> decide, by split <;> decide⟩) ?_
    walk_at "rd"
    refine ⟨by show 3 ≤ sizeLine; decide, fun p hp => ?_⟩
    have h1 := Int.emod_nonneg c (show (2147483587 : Int) ≠ 0 by decide)
    have h2 := Int.emod_lt_of_pos c (show (0 : Int) < 2147483587 by decide)
    exact h p _ hp (sm_new (Same.refl H) hp) ⟨_, _, _, upd_same, h1, by omega, by decide, by decide⟩
def sp__law_deal (K : PySem.W.Frag) (C : Addr) (C_Walk : Addr) (TS : List (Addr × Str)) : Sp := fun vs H Q _ => ∃ (p : Addr) (m : Int) (n : Nat), vs = [.ref p, .int m] ∧ SrcN n H p ∧ n < 2 ^ 40 ∧ 0 < m ∧ m.natAbs < 2 ^ 8999 ∧ ∀ v H', 0 ≤ v → v < m → Kp p H H' → SrcN (n + 1) H' p → Q (.int v) H'
theorem ok__law_deal {P : Program} {w : World} {K : PySem.W.Frag} {mg : Str → Option Value} {base : Heap} (T : Txt K mg) : FnOk P w K mg base CX0 1 T.f__law_deal T.fd__law_deal ["_law_deck_here", "_law_many"] (sp__law_deal K T.C_Kind T.C_Walk []) := by
  refine T.F__law_deal.ok sc__law_deal (fun vs H Q E h => ?_) (fun cdv A outer s H vs Q E hr h => ?_)
  · obtain ⟨p, m, n, rfl, _⟩ := h
    rfl
  · obtain ⟨p, m, n, rfl, h⟩ := h
    refine ⟨_, (pss_cons (ps_if (pt_cmpR op_gt (pe_ix (r := rIxL K) ix_list (pv 0 (hv := Or.inl rfl)) pe_int (fun _ _ => rfl)) pe_int (nomark _)) (pss_cons (ps_set (i := 2) sc__law_deal.nd rfl (Or.inl rfl) (pe_op op_mod (pe_callTy (T := "int") (r := rIntC) call_int1 (by rfl) T.n_int (by decide +kernel) (pa_cons (pe_ix (r := rIxL K) ix_list (pv 0 (hv := Or.inl rfl)) pe_int (fun _ _ => rfl)) pa_nil)) (pv 1 (hv := Or.inl rfl))))
      (pss_cons (ps_asg (pe_op op_fdivW (pe_ix (r := rIxL K) ix_list (pv 0 (hv := Or.inl rfl)) pe_int (fun _ _ => rfl)) (pv 1 (hv := Or.inl rfl))) (pg_sub (pv 0 (hv := Or.inl rfl)) pe_int set_list))
      (pss_one (ps_ret (pv 2 (hv := Or.inl rfl)))))) pss_nil)
      (pss_cons (ps_asg (pe_op op_add (pe_ix (r := rIxL K) ix_list (pv 0 (hv := Or.inl rfl)) pe_int (fun _ _ => rfl)) pe_int) (pg_sub (pv 0 (hv := Or.inl rfl)) pe_int set_list))
      (pss_cons (ps_set (i := 3) sc__law_deal.nd rfl (Or.inl rfl) (pe_op op_mod (pe_callTy (T := "int") (r := rIntC) call_int1 (by rfl) T.n_int (by decide +kernel) (pa_cons (pe_op op_pow (pe_op op_add (pe_op op_add (pe_ix (r := rIxL K) ix_list (pv 0 (hv := Or.inl rfl)) pe_int (fun _ _ => rfl)) (pe_op op_mul pe_int (pe_ix (r := rIxL K) ix_list (pv 0 (hv := Or.inl rfl)) pe_int (fun _ _ => rfl)))) pe_int) pe_int) pa_nil)) pe_int))
      (pss_cons (ps_set (i := 3) sc__law_deal.nd rfl (Or.inl rfl) (pe_op op_mod (pe_callTy (T := "int") (r := rIntC) call_int1 (by rfl) T.n_int (by decide +kernel) (pa_cons (pe_op op_mul (pe_op op_add (pv 3 (hv := Or.inl rfl)) (pe_op op_mul pe_int (pe_ix (r := rIxL K) ix_list (pv 0 (hv := Or.inl rfl)) pe_int (fun _ _ => rfl)))) (pe_op op_add (pe_op op_fdiv (pv 3 (hv := Or.inl rfl)) pe_int) pe_int)) pa_nil)) pe_int))
      (pss_one (ps_ret (pe_op op_mod (pe_callTy (T := "int") (r := rIntC) call_int1 (by rfl) T.n_int (by decide +kernel) (pa_cons (pe_op op_fdiv (pe_op op_mod (pe_callTy (T := "int") (r := rIntC) call_int1 (by rfl) T.n_int (by decide +kernel) (pa_cons (pe_op op_mul (pv 3 (hv := Or.inl rfl)) (pe_op op_add (pe_op op_fdiv (pv 3 (hv := Or.inl rfl)) pe_int) pe_int)) pa_nil)) pe_int) pe_int) pa_nil)) (pv 1 (hv := Or.inl rfl))))))))), ?_⟩
    try dsimp only [cxOf, Cx.nox, Cx.wish, Cx.blk]
    rw [show L2.start ["_law_deck_here", "_law_many", "_law_card", "_law_mixed"] [.ref p, .int m] = [some (.ref p), some (.int m), none, none] from rfl]
    obtain ⟨⟨a, b, c, hp, b0, b1, c0, c1⟩, n40, h0, hb, k⟩ := h
    have fin : ∀ (x : Int) (H' : Hp), Kp p H H' → SrcN (n + 1) H' p → Q (.int (x % m)) H' := fun x H' a b => k _ _ (Int.emod_nonneg x (Int.ne_of_gt h0)) (Int.emod_lt_of_pos x h0) a b
    clear k
    walk_at "rd"
    refine w_dec (fun _ => ?_) (fun _ => ?_)
    · walk_at "rd"
      refine w_I h0 ?_
      walk_at "rd"
      refine w_I (wide_div h0 hb (by decide) (by decide)) ?_
      walk_at "rd"
      exact fin _ _ (Kp.refl p H).upd ⟨_, _, _, upd_same, b0, b1, c0, by omega⟩
    · have n40' : n < 1099511627776 := n40
      walk_at "rd"
      have hp1 : ∀ x : Int, 0 ≤ x % 2147483629 ∧ x % 2147483629 < 2147483629 := fun x => ⟨Int.emod_nonneg x (by decide), Int.emod_lt_of_pos x (by decide)⟩
      have hp2 : ∀ x : Int, 0 ≤ x % 2147483579 ∧ x % 2147483579 < 2147483579 := fun x => ⟨Int.emod_nonneg x (by decide), Int.emod_lt_of_pos x (by decide)⟩
      refine w_I (CC := CPow) ⟨by decide, by decide, by omega⟩ ?_
      walk_at "rd"
      refine w_I (CC := CMul) (Or.inr ⟨?_, ?_⟩) ?_
      · have := hp1 ((b + 70003 * (c + 1) + 5) ^ (3 : Int).toNat); omega
      · have := hp1 ((b + 70003 * (c + 1) + 5) ^ (3 : Int).toNat); omega
      walk_at "rd"
      refine w_I (CC := CMul) (Or.inl ⟨Int.lt_of_lt_of_le (by decide) (hp2 _).1, Int.lt_trans (hp2 _).2 (by decide)⟩) ?_
      walk_at "rd"
      refine w_I h0 ?_
      walk_at "rd"
      exact fin _ _ (Kp.refl p H).upd ⟨_, _, _, upd_same, b0, b1, by omega, by omega⟩
def sp__law_choice (K : PySem.W.Frag) (C : Addr) (C_Walk : Addr) (TS : List (Addr × Str)) : Sp := fun vs H Q _ => ∃ (p l : Addr) (n : Nat) (xs : List V), vs = [.ref p, .ref l] ∧ SrcN n H p ∧ n < 2 ^ 40 ∧ H l = some (.lst xs) ∧ l ≠ p ∧ 0 < xs.length ∧ xs.length ≤ 1000 ∧ ∀ v H', v ∈ xs → Kp p H H' → SrcN (n + 1) H' p → Q v H'
theorem ok__law_choice {P : Program} {w : World} {K : PySem.W.Frag} {mg : Str → Option Value} {base : Heap} (T : Txt K mg) : FnOk P w K mg base CX0 2 T.f__law_choice T.fd__law_choice ["_law_deck_here", "_law_some"] (sp__law_choice K T.C_Kind T.C_Walk []) := by
  have G__law_deal := ok__law_deal (P := P) (w := w) (base := base) T
  refine T.F__law_choice.ok sc__law_choice (fun vs H Q E h => ?_) (fun cdv A outer s H vs Q E hr h => ?_)
  · obtain ⟨p, l, n, xs, rfl, _⟩ := h
    rfl
  · obtain ⟨p, l, n, xs, rfl, h⟩ := h
    have hr__law_deal : Room 1 _ := hr.mono (by decide)
    refine ⟨_, (pss_one (ps_ret (pe_ix (r := rIxL K) ix_list (pv 1 (hv := Or.inl rfl)) (pe_call G__law_deal hr__law_deal rfl T.g__law_deal T.k__law_deal T.b__law_deal .nil pass0 (pa_cons (pv 0 (hv := Or.inl rfl)) (pa_cons (pe_callB (id := "len") (r := rLenS K) call_len_seq (by rfl) T.n_len (by decide +kernel) (pa_cons (pv 1 (hv := Or.inl rfl)) pa_nil)) pa_nil))) (fun _ _ => rfl)))), ?_⟩
    try dsimp only [cxOf, Cx.nox, Cx.wish, Cx.blk]
    rw [show L2.start ["_law_deck_here", "_law_some"] [.ref p, .ref l] = [some (.ref p), some (.ref l)] from rfl]
    obtain ⟨hs, n40, hl, hn, n0, n1, k⟩ := h
    walk_at "rd"
    refine w_len hl ?_
    walk_at "rd"
    refine ⟨p, _, n, rfl, hs, n40, by omega, Nat.lt_trans (show ((xs.length : Nat) : Int).natAbs < 2 ^ 10 by omega) (Nat.pow_lt_pow_right (by decide) (by decide)), fun v H' h1 h2 kp hs' => ?_⟩
    obtain ⟨j, rfl⟩ := Int.eq_ofNat_of_zero_le h1
    have hj : j < xs.length := by omega
    refine w_ixL (kp _ _ hn hl) (atI_nat (v := xs[j]) (List.getElem?_eq_getElem hj)) ?_
    exact k _ _ (List.getElem_mem hj) kp hs'
def sp__law_great (K : PySem.W.Frag) (C : Addr) (C_Walk : Addr) (TS : List (Addr × Str)) : Sp := fun vs H Q _ => ∃ (p : Addr) (m : Int) (n : Nat), vs = [.ref p, .int m] ∧ SrcN n H p ∧ n + 100 < 2 ^ 40 ∧ 0 < m ∧ m.natAbs < 2 ^ 2800 ∧ ∀ v H', 0 ≤ v → v < m → Kp p H H' → SrcN (n + 100) H' p → Q (.int v) H'
theorem ok__law_great {P : Program} {w : World} {K : PySem.W.Frag} {mg : Str → Option Value} {base : Heap} (T : Txt K mg) : FnOk P w K mg base CX0 2 T.f__law_great T.fd__law_great ["_law_deck_here", "_law_most"] (sp__law_great K T.C_Kind T.C_Walk []) := by
  have G__law_deal := ok__law_deal (P := P) (w := w) (base := base) T
  refine T.F__law_great.ok sc__law_great (fun vs H Q E h => ?_) (fun cdv A outer s H vs Q E hr h => ?_)
  · obtain ⟨p, m, n, rfl, _⟩ := h
    rfl
  · obtain ⟨p, m, n, rfl, h⟩ := h
    have hr__law_deal : Room 1 _ := hr.mono (by decide)
    refine ⟨_, (pss_cons (ps_set (i := 2) sc__law_great.nd rfl (Or.inl rfl) pe_int)
      (pss_cons (ps_for PassesOwn.never rfl (pi_range1 (by rfl) T.n_range (pa_cons (pe_op op_add (pe_op op_fdiv (pe_bits (pv 1 (hv := Or.inl rfl))) pe_int) pe_int) pa_nil)) (pg_name (i := 3) sc__law_great.nd rfl (Or.inl rfl))
        (pss_one (ps_set (i := 2) sc__law_great.nd rfl (Or.inl rfl) (pe_op op_add (pe_op op_mul (pv 2 (hv := Or.inl rfl)) (pe_op op_pow pe_int pe_int)) (pe_call G__law_deal hr__law_deal rfl T.g__law_deal T.k__law_deal T.b__law_deal .nil pass0 (pa_cons (pv 0 (hv := Or.inl rfl)) (pa_cons (pe_op op_pow pe_int pe_int) pa_nil)))))))
      (pss_one (ps_ret (pe_op op_mod (pe_callTy (T := "int") (r := rIntC) call_int1 (by rfl) T.n_int (by decide +kernel) (pa_cons (pv 2 (hv := Or.inl rfl)) pa_nil)) (pv 1 (hv := Or.inl rfl))))))), ?_⟩
    try dsimp only [cxOf, Cx.nox, Cx.wish, Cx.blk]
    rw [show L2.start ["_law_deck_here", "_law_most", "_law_found", "_law_turn"] [.ref p, .int m] = [some (.ref p), some (.int m), none, none] from rfl]
    obtain ⟨hs, n40, h0, hb, k⟩ := h
    have bb := PyProof.Rows.intBits_le hb
    walk_at "rd"
    refine ⟨_, rfl, by omega, by omega, for_range (lo := 0) (n := ((Builtin.Int.intBits m : Int) / 29 + 1).toNat) (fun i σ H' => ∃ (f : Int) (v : Option V), σ = [some (.ref p), some (.int m), some (.int f), v] ∧ Kp p H H' ∧ SrcN (n + i) H' p) ⟨0, none, rfl, Kp.refl p H, hs⟩ ?_ ?_⟩
    · rintro i σ H' hi ⟨f, v, rfl, kp, hs'⟩
      walk_at "rd"
      refine ⟨p, _, n + i, rfl, hs', by omega, by decide, Nat.lt_of_lt_of_le (show ((10 : Int) ^ (9 : Int).toNat).natAbs < 2 ^ 32 by decide) (Nat.pow_le_pow_right (by decide) (by decide)), fun v1 H1 _ _ kp1 hs1 => ?_⟩
      walk_at "rd"
      exact ⟨_, _, rfl, kp.trans kp1, hs1⟩
    · rintro σ H' ⟨f, v, rfl, kp, hs'⟩
      walk_at "rd"
      refine w_I h0 ?_
      walk_at "rd"
      exact k _ _ (Int.emod_nonneg _ (Int.ne_of_gt h0)) (Int.emod_lt_of_pos _ h0) kp (hs'.le (by omega))
def sp__law_inverse (K : PySem.W.Frag) (C : Addr) (C_Walk : Addr) (TS : List (Addr × Str)) : Sp := fun vs H Q _ => ∃ (o : Int) (wd : Nat), vs = [.int o, .int wd] ∧ o % 2 = 1 ∧ 0 ≤ o ∧ BB o ∧ wd ≤ 128 ∧ ∀ u : Int, (2 : Int) ^ wd ∣ o * u - 1 → 0 ≤ u → u ≤ 2 ^ wd → Q (.int u) H
theorem ok__law_inverse {P : Program} {w : World} {K : PySem.W.Frag} {mg : Str → Option Value} {base : Heap} (T : Txt K mg) : FnOk P w K mg base CX0 1 T.f__law_inverse T.fd__law_inverse ["_law_n", "_law_bits"] (sp__law_inverse K T.C_Kind T.C_Walk []) := by
  refine T.F__law_inverse.ok sc__law_inverse (fun vs H Q E h => ?_) (fun cdv A outer s H vs Q E hr h => ?_)
  · obtain ⟨o, wd, rfl, _⟩ := h
    rfl
  · obtain ⟨o, wd, rfl, h⟩ := h
    refine ⟨_, (pss_cons (ps_set (i := 2) sc__law_inverse.nd rfl (Or.inl rfl) pe_int)
      (pss_cons (ps_for PassesOwn.never rfl (pi_range1 (by rfl) T.n_range (pa_cons (pv 1 (hv := Or.inl rfl)) pa_nil)) (pg_name (i := 3) sc__law_inverse.nd rfl (Or.inl rfl))
        (pss_one (ps_if (pt_cmpR op_eq (pe_op op_mod (pe_callTy (T := "int") (r := rIntC) call_int1 (by rfl) T.n_int (by decide +kernel) (pa_cons (pe_op op_shr (pe_op op_sub (pe_op op_mulX (pv 0 (hv := Or.inl rfl)) (pv 2 (hv := Or.inl rfl))) pe_int) (pv 3 (hv := Or.inl rfl))) pa_nil)) pe_int) pe_int (nomark _)) (pss_one (ps_set (i := 2) sc__law_inverse.nd rfl (Or.inl rfl) (pe_op op_add (pv 2 (hv := Or.inl rfl)) (pe_op op_shl pe_int (pv 3 (hv := Or.inl rfl)))))) pss_nil)))
      (pss_one (ps_ret (pv 2 (hv := Or.inl rfl)))))), ?_⟩
    try dsimp only [cxOf, Cx.nox, Cx.wish, Cx.blk]
    rw [show L2.start ["_law_n", "_law_bits", "_law_found", "_law_k"] [.int o, .int wd] = [some (.int o), some (.int wd), none, none] from rfl]
    obtain ⟨o2, o0, bo, w2, k⟩ := h
    walk_at "rd"
    refine ⟨wd, rfl, by omega, by omega, for_range (lo := 0) (n := wd) (fun i σ H' => ∃ (u : Int) (v : Option V), σ = [some (.int o), some (.int wd), some (.int u), v] ∧ H' = H ∧ (2 : Int) ^ i ∣ o * u - 1 ∧ 0 ≤ u ∧ u ≤ 2 ^ i) ⟨1, none, rfl, rfl, by rw [Int.pow_zero]; exact Int.one_dvd _, by decide, by decide⟩ ?_ ?_⟩
    · rintro i σ H' hi ⟨u, v, rfl, rfl, d, u0, u1⟩
      have bu : BB u := by
        have := bb_pow (wd := i) (by omega)
        unfold BB at *
        have := p2 i
        omega
      walk_at "rd"
      have h2 : (2 : Int) ^ (i + 1) = 2 ^ i * 2 := Int.pow_succ 2 i
      refine w_I (mulx_ok bo bu (by decide)) ?_
      walk_at "rd"
      refine w_I (show (0 : Int) ≤ 0 + (i : Int) by omega) ?_
      rw [show ((0 : Int) + (i : Int)).toNat = i by omega]
      walk_at "rd"
      refine w_dec (fun c => ?_) (fun c => ?_)
      · walk_at "rd"
        refine w_I (show CPow 1 (0 + (i : Int)) by rw [Int.zero_add]; exact cpow (n := 1) (by omega) (by decide)) ?_
        rw [show ((0 : Int) + (i : Int)).toNat = i by omega, Int.one_mul]
        walk_at "rd"
        exact ⟨_, _, rfl, rfl, (inv_step o2 d).1 c, by have := p2 i; omega, by rw [h2]; omega⟩
      · walk_at "rd"
        exact ⟨u, _, rfl, rfl, (inv_step o2 d).2 c, u0, by have := p2 i; rw [h2]; omega⟩
    · rintro σ H' ⟨u, v, rfl, rfl, d, u0, u1⟩
      walk_at "rd"
      exact k _ d u0 u1
def sp__law_there (K : PySem.W.Frag) (C : Addr) (C_Walk : Addr) (TS : List (Addr × Str)) : Sp := fun vs H Q _ => ∃ (t : Addr) (wd tw : Nat) (o far bg : Int), vs = [.ref t, .int far, .int bg] ∧ H t = some (.tup [.int wd, .int tw, .int o]) ∧ wd ≤ 128 ∧ tw ≤ wd ∧ o % 2 = 1 ∧ 0 ≤ o ∧ BB o ∧ BB far ∧ BB bg ∧ (2 : Int) ^ tw ∣ far ∧ ∀ X : Int, bg ≤ X → X < bg + 2 ^ (wd - tw) → (∀ x, (2 : Int) ^ wd ∣ o * 2 ^ tw * x - far ↔ (2 : Int) ^ (wd - tw) ∣ x - X) → Q (.int X) H
theorem ok__law_there {P : Program} {w : World} {K : PySem.W.Frag} {mg : Str → Option Value} {base : Heap} (T : Txt K mg) : FnOk P w K mg base CX0 2 T.f__law_there T.fd__law_there ["_law_parts", "_law_far", "_law_begin"] (sp__law_there K T.C_Kind T.C_Walk []) := by
  have G__law_inverse := ok__law_inverse (P := P) (w := w) (base := base) T
  refine T.F__law_there.ok sc__law_there (fun vs H Q E h => ?_) (fun cdv A outer s H vs Q E hr h => ?_)
  · obtain ⟨t, wd, tw, o, far, bg, rfl, _⟩ := h
    rfl
  · obtain ⟨t, wd, tw, o, far, bg, rfl, h⟩ := h
    have hr__law_inverse : Room 1 _ := hr.mono (by decide)
    refine ⟨_, (pss_cons (ps_asg (pv 0 (hv := Or.inl rfl)) (pg_tup rfl (pgs_cons (pg_name (i := 3) sc__law_there.nd rfl (Or.inl rfl)) (pgs_cons (pg_name (i := 4) sc__law_there.nd rfl (Or.inl rfl)) (pgs_cons (pg_name (i := 5) sc__law_there.nd rfl (Or.inl rfl)) pgs_nil)))))
      (pss_cons (ps_set (i := 6) sc__law_there.nd rfl (Or.inl rfl) (pe_op op_mulX (pe_op op_shr (pv 1 (hv := Or.inl rfl)) (pv 4 (hv := Or.inl rfl))) (pe_call G__law_inverse hr__law_inverse rfl T.g__law_inverse T.k__law_inverse T.b__law_inverse .nil pass0 (pa_cons (pv 5 (hv := Or.inl rfl)) (pa_cons (pv 3 (hv := Or.inl rfl)) pa_nil)))))
      (pss_one (ps_ret (pe_op op_add (pe_op op_mod (pe_callTy (T := "int") (r := rIntC) call_int1 (by rfl) T.n_int (by decide +kernel) (pa_cons (pe_op op_sub (pv 6 (hv := Or.inl rfl)) (pv 2 (hv := Or.inl rfl))) pa_nil)) (pe_op op_shl pe_int (pe_op op_sub (pv 3 (hv := Or.inl rfl)) (pv 4 (hv := Or.inl rfl))))) (pv 2 (hv := Or.inl rfl))))))), ?_⟩
    try dsimp only [cxOf, Cx.nox, Cx.wish, Cx.blk]
    rw [show L2.start ["_law_parts", "_law_far", "_law_begin", "_law_bits", "_law_twos_so", "_law_odd", "_law_found"] [.ref t, .int far, .int bg] = [some (.ref t), some (.int far), some (.int bg), none, none, none, none] from rfl]
    obtain ⟨ht, w2, tw2, o2, o0, bo, bf, bb, df, k⟩ := h
    have hp := p2 (wd - tw)
    walk_at "rd"
    refine w_I (show (0 : Int) ≤ (tw : Int) by omega) ?_
    rw [Int.toNat_natCast]
    walk_at "rd"
    refine ⟨o, wd, rfl, o2, o0, bo, w2, fun u hu u0 u1 => ?_⟩
    have bu : BB u := by
      have := bb_pow w2
      unfold BB at *
      omega
    have bq : BB (far / 2 ^ tw) := Nat.lt_of_le_of_lt (div_abs (p2 tw)) bf
    have hsol := fun x => sol_iff (x := x) tw2 hu df
    generalize far / 2 ^ tw = q at bq hsol ⊢
    refine w_I (mulx_ok bq bu (by decide)) ?_
    walk_at "rd"
    rw [show (wd : Int) - (tw : Int) = ((wd - tw : Nat) : Int) by omega]
    refine w_I (cpow (n := 1) (by omega) (by decide)) ?_
    rw [Int.toNat_natCast, Int.one_mul]
    walk_at "rd"
    refine w_I hp ?_
    walk_at "rd"
    have r0 := Int.emod_nonneg (q * u - bg) (Int.ne_of_gt hp)
    have r1 := Int.emod_lt_of_pos (q * u - bg) hp
    have r2 := Int.emod_add_mul_ediv (q * u - bg) (2 ^ (wd - tw))
    refine k _ (by omega) (by omega) fun x => (hsol x).trans ?_
    generalize (q * u - bg) / 2 ^ (wd - tw) = z at r2
    generalize (q * u - bg) % 2 ^ (wd - tw) = r at *
    constructor
    · rintro ⟨m, hm⟩
      exact ⟨m + z, by rw [Int.mul_add]; omega⟩
    · rintro ⟨m, hm⟩
      exact ⟨m - z, by rw [Int.mul_sub]; omega⟩
def sp__law_drawn (K : PySem.W.Frag) (C : Addr) (C_Walk : Addr) (TS : List (Addr × Str)) : Sp := fun vs H Q _ => ∃ (p : Addr) (m : Nat), vs = [.ref p] ∧ SrcN m H p ∧ m < 2 ^ 38 ∧ ∀ (t kx lt lp le : Addr) (wd tw : Nat) (s : Bool) (o a b bg : Int) (n : Nat) H', D10 C H' t kx lt lp le wd tw s o a b bg n → Kq TS p H H' → SrcN (m + 1000) H' p → Q (.ref t) H'
theorem ok__law_drawn {P : Program} {w : World} {K : PySem.W.Frag} {mg : Str → Option Value} {base : Heap} (T : Txt K mg) : FnOk P w K mg base CX0 4 T.f__law_drawn T.fd__law_drawn ["_law_deck_here"] (sp__law_drawn K T.C_Kind T.C_Walk []) := by
  have G_Kind___init__ := ok_Kind___init__ (P := P) (w := w) (base := base) T
  have G__law_choice := ok__law_choice (P := P) (w := w) (base := base) T
  have G__law_deal := ok__law_deal (P := P) (w := w) (base := base) T
  have G__law_great := ok__law_great (P := P) (w := w) (base := base) T
  refine T.F__law_drawn.ok sc__law_drawn (fun vs H Q E h => ?_) (fun cdv A outer s H vs Q E hr h => ?_)
  · obtain ⟨p, m, rfl, _⟩ := h
    rfl
  · obtain ⟨p, m, rfl, h⟩ := h
    have hr_Kind___init__ : Room 3 _ := hr.mono (by decide)
    have hr__law_choice : Room 2 _ := hr.mono (by decide)
    have hr__law_deal : Room 1 _ := hr.mono (by decide)
    have hr__law_great : Room 2 _ := hr.mono (by decide)
    refine ⟨_, (pss_cons (ps_par rfl sc__law_drawn.nd (i := 1) (j := 2) rfl rfl (by decide) rfl rfl (pa_cons (pe_op op_add pe_int (pe_call G__law_deal hr__law_deal rfl T.g__law_deal T.k__law_deal T.b__law_deal .nil pass0 (pa_cons (pv 0 (hv := Or.inl rfl)) (pa_cons (pe_call G__law_choice hr__law_choice rfl T.g__law_choice T.k__law_choice T.b__law_choice .nil pass0 (pa_cons (pv 0 (hv := Or.inl rfl)) (pa_cons (pe_lst (pa_cons pe_int (pa_cons pe_int pa_nil))) pa_nil))) pa_nil)))) (pa_cons (pe_cmpR op_eq (pe_call G__law_deal hr__law_deal rfl T.g__law_deal T.k__law_deal T.b__law_deal .nil pass0 (pa_cons (pv 0 (hv := Or.inl rfl)) (pa_cons pe_int pa_nil))) pe_int (nomark _)) pa_nil)) (by rfl))
      (pss_cons (ps_set (i := 3) sc__law_drawn.nd rfl (Or.inl rfl) (pe_op op_shl pe_int (pv 1 (hv := Or.inl rfl))))
      (pss_cons (ps_par rfl sc__law_drawn.nd (i := 4) (j := 5) rfl rfl (by decide) rfl rfl (pa_cons (pe_make T.mk_Kind G_Kind___init__ hr_Kind___init__ rfl T.g_Kind T.b_Kind___init__ .nil pass0 (pa_cons (pv 1 (hv := Or.inl rfl)) (pa_cons (pv 2 (hv := Or.inl rfl)) pa_nil))) (pa_cons (pe_op op_sub pe_int (pe_op op_mul (pe_op op_fdiv (pv 3 (hv := Or.inl rfl)) pe_int) (pe_callTy (T := "int") (r := rIntC) call_int1 (by rfl) T.n_int (by decide +kernel) (pa_cons (pv 2 (hv := Or.inl rfl)) pa_nil)))) pa_nil)) (by rfl))
      (pss_cons (ps_set (i := 6) sc__law_drawn.nd rfl (Or.inl rfl) (pe_callB (id := "min") (r := rmin2C) (call_min2 rfl) (by rfl) T.n_min (by decide +kernel) (pa_cons (pv 1 (hv := Or.inl rfl)) (pa_cons (pe_call G__law_choice hr__law_choice rfl T.g__law_choice T.k__law_choice T.b__law_choice .nil pass0 (pa_cons (pv 0 (hv := Or.inl rfl)) (pa_cons (pe_lst (pa_cons pe_int (pa_cons pe_int (pa_cons pe_int (pa_cons (pe_call G__law_deal hr__law_deal rfl T.g__law_deal T.k__law_deal T.b__law_deal .nil pass0 (pa_cons (pv 0 (hv := Or.inl rfl)) (pa_cons (pe_op op_add (pv 1 (hv := Or.inl rfl)) pe_int) pa_nil))) pa_nil))))) pa_nil))) pa_nil))))
      (pss_cons (ps_set (i := 7) sc__law_drawn.nd rfl (Or.inl rfl) (pe_op op_add (pe_op op_mul pe_int (pe_call G__law_great hr__law_great rfl T.g__law_great T.k__law_great T.b__law_great .nil pass0 (pa_cons (pv 0 (hv := Or.inl rfl)) (pa_cons (pv 3 (hv := Or.inl rfl)) pa_nil)))) pe_int))
      (pss_cons (ps_set (i := 8) sc__law_drawn.nd rfl (Or.inl rfl) (pe_tup (pa_cons (pe_op op_sub (pe_op op_mod (pe_callTy (T := "int") (r := rIntC) call_int1 (by rfl) T.n_int (by decide +kernel) (pa_cons (pe_op op_shlW (pv 7 (hv := Or.inl rfl)) (pv 6 (hv := Or.inl rfl))) pa_nil)) (pv 3 (hv := Or.inl rfl))) (pe_call G__law_choice hr__law_choice rfl T.g__law_choice T.k__law_choice T.b__law_choice .nil pass0 (pa_cons (pv 0 (hv := Or.inl rfl)) (pa_cons (pe_lst (pa_cons pe_int (pa_cons (pv 3 (hv := Or.inl rfl)) pa_nil))) pa_nil)))) (pa_cons (pe_op op_sub (pe_call G__law_great hr__law_great rfl T.g__law_great T.k__law_great T.b__law_great .nil pass0 (pa_cons (pv 0 (hv := Or.inl rfl)) (pa_cons (pe_op op_mul pe_int (pv 3 (hv := Or.inl rfl))) pa_nil))) (pe_op op_mul pe_int (pv 3 (hv := Or.inl rfl)))) pa_nil))))
      (pss_cons (ps_set (i := 9) sc__law_drawn.nd rfl (Or.inl rfl) (pe_tup (pa_cons (pe_op op_sub (pe_call G__law_great hr__law_great rfl T.g__law_great T.k__law_great T.b__law_great .nil pass0 (pa_cons (pv 0 (hv := Or.inl rfl)) (pa_cons (pe_op op_mul pe_int (pv 3 (hv := Or.inl rfl))) pa_nil))) (pe_op op_mul pe_int (pv 3 (hv := Or.inl rfl)))) (pa_cons (pe_op op_add pe_int (pe_call G__law_choice hr__law_choice rfl T.g__law_choice T.k__law_choice T.b__law_choice .nil pass0 (pa_cons (pv 0 (hv := Or.inl rfl)) (pa_cons (pe_lst (pa_cons pe_int (pa_cons pe_int (pa_cons (pe_call G__law_deal hr__law_deal rfl T.g__law_deal T.k__law_deal T.b__law_deal .nil pass0 (pa_cons (pv 0 (hv := Or.inl rfl)) (pa_cons pe_int pa_nil))) pa_nil)))) pa_nil)))) pa_nil))))
      (pss_one (ps_ret (pe_tup (pa_cons (pv 4 (hv := Or.inl rfl)) (pa_cons (pv 5 (hv := Or.inl rfl)) (pa_cons (pe_tup (pa_cons (pv 1 (hv := Or.inl rfl)) (pa_cons (pv 6 (hv := Or.inl rfl)) (pa_cons (pv 7 (hv := Or.inl rfl)) pa_nil)))) (pa_cons (pv 8 (hv := Or.inl rfl)) (pa_cons (pv 9 (hv := Or.inl rfl)) pa_nil))))))))))))))), ?_⟩
    try dsimp only [cxOf, Cx.nox, Cx.wish, Cx.blk]
    rw [show L2.start ["_law_deck_here", "_law_bits", "_law_is_signed", "_law_size", "_law_own", "_law_least_one", "_law_twos_so", "_law_odd", "_law_pair", "_law_ends"] [.ref p] = [some (.ref p), none, none, none, none, none, none, none, none, none] from rfl]
    obtain ⟨hs, n38, k⟩ := h
    walk_at "rd"
    refine ⟨by show 2 ≤ sizeLine; decide, fun c1 hc1 => ?_⟩
    walk_at "rd"
    refine ⟨p, c1, _, _, rfl, hs.new hc1, by omega, upd_same, hs.ne hc1, by decide, by decide, fun v H1 hv kp1 hs1 => ?_⟩
    have s1 : Kq ([] : List (Addr × Str)) p H H1 := (Kq.refl H).new hc1 |>.trans (kp1.toQ (hs.new hc1).lst)
    obtain ⟨m1, rfl, m10, m11⟩ : ∃ m1 : Int, v = .int m1 ∧ 0 < m1 ∧ m1 ≤ 128 := by
      rcases List.mem_cons.mp hv with e | e
      · exact ⟨9, e, by decide, by decide⟩
      · exact ⟨128, List.mem_singleton.mp e, by decide, by decide⟩
    walk_at "rd"
    refine ⟨p, _, _, rfl, hs1, by omega, m10, b89 (bb_sm (by omega) (by omega)), fun v1 H2 v10 v11 kp2 hs2 => ?_⟩
    have s2 : Kq ([] : List (Addr × Str)) p H1 H2 := kp2.toQ hs1.lst
    walk_at "rd"
    refine ⟨p, _, _, rfl, hs2, by omega, by decide, b89 (bb_sm (by decide) (by decide)), fun v2 H3 v20 v21 kp3 hs3 => ?_⟩
    have s3 : Kq ([] : List (Addr × Str)) p H2 H3 := kp3.toQ hs2.lst
    obtain ⟨wd, hwd⟩ : ∃ wd : Nat, 1 + v1 = (wd : Int) := ⟨(1 + v1).toNat, by omega⟩
    have w1 : 1 ≤ wd := by omega
    have w2 : wd ≤ 128 := by omega
    obtain ⟨s, hsg⟩ : ∃ s : Bool, s = decide (v2 = 1) := ⟨_, rfl⟩
    walk_at "rd"
    rw [hwd, ← hsg]
    refine w_I (cpow (n := 1) (by omega) (by decide)) ?_
    rw [Int.toNat_natCast, Int.one_mul]
    walk_at "rd"
    intro kx dx nx ndx nex
    refine ⟨kx, wd, s, rfl, ⟨dx, upd_same⟩, by omega, w2, fun H4 hk kp4 => ⟨rfl, ?_⟩⟩
    have sm4 := mk_same nx ndx kp4
    have s4 : Kq ([] : List (Addr × Str)) p H3 H4 := .of (Sm.of sm4)
    have hs4 := hs3.same sm4
    have nkx := hs3.ne nx
    walk_at "rd"
    refine w_I (CC := CMul) (Or.inr ⟨by split <;> decide, by split <;> decide⟩) ?_
    walk_at "rd"
    rw [lo_val (by omega) s]
    walk_at "rd"
    refine ⟨p, _, _, rfl, hs4, by omega, by omega, b89 (bb_sm (by omega) (by omega)), fun v5 H5 v50 v51 kp5 hs5 => ?_⟩
    have s5 : Kq ([] : List (Addr × Str)) p H4 H5 := kp5.toQ hs4.lst
    walk_at "rd"
    refine ⟨by show 4 ≤ sizeLine; decide, fun c2 hc2 => ?_⟩
    walk_at "rd"
    refine ⟨p, c2, _, _, rfl, hs5.new hc2, by omega, upd_same, hs5.ne hc2, by simp, by simp, fun v H6 hv kp6 hs6 => ?_⟩
    have s6 : Kq ([] : List (Addr × Str)) p H5 H6 := (Kq.refl H5).new hc2 |>.trans (kp6.toQ (hs5.new hc2).lst)
    obtain ⟨t0, rfl⟩ : ∃ t0 : Nat, v = .int t0 := by
      rcases List.mem_cons.mp hv with e | e
      · exact ⟨0, e⟩
      · rcases List.mem_cons.mp e with e | e
        · exact ⟨0, e⟩
        · rcases List.mem_cons.mp e with e | e
          · exact ⟨1, e⟩
          · exact ⟨v5.toNat, by rw [List.mem_singleton.mp e, Int.toNat_of_nonneg v50]⟩
    walk_at "rd"
    refine w_min2 ?_
    obtain ⟨tw, htw⟩ : ∃ tw : Nat, min (wd : Int) (t0 : Int) = (tw : Int) := ⟨min wd t0, by omega⟩
    have tw2 : tw ≤ wd := by omega
    rw [htw]
    have hp := p2 wd
    have hm := bb_pow w2
    have q128 : (2 : Int) ^ wd ≤ 2 ^ 128 := by
      have := Nat.pow_le_pow_right (n := 2) (by decide) w2
      exact_mod_cast this
    have q299 : (2 : Int) ^ 128 * 10 ≤ 10 ^ 62 := by decide +kernel
    walk_at "rd"
    refine ⟨p, _, _, rfl, hs6, by omega, hp, b28 hm, fun v7 H7 v70 v71 kp7 hs7 => ?_⟩
    have s7 : Kq ([] : List (Addr × Str)) p H6 H7 := kp7.toQ hs6.lst
    obtain ⟨o, ho⟩ : ∃ o, o = 2 * v7 + 1 := ⟨_, rfl⟩
    have bo : BB o := bb_ten (by omega) (by omega)
    walk_at "rd"
    rw [← ho]
    refine w_I (shl_ok bo (by omega)) ?_
    rw [Int.toNat_natCast]
    walk_at "rd"
    refine w_I hp ?_
    walk_at "rd"
    refine ⟨by show 2 ≤ sizeLine; decide, fun c3 hc3 => ?_⟩
    walk_at "rd"
    refine ⟨p, c3, _, _, rfl, hs7.new hc3, by omega, upd_same, hs7.ne hc3, by simp, by simp, fun v H8 hv kp8 hs8 => ?_⟩
    have s8 : Kq ([] : List (Addr × Str)) p H7 H8 := (Kq.refl H7).new hc3 |>.trans (kp8.toQ (hs7.new hc3).lst)
    have am0 := Int.emod_nonneg (o * 2 ^ tw) (Int.ne_of_gt hp)
    have am1 := Int.emod_lt_of_pos (o * 2 ^ tw) hp
    have am2 := Int.emod_add_mul_ediv (o * 2 ^ tw) (2 ^ wd)
    obtain ⟨c, rfl, hc⟩ : ∃ c : Int, v = .int c ∧ (c = 0 ∨ c = 2 ^ wd) := by
      rcases List.mem_cons.mp hv with e | e
      · exact ⟨0, e, .inl rfl⟩
      · exact ⟨_, List.mem_singleton.mp e, .inr rfl⟩
    walk_at "rd"
    obtain ⟨a, ha⟩ : ∃ a, a = o * 2 ^ tw % 2 ^ wd - c := ⟨_, rfl⟩
    rw [← ha]
    have ao : (2 : Int) ^ wd ∣ a - o * 2 ^ tw := by
      rcases hc with rfl | rfl
      · exact ⟨-(o * 2 ^ tw / 2 ^ wd), by rw [Int.mul_neg]; omega⟩
      · exact ⟨-(o * 2 ^ tw / 2 ^ wd) - 1, by rw [Int.mul_sub, Int.mul_neg]; omega⟩
    walk_at "rd"
    refine ⟨p, _, _, rfl, hs8, by omega, by omega, b28 (bb_ten (by omega) (by omega)), fun v9 H9 v90 v91 kp9 hs9 => ?_⟩
    have s9 : Kq ([] : List (Addr × Str)) p H8 H9 := kp9.toQ hs8.lst
    walk_at "rd"
    refine ⟨by show 2 ≤ sizeLine; decide, fun lp hlp => ?_⟩
    obtain ⟨b, hb⟩ : ∃ b, b = v9 - 2 * 2 ^ wd := ⟨_, rfl⟩
    rw [← hb]
    have s10 : Kq ([] : List (Addr × Str)) p H9 (L2.upd H9 lp (.tup [.int a, .int b])) := (Kq.refl H9).new hlp
    have hs10 := hs9.new (o := .tup [.int a, .int b]) hlp
    have hlp' : (L2.upd H9 lp (.tup [.int a, .int b])) lp = some (.tup [.int a, .int b]) := upd_same
    have nlp := hs9.ne hlp
    generalize L2.upd H9 lp _ = H10 at s10 hs10 hlp' ⊢
    walk_at "rd"
    refine ⟨p, _, _, rfl, hs10, by omega, by omega, b28 (bb_ten (by omega) (by omega)), fun v11 H11 v110 v111 kp11 hs11 => ?_⟩
    have s11 : Kq ([] : List (Addr × Str)) p H10 H11 := kp11.toQ hs10.lst
    walk_at "rd"
    refine ⟨p, _, _, rfl, hs11, by omega, by decide, b89 (bb_sm (by decide) (by decide)), fun v12 H12 v120 v121 kp12 hs12 => ?_⟩
    have s12 : Kq ([] : List (Addr × Str)) p H11 H12 := kp12.toQ hs11.lst
    walk_at "rd"
    refine ⟨by show 3 ≤ sizeLine; decide, fun c4 hc4 => ?_⟩
    walk_at "rd"
    refine ⟨p, c4, _, _, rfl, hs12.new hc4, by omega, upd_same, hs12.ne hc4, by simp, by simp, fun v H13 hv kp13 hs13 => ?_⟩
    have s13 : Kq ([] : List (Addr × Str)) p H12 H13 := (Kq.refl H12).new hc4 |>.trans (kp13.toQ (hs12.new hc4).lst)
    obtain ⟨n, hn, n0, n1⟩ : ∃ n : Nat, v = .int ((n : Int) - 1) ∧ 1 ≤ n ∧ n ≤ 1000 := by
      rcases List.mem_cons.mp hv with e | e
      · exact ⟨1, e, by decide, by decide⟩
      · rcases List.mem_cons.mp e with e | e
        · exact ⟨2, e, by decide, by decide⟩
        · exact ⟨(v12 + 1).toNat, by rw [List.mem_singleton.mp e, Int.toNat_of_nonneg (by omega)]; congr 1; omega, by omega, by omega⟩
    subst hn
    walk_at "rd"
    rw [show 1 + ((n : Int) - 1) = (n : Int) by omega]
    refine ⟨by show 2 ≤ sizeLine; decide, fun le hle => ?_⟩
    obtain ⟨bg, hbg⟩ : ∃ bg, bg = v11 - 2 * 2 ^ wd := ⟨_, rfl⟩
    rw [← hbg]
    have s14 : Kq ([] : List (Addr × Str)) p H13 (L2.upd H13 le (.tup [.int bg, .int n])) := (Kq.refl H13).new hle
    have hs14 := hs13.new (o := .tup [.int bg, .int n]) hle
    have hle' : (L2.upd H13 le (.tup [.int bg, .int n])) le = some (.tup [.int bg, .int n]) := upd_same
    have nle := hs13.ne hle
    generalize L2.upd H13 le _ = H14 at s14 hs14 hle' ⊢
    walk_at "rd"
    refine ⟨by show 3 ≤ sizeLine; decide, fun lt hlt => ?_⟩
    have s15 : Kq ([] : List (Addr × Str)) p H14 (L2.upd H14 lt (.tup [.int wd, .int tw, .int o])) := (Kq.refl H14).new hlt
    have hs15 := hs14.new (o := .tup [.int wd, .int tw, .int o]) hlt
    have hlt' : (L2.upd H14 lt (.tup [.int wd, .int tw, .int o])) lt = some (.tup [.int wd, .int tw, .int o]) := upd_same
    have nlt := hs14.ne hlt
    generalize L2.upd H14 lt _ = H15 at s15 hs15 hlt' ⊢
    walk_at "rd"
    refine ⟨by show 5 ≤ sizeLine; decide, fun t ht => ?_⟩
    have s16 : Kq ([] : List (Addr × Str)) p H15 (L2.upd H15 t (.tup [.ref kx, .int (loK wd s), .ref lt, .ref lp, .ref le])) := (Kq.refl H15).new ht
    have hs16 := hs15.new (o := .tup [.ref kx, .int (loK wd s), .ref lt, .ref lp, .ref le]) ht
    have e1 : Kq ([] : List (Addr × Str)) p H H4 := (s1.trans s2).trans (s3.trans s4)
    have e4 : Kq ([] : List (Addr × Str)) p H4 H10 := ((s5.trans s6).trans (s7.trans s8)).trans (s9.trans s10)
    have e10 : Kq ([] : List (Addr × Str)) p H10 H14 := ((s11.trans s12).trans (s13.trans s14))
    have e14 := s15.trans s16
    have hk16 := hk.kq nkx (e4.trans (e10.trans e14))
    refine k t kx lt lp le wd tw s o a b bg n _ ⟨hk16, w1, upd_same, s16.at nlt hlt', (e10.trans e14).at nlp hlp', e14.at nle hle', tw2, by omega, by omega, by omega, ao, by omega, by omega, by omega, by omega, by omega, by omega, n0, n1⟩ ((e1.trans e4).trans (e10.trans e14)) (hs16.le (by omega))
def sp__law_right (K : PySem.W.Frag) (C : Addr) (C_Walk : Addr) (TS : List (Addr × Str)) : Sp := fun vs H Q _ => ∃ (p : Addr) (m : Nat), vs = [.ref p] ∧ SrcN m H p ∧ m < 2 ^ 38 ∧ LamX.Tabs TS H ∧ ∀ H', Kq TS p H H' → SrcN (m + 3000) H' p → Q (.bl true) H'
theorem ok__law_right {P : Program} {w : World} {K : PySem.W.Frag} {mg : Str → Option Value} {base : Heap} (T : Txt K mg) : FnOk P w K mg base CX0 8 T.f__law_right T.fd__law_right ["_law_deck_here"] (sp__law_right K T.C_Kind T.C_Walk []) := by
  have G__law_drawn := ok__law_drawn (P := P) (w := w) (base := base) T
  have G__law_great := ok__law_great (P := P) (w := w) (base := base) T
  have G__law_there := ok__law_there (P := P) (w := w) (base := base) T
  have G_descents := ok_descents (P := P) (w := w) (base := base) T
  have G_first_within := ok_first_within (P := P) (w := w) (base := base) T
  have G_greatest_result := ok_greatest_result (P := P) (w := w) (base := base) T
  have G_least_result := ok_least_result (P := P) (w := w) (base := base) T
  have G_total_within := ok_total_within (P := P) (w := w) (base := base) T
  have G_within_at := ok_within_at (P := P) (w := w) (base := base) T
  refine T.F__law_right.ok sc__law_right (fun vs H Q E h => ?_) (fun cdv A outer s H vs Q E hr h => ?_)
  · obtain ⟨p, m, rfl, _⟩ := h
    rfl
  · obtain ⟨p, m, rfl, h⟩ := h
    have hr__law_drawn : Room 4 _ := hr.mono (by decide)
    have hr__law_great : Room 2 _ := hr.mono (by decide)
    have hr__law_there : Room 2 _ := hr.mono (by decide)
    have hr_descents : Room 6 _ := hr.mono (by decide)
    have hr_first_within : Room 7 _ := hr.mono (by decide)
    have hr_greatest_result : Room 7 _ := hr.mono (by decide)
    have hr_least_result : Room 7 _ := hr.mono (by decide)
    have hr_total_within : Room 7 _ := hr.mono (by decide)
    have hr_within_at : Room 7 _ := hr.mono (by decide)
    refine ⟨_, (pss_cons (ps_asg (pe_call G__law_drawn hr__law_drawn rfl T.g__law_drawn T.k__law_drawn T.b__law_drawn .nil pass0 (pa_cons (pv 0 (hv := Or.inl rfl)) pa_nil)) (pg_tup rfl (pgs_cons (pg_name (i := 1) sc__law_right.nd rfl (Or.inl rfl)) (pgs_cons (pg_name (i := 2) sc__law_right.nd rfl (Or.inl rfl)) (pgs_cons (pg_name (i := 3) sc__law_right.nd rfl (Or.inl rfl)) (pgs_cons (pg_name (i := 4) sc__law_right.nd rfl (Or.inl rfl)) (pgs_cons (pg_name (i := 5) sc__law_right.nd rfl (Or.inl rfl)) pgs_nil)))))))
      (pss_cons (ps_par3 rfl sc__law_right.nd (i := 6) (j := 7) (l := 8) rfl rfl rfl (by decide) (by decide) (by decide) rfl rfl rfl (pa_cons (pe_op op_shl pe_int (pe_ix (r := rIxT K) ix_tup (pv 3 (hv := Or.inl rfl)) pe_int (fun _ _ => rfl))) (pa_cons (pe_op op_shl pe_int (pe_ix (r := rIxT K) ix_tup (pv 3 (hv := Or.inl rfl)) pe_int (fun _ _ => rfl))) (pa_cons (pe_ix (r := rIxT K) ix_tup (pv 4 (hv := Or.inl rfl)) pe_int (fun _ _ => rfl)) pa_nil))) (by rfl))
      (pss_cons (ps_asg (pv 5 (hv := Or.inl rfl)) (pg_tup rfl (pgs_cons (pg_name (i := 9) sc__law_right.nd rfl (Or.inl rfl)) (pgs_cons (pg_name (i := 10) sc__law_right.nd rfl (Or.inl rfl)) pgs_nil))))
      (pss_cons (ps_set (i := 11) sc__law_right.nd rfl (Or.inl rfl) (pe_op op_sub (pe_op op_add (pv 9 (hv := Or.inl rfl)) (pe_op op_mulX (pv 10 (hv := Or.inl rfl)) (pv 6 (hv := Or.inl rfl)))) pe_int))
      (pss_cons (ps_set (i := 12) sc__law_right.nd rfl (Or.inl rfl) (pe_op op_mod (pe_callTy (T := "int") (r := rIntC) call_int1 (by rfl) T.n_int (by decide +kernel) (pa_cons (pe_op op_sub (pv 8 (hv := Or.inl rfl)) (pv 2 (hv := Or.inl rfl))) pa_nil)) (pv 7 (hv := Or.inl rfl))))
      (pss_cons (ps_set (i := 13) sc__law_right.nd rfl (Or.inl rfl) (pe_call G__law_great hr__law_great rfl T.g__law_great T.k__law_great T.b__law_great .nil pass0 (pa_cons (pv 0 (hv := Or.inl rfl)) (pa_cons (pv 6 (hv := Or.inl rfl)) pa_nil))))
      (pss_cons (ps_set (i := 14) sc__law_right.nd rfl (Or.inl rfl) (pe_op op_add (pv 13 (hv := Or.inl rfl)) (pe_call G__law_great hr__law_great rfl T.g__law_great T.k__law_great T.b__law_great .nil pass0 (pa_cons (pv 0 (hv := Or.inl rfl)) (pa_cons (pe_op op_sub (pv 6 (hv := Or.inl rfl)) (pv 13 (hv := Or.inl rfl))) pa_nil)))))
      (pss_cons (ps_set (i := 15) sc__law_right.nd rfl (Or.inl rfl) (pe_op op_sub (pe_op op_fdivW (pe_op op_sub (pv 14 (hv := Or.inl rfl)) (pv 12 (hv := Or.inl rfl))) (pv 7 (hv := Or.inl rfl))) (pe_op op_fdivW (pe_op op_sub (pe_op op_sub (pv 13 (hv := Or.inl rfl)) (pv 12 (hv := Or.inl rfl))) pe_int) (pv 7 (hv := Or.inl rfl)))))
      (pss_cons (ps_if (pt_cmpR op_ne (pe_call G_total_within hr_total_within rfl T.g_total_within T.k_total_within T.b_total_within .nil pass0 (pa_cons (pv 1 (hv := Or.inl rfl)) (pa_cons (pv 4 (hv := Or.inl rfl)) (pa_cons (pv 9 (hv := Or.inl rfl)) (pa_cons (pv 11 (hv := Or.inl rfl)) (pa_cons (pe_op op_add (pv 2 (hv := Or.inl rfl)) (pv 13 (hv := Or.inl rfl))) (pa_cons (pe_op op_add (pv 2 (hv := Or.inl rfl)) (pv 14 (hv := Or.inl rfl))) pa_nil))))))) (pe_op op_mulX (pe_op op_mulX (pv 15 (hv := Or.inl rfl)) (pv 7 (hv := Or.inl rfl))) (pv 10 (hv := Or.inl rfl))) (nomark _)) (pss_one (ps_ret pe_bl)) pss_nil)
      (pss_cons (ps_if (pt_cmpR op_ne (pe_call G_descents hr_descents rfl T.g_descents T.k_descents T.b_descents .nil pass0 (pa_cons (pv 1 (hv := Or.inl rfl)) (pa_cons (pv 4 (hv := Or.inl rfl)) (pa_cons (pv 9 (hv := Or.inl rfl)) (pa_cons (pv 11 (hv := Or.inl rfl)) pa_nil))))) (pe_op op_mulX (pv 10 (hv := Or.inl rfl)) (pe_op op_mod (pe_callTy (T := "int") (r := rIntC) call_int1 (by rfl) T.n_int (by decide +kernel) (pa_cons (pe_ix (r := rIxT K) ix_tup (pv 4 (hv := Or.inl rfl)) pe_int (fun _ _ => rfl)) pa_nil)) (pv 6 (hv := Or.inl rfl)))) (nomark _)) (pss_one (ps_ret pe_bl)) pss_nil)
      (pss_cons (ps_set (i := 16) sc__law_right.nd rfl (Or.inl rfl) (pe_op op_add (pv 12 (hv := Or.inl rfl)) (pe_op op_mulX (pv 7 (hv := Or.inl rfl)) (pe_call G__law_great hr__law_great rfl T.g__law_great T.k__law_great T.b__law_great .nil pass0 (pa_cons (pv 0 (hv := Or.inl rfl)) (pa_cons (pe_op op_fdivW (pv 6 (hv := Or.inl rfl)) (pv 7 (hv := Or.inl rfl))) pa_nil))))))
      (pss_cons (ps_set (i := 17) sc__law_right.nd rfl (Or.inl rfl) (pe_op op_fdivW (pv 6 (hv := Or.inl rfl)) (pv 7 (hv := Or.inl rfl))))
      (pss_cons (ps_set (i := 18) sc__law_right.nd rfl (Or.inl rfl) (pe_call G__law_there hr__law_there rfl T.g__law_there T.k__law_there T.b__law_there .nil pass0 (pa_cons (pv 3 (hv := Or.inl rfl)) (pa_cons (pe_op op_sub (pe_op op_add (pv 2 (hv := Or.inl rfl)) (pv 16 (hv := Or.inl rfl))) (pv 8 (hv := Or.inl rfl))) (pa_cons (pv 9 (hv := Or.inl rfl)) pa_nil)))))
      (pss_cons (ps_set (i := 19) sc__law_right.nd rfl (Or.inl rfl) (pe_tup (pa_cons (pe_op op_add (pv 2 (hv := Or.inl rfl)) (pv 16 (hv := Or.inl rfl))) (pa_cons (pe_op op_add (pv 2 (hv := Or.inl rfl)) (pv 16 (hv := Or.inl rfl))) pa_nil))))
      (pss_cons (ps_if (pt_cmpR op_ne (pe_call G_first_within hr_first_within rfl T.g_first_within T.k_first_within T.b_first_within .nil pass0 (pa_cons (pv 1 (hv := Or.inl rfl)) (pa_cons (pv 4 (hv := Or.inl rfl)) (pa_cons (pv 9 (hv := Or.inl rfl)) (pa_cons (pv 11 (hv := Or.inl rfl)) (pa_cons (pe_ix (r := rIxT K) ix_tup (pv 19 (hv := Or.inl rfl)) pe_int (fun _ _ => rfl)) (pa_cons (pe_ix (r := rIxT K) ix_tup (pv 19 (hv := Or.inl rfl)) pe_int (fun _ _ => rfl)) pa_nil))))))) (pv 18 (hv := Or.inl rfl)) (nomark _)) (pss_one (ps_ret pe_bl)) pss_nil)
      (pss_cons (ps_set (i := 20) sc__law_right.nd rfl (Or.inl rfl) (pe_call G__law_great hr__law_great rfl T.g__law_great T.k__law_great T.b__law_great .nil pass0 (pa_cons (pv 0 (hv := Or.inl rfl)) (pa_cons (pe_op op_mulX (pv 7 (hv := Or.inl rfl)) (pv 10 (hv := Or.inl rfl))) pa_nil))))
      (pss_cons (ps_if (pt_cmpR op_ne (pe_call G_within_at hr_within_at rfl T.g_within_at T.k_within_at T.b_within_at .nil pass0 (pa_cons (pv 1 (hv := Or.inl rfl)) (pa_cons (pv 4 (hv := Or.inl rfl)) (pa_cons (pv 9 (hv := Or.inl rfl)) (pa_cons (pv 11 (hv := Or.inl rfl)) (pa_cons (pe_ix (r := rIxT K) ix_tup (pv 19 (hv := Or.inl rfl)) pe_int (fun _ _ => rfl)) (pa_cons (pe_ix (r := rIxT K) ix_tup (pv 19 (hv := Or.inl rfl)) pe_int (fun _ _ => rfl)) (pa_cons (pv 20 (hv := Or.inl rfl)) pa_nil)))))))) (pe_op op_add (pv 18 (hv := Or.inl rfl)) (pe_op op_mulX (pv 20 (hv := Or.inl rfl)) (pv 17 (hv := Or.inl rfl)))) (nomark _)) (pss_one (ps_ret pe_bl)) pss_nil)
      (pss_cons (ps_set (i := 21) sc__law_right.nd rfl (Or.inl rfl) (pe_call G__law_there hr__law_there rfl T.g__law_there T.k__law_there T.b__law_there .nil pass0 (pa_cons (pv 3 (hv := Or.inl rfl)) (pa_cons (pe_op op_sub (pe_op op_add (pv 2 (hv := Or.inl rfl)) (pv 12 (hv := Or.inl rfl))) (pv 8 (hv := Or.inl rfl))) (pa_cons (pv 9 (hv := Or.inl rfl)) pa_nil)))))
      (pss_cons (ps_if (pt_cmpR (op_neD hr.units) (pe_call G_least_result hr_least_result rfl T.g_least_result T.k_least_result T.b_least_result .nil pass0 (pa_cons (pv 1 (hv := Or.inl rfl)) (pa_cons (pv 4 (hv := Or.inl rfl)) (pa_cons (pv 9 (hv := Or.inl rfl)) (pa_cons (pv 11 (hv := Or.inl rfl)) pa_nil))))) (pe_tup (pa_cons (pe_op op_add (pv 2 (hv := Or.inl rfl)) (pv 12 (hv := Or.inl rfl))) (pa_cons (pv 21 (hv := Or.inl rfl)) pa_nil))) (nomark _)) (pss_one (ps_ret pe_bl)) pss_nil)
      (pss_cons (ps_set (i := 22) sc__law_right.nd rfl (Or.inl rfl) (pe_op op_add (pv 12 (hv := Or.inl rfl)) (pe_op op_mulX (pv 7 (hv := Or.inl rfl)) (pe_op op_sub (pv 17 (hv := Or.inl rfl)) pe_int))))
      (pss_cons (ps_set (i := 23) sc__law_right.nd rfl (Or.inl rfl) (pe_call G__law_there hr__law_there rfl T.g__law_there T.k__law_there T.b__law_there .nil pass0 (pa_cons (pv 3 (hv := Or.inl rfl)) (pa_cons (pe_op op_sub (pe_op op_add (pv 2 (hv := Or.inl rfl)) (pv 22 (hv := Or.inl rfl))) (pv 8 (hv := Or.inl rfl))) (pa_cons (pv 9 (hv := Or.inl rfl)) pa_nil)))))
      (pss_one (ps_ret (pe_cmpR (op_eqD hr.units) (pe_call G_greatest_result hr_greatest_result rfl T.g_greatest_result T.k_greatest_result T.b_greatest_result .nil pass0 (pa_cons (pv 1 (hv := Or.inl rfl)) (pa_cons (pv 4 (hv := Or.inl rfl)) (pa_cons (pv 9 (hv := Or.inl rfl)) (pa_cons (pv 11 (hv := Or.inl rfl)) pa_nil))))) (pe_tup (pa_cons (pe_op op_add (pv 2 (hv := Or.inl rfl)) (pv 22 (hv := Or.inl rfl))) (pa_cons (pv 23 (hv := Or.inl rfl)) pa_nil))) (nomark _))))))))))))))))))))))))), ?_⟩
    try dsimp only [cxOf, Cx.nox, Cx.wish, Cx.blk]
    rw [show L2.start ["_law_deck_here", "_law_own", "_law_least_one", "_law_parts", "_law_pair", "_law_ends", "_law_size", "_law_step", "_law_shift", "_law_begin", "_law_turns_so", "_law_end", "_law_near", "_law_bottom", "_law_top", "_law_kept", "_law_place", "_law_period", "_law_x", "_law_some", "_law_k", "_law_low_x", "_law_high", "_law_high_x"] [.ref p] = [some (.ref p), none, none, none, none, none, none, none, none, none, none, none, none, none, none, none, none, none, none, none, none, none, none, none] from rfl]
    obtain ⟨hs, n38, hT, k⟩ := h
    walk_at "rd"
    refine ⟨p, m, rfl, hs, n38, fun t kx lt lp le wd tw s o a b bg n H1 d s1 hs1 => ?_⟩
    have N := d.num
    have w2 := N.w2
    have tw2 := N.tw2
    have hp := p2 wd
    have hpt := p2 tw
    have hpp := p2 (wd - tw)
    have hm := bb_pow w2
    obtain ⟨⟨sa, sb, sf, sl⟩, -, -, bo3, bb3⟩ := N.sd
    obtain ⟨bT, bP, bN, bTN⟩ := N.bt
    obtain ⟨tn0, eP, -⟩ := N.ts
    have hk := d.hk
    have ht := d.ht
    have hl := d.hl
    have hp' := d.hp
    have he := d.he
    walk_at "rd"
    refine w_par3 ?_
    walk_at "rd"
    refine w_I (cpow (n := 1) (by omega) (by decide)) ?_
    rw [Int.toNat_natCast, Int.one_mul]
    walk_at "rd"
    refine w_I (cpow (n := 1) (by omega) (by decide)) ?_
    rw [Int.toNat_natCast, Int.one_mul]
    walk_at "rd"
    refine ⟨_, _, _, rfl, ?_⟩
    walk_at "rd"
    refine w_I (mulx_ok bN hm (by decide)) ?_
    walk_at "rd"
    refine w_I hpt ?_
    have hrng := hit_rng (s := s) (b := b) tw2 N.ao
    have htot := fun lo hi h0 h1 h2 => tot_turns (bg := bg) (s := s) (b := b) (lo := lo) (hi := hi) tw2 N.o2 N.ao h0 h1 h2 n
    have hds := ds_turns (wd := wd) (s := s) (a := a) (b := b) (bg := bg) n
    have hht := fun w h0 h1 => tot_hit (bg := bg) (s := s) (b := b) (w := w) tw2 N.o2 N.ao h0 h1 n
    have Nx := fun (x : Int) h1 => N.xe (x := x) h1
    have Nk := fun bo to h1 h2 h3 h4 => N.keep (bo := bo) (to := to) h1 h2 h3 h4
    have Np := fun g h1 h2 => N.place (g := g) h1 h2
    have Nl := N.low
    generalize bg + (n : Int) * 2 ^ wd - 1 = en at htot hds sl Nx hht ⊢
    generalize (b - loK wd s) % 2 ^ tw = nr at hrng htot Nk Np Nl ⊢
    walk_at "rd"
    refine ⟨p, _, _, rfl, hs1, by omega, hp, b28 hm, fun bo H2 bo0 bo1 kp2 hs2 => ?_⟩
    have s2 : Kq ([] : List (Addr × Str)) p H1 H2 := kp2.toQ hs1.lst
    walk_at "rd"
    refine ⟨p, _, _, rfl, hs2, by omega, by omega, b28 (by have := hm; unfold BB at this ⊢; omega), fun to H3 to0 to1 kp3 hs3 => ?_⟩
    have s3 : Kq ([] : List (Addr × Str)) p H2 H3 := kp3.toQ hs2.lst
    obtain ⟨⟨e1, e2, e3, e4, e5⟩, bK⟩ := Nk _ _ bo0 bo1 to0 to1
    have hT3 := htot _ _ e1 e2 e5
    clear Nk bo1 to0 to1
    walk_at "rd"
    generalize bo + to = tp at *
    refine w_I (wide_div hpt bT (by decide) (by decide)) ?_
    walk_at "rd"
    refine w_I (wide_div hpt bT (by decide) (by decide)) ?_
    walk_at "rd"
    have d3 := d.kq hs1 (s2.trans s3)
    clear hk ht hl hp' he
    have hk := d3.hk
    have ht := d3.ht
    have hl := d3.hl
    have hp' := d3.hp
    have he := d3.he
    try dsimp only [List.set]
    walk_at "rd"
    refine ⟨kx, lp, bg, en, loK wd s + bo, loK wd s + tp, a, b, wd, s, rfl, hk, hp', sa, sb, sf, sl, e1, e3, e4, e2, fun H4 s4 => ?_⟩
    rw [hT3, show loK wd s + tp - (loK wd s + nr) = tp - nr by omega, show loK wd s + bo - (loK wd s + nr) = bo - nr by omega]
    have hs4 := hs3.same s4
    have d4 := d3.sm (Sm.of (T := ([] : List (Addr × Str))) s4)
    clear hk ht hl hp' he
    have hk := d4.hk
    have ht := d4.ht
    have hl := d4.hl
    have hp' := d4.hp
    have he := d4.he
    try dsimp only [List.set]
    clear e1 e2 e3 e4 e5 hT3
    walk_at "rd"
    refine w_I (mulx_ok bK bT (by decide)) ?_
    walk_at "rd"
    refine w_I (mulx_ok (mul_bb bK bT) bN (by decide)) ?_
    walk_at "rd"
    refine w_ndecT (by rw [Int.mul_comm (2 ^ tw * (n : Int)), Int.mul_assoc]) ?_
    walk_at "rd"
    refine ⟨kx, lp, bg, en, a, b, wd, s, rfl, hk, hp', sa, sb, sf, sl, fun H5 s5 => ?_⟩
    rw [hds]
    have hs5 := hs4.same s5
    have d5 := d4.sm (Sm.of (T := ([] : List (Addr × Str))) s5)
    clear hk ht hl hp' he
    have hk := d5.hk
    have ht := d5.ht
    have hl := d5.hl
    have hp' := d5.hp
    have he := d5.he
    try dsimp only [List.set]
    walk_at "rd"
    refine w_I hp ?_
    walk_at "rd"
    refine w_I (mulx_ok bN (bb_lt (Int.emod_nonneg a (Int.ne_of_gt hp)) (Int.emod_lt_of_pos a hp) hm) (by decide)) ?_
    walk_at "rd"
    refine w_ndecT rfl ?_
    walk_at "rd"
    refine w_I (wide_div hpt bT (by decide) (by decide)) ?_
    rw [eP]
    walk_at "rd"
    refine ⟨p, _, _, rfl, hs5, by omega, hpp, b28 bP, fun gr H6 gr0 gr1 kp6 hs6 => ?_⟩
    have s6 : Kq ([] : List (Addr × Str)) p H5 H6 := kp6.toQ hs5.lst
    have d6 := d5.kq hs5 s6
    clear hk ht hl hp' he
    have hk := d6.hk
    have ht := d6.ht
    have hl := d6.hl
    have hp' := d6.hp
    have he := d6.he
    try dsimp only [List.set]
    obtain ⟨⟨y0, y1⟩, dg, bd, bgr⟩ := Np gr gr0 gr1
    walk_at "rd"
    refine w_I (mulx_ok bT bgr (by decide)) ?_
    walk_at "rd"
    refine w_I (wide_div hpt bT (by decide) (by decide)) ?_
    rw [eP]
    walk_at "rd"
    generalize nr + 2 ^ tw * gr = pc at y0 y1 dg bd ⊢
    refine ⟨lt, wd, tw, o, _, _, rfl, hl, w2, tw2, N.o2, N.o0, bo3, bd, sf.bb, dg, fun X x1 x2 hX => ?_⟩
    have sol := hit_sol N.ao y0 y1 hX
    walk_at "rd"
    refine ⟨by show 2 ≤ sizeLine; decide, fun ts hts => ?_⟩
    have s7 : Same H6 (L2.upd H6 ts (.tup [.int (loK wd s + pc), .int (loK wd s + pc)])) := fun q u e => gn e hts
    have hts' : (L2.upd H6 ts (.tup [.int (loK wd s + pc), .int (loK wd s + pc)])) ts = some (.tup [.int (loK wd s + pc), .int (loK wd s + pc)]) := upd_same
    generalize L2.upd H6 ts _ = H7 at s7 hts' ⊢
    have hs7 := hs6.same s7
    have d7 := d6.sm (Sm.of (T := ([] : List (Addr × Str))) s7)
    clear hk ht hl hp' he
    have hk := d7.hk
    have ht := d7.ht
    have hl := d7.hl
    have hp' := d7.hp
    have he := d7.he
    try dsimp only [List.set]
    walk_at "rd"
    refine ⟨kx, lp, bg, en, _, _, a, b, wd, s, rfl, hk, hp', sa, sb, sf, sl, y0, y1, y0, y1, (fun b hb => by cases hb), fun v H8 hv s8 => ?_⟩
    have hP : rsP wd a b (loK wd s + pc) (loK wd s + pc) = hitP wd s a b (loK wd s + pc) := funext fun x => rs_y y0 y1
    rw [hP] at hv
    obtain rfl := first_is hv x1 (Nx _ x2) sol.self (sol.before hpp x1 x2)
    have hs8 := hs7.sm s8
    have hts8 := s8.at hts'
    have d8 := d7.sm s8
    clear hts' hv
    clear hk ht hl hp' he
    have hk := d8.hk
    have ht := d8.ht
    have hl := d8.hl
    have hp' := d8.hp
    have he := d8.he
    try dsimp only [List.set]
    walk_at "rd"
    refine w_ndecT rfl ?_
    walk_at "rd"
    refine w_I (mulx_ok bT bN (by decide)) ?_
    walk_at "rd"
    refine ⟨p, _, _, rfl, hs8, by omega, tn0, b28 bTN, fun j H9 j0 j1 kp9 hs9 => ?_⟩
    have s9 : Kq ([] : List (Addr × Str)) p H8 H9 := kp9.toQ hs8.lst
    have hts9 := s9.at (hs8.ne_of hts8) hts8
    have d9 := d8.kq hs8 s9
    clear hts8
    clear hk ht hl hp' he
    have hk := d9.hk
    have ht := d9.ht
    have hl := d9.hl
    have hp' := d9.hp
    have he := d9.he
    try dsimp only [List.set]
    walk_at "rd"
    obtain ⟨j, rfl⟩ := Int.eq_ofNat_of_zero_le j0
    refine ⟨kx, lp, bg, en, _, _, _, a, b, wd, s, rfl, hk, hp', sa, sb, sf, sl, y0, y1, y0, y1, (fun b hb => by cases hb), j0, ?_, fun x H10 hx s10 => ?_⟩
    · rw [hP, hht _ y0 y1, if_pos (decide_eq_true (near_dvd.mpr dg))]
      exact j1
    obtain ⟨sj1, sj2⟩ := sol.at hpp x1 x2 j
    rw [hP] at hx
    have jp : 0 ≤ (j : Int) * 2 ^ (wd - tw) := Int.mul_nonneg j0 (Int.le_of_lt hpp)
    obtain rfl := at_unique hx.1 hx.2.2.1 hx.2.2.2 (show bg ≤ X + (j : Int) * 2 ^ (wd - tw) by omega) sj1 sj2
    have hs10 := hs9.sm s10
    have d10 := d9.sm s10
    clear hk ht hl hp' he
    have hk := d10.hk
    have ht := d10.ht
    have hl := d10.hl
    have hp' := d10.hp
    have he := d10.he
    try dsimp only [List.set]
    walk_at "rd"
    refine w_I (mulx_ok (bb_lt j0 j1 bTN) bP (by decide)) ?_
    walk_at "rd"
    refine w_ndecT rfl ?_
    clear sj1 sj2 hx jp sol hX x1 x2 hts9 hht htot
    walk_at "rd"
    obtain ⟨⟨l0, l1⟩, dn, bn⟩ := Nl
    refine ⟨lt, wd, tw, o, _, _, rfl, hl, w2, tw2, N.o2, N.o0, bo3, bn, sf.bb, dn, fun X x1 x2 hX => ?_⟩
    have sol := hit_sol (s := s) N.ao l0 l1 hX
    walk_at "rd"
    refine ⟨kx, lp, bg, en, a, b, wd, s, rfl, hk, hp', sa, sb, sf, sl, (fun b hb => by cases hb), fun v H11 hv s11 => ?_⟩
    rcases hv with ⟨c, _⟩ | ⟨t1, y, x, rfl, ht1, R⟩
    · have := Nx bg (by omega); omega
    obtain ⟨rfl, rfl⟩ := least_is R x1 (Nx _ x2) (of_decide_eq_true sol.self) (fun z u1 u2 e => by
      have := tot_zero_iff.mp (sol.before hpp x1 x2) z u1 (by omega)
      rw [show hitP wd s a b (loK wd s + nr) z = true from decide_eq_true e] at this
      cases this) (fun z _ _ => (hrng z).1)
    have hs11 := hs10.sm s11
    have d11 := d10.sm s11
    clear hk ht hl hp' he
    have hk := d11.hk
    have ht := d11.ht
    have hl := d11.hl
    have hp' := d11.hp
    have he := d11.he
    try dsimp only [List.set]
    walk_at "rd"
    refine ⟨by show 2 ≤ sizeLine; decide, fun t2 ht2 => ?_⟩
    refine ne_pair (gn ht1 ht2) upd_same ?_
    have s12 := (Sm.refl (T := ([] : List (Addr × Str))) H11).new (o := .tup [.int (loK wd s + nr), .int x]) ht2
    generalize L2.upd H11 t2 _ = H12 at s12 ⊢
    have hs12 := hs11.sm s12
    have d12 := d11.sm s12
    clear sol hX x1 x2 ht1 R
    clear hk ht hl hp' he
    have hk := d12.hk
    have ht := d12.ht
    have hl := d12.hl
    have hp' := d12.hp
    have he := d12.he
    try dsimp only [List.set]
    walk_at "rd"
    refine iteF ?_
    walk_at "rd"
    refine w_I (mulx_ok bT (bb_lt (show 0 ≤ (2 : Int) ^ (wd - tw) - 1 by omega) (show _ < (2 : Int) ^ (wd - tw) by omega) bP) (by decide)) ?_
    walk_at "rd"
    obtain ⟨⟨y0, y1⟩, dg, bd, bgr⟩ := Np (2 ^ (wd - tw) - 1) (by omega) (by omega)
    have hhi := fun z => (hrng z).2
    rw [Int.add_assoc] at hhi
    generalize nr + 2 ^ tw * (2 ^ (wd - tw) - 1) = pc at y0 y1 dg bd hhi ⊢
    refine ⟨lt, wd, tw, o, _, _, rfl, hl, w2, tw2, N.o2, N.o0, bo3, bd, sf.bb, dg, fun X x1 x2 hX => ?_⟩
    have sol := hit_sol N.ao y0 y1 hX
    walk_at "rd"
    refine ⟨kx, lp, bg, en, a, b, wd, s, rfl, hk, hp', sa, sb, sf, sl, (fun b hb => by cases hb), fun v H13 hv s13 => ?_⟩
    rcases hv with ⟨c, _⟩ | ⟨t1, y, x, rfl, ht1, R⟩
    · have := Nx bg (by omega); omega
    obtain ⟨rfl, rfl⟩ := great_is R x1 (Nx _ x2) (of_decide_eq_true sol.self) (fun z u1 u2 e => by
      have := tot_zero_iff.mp (sol.before hpp x1 x2) z u1 (by omega)
      rw [show hitP wd s a b (loK wd s + pc) z = true from decide_eq_true e] at this
      cases this) (fun z _ _ => hhi z)
    have hs13 := hs12.sm s13
    walk_at "rd"
    refine ⟨by show 2 ≤ sizeLine; decide, fun t3 ht3 => ?_⟩
    refine eq_pair (gn ht1 ht3) upd_same ?_
    have s14 := (Sm.refl (T := ([] : List (Addr × Str))) H13).new (o := .tup [.int (loK wd s + pc), .int x]) ht3
    have q1 : Kq ([] : List (Addr × Str)) p H H3 := s1.trans (s2.trans s3)
    have q2 : Kq ([] : List (Addr × Str)) p H3 H6 := (Kq.of ((Sm.of s4).trans (Sm.of s5))).trans s6
    have q3 : Kq ([] : List (Addr × Str)) p H6 H9 := (Kq.of ((Sm.of s7).trans s8)).trans s9
    have q4 : Kq ([] : List (Addr × Str)) p H9 _ := Kq.of ((s10.trans s11).trans ((s12.trans s13).trans s14))
    exact k _ ((q1.trans q2).trans (q3.trans q4)) ((hs13.sm s14).le (by omega))
def sp__law_all_but_one_right (K : PySem.W.Frag) (C : Addr) (C_Walk : Addr) (TS : List (Addr × Str)) : Sp := fun vs H Q _ => ∃ (p : Addr) (m : Nat), vs = [.ref p] ∧ SrcN m H p ∧ m < 2 ^ 38 ∧ LamX.Tabs TS H ∧ ∀ H', Kq TS p H H' → SrcN (m + 3000) H' p → Q (.bl true) H'
theorem ok__law_all_but_one_right {P : Program} {w : World} {K : PySem.W.Frag} {mg : Str → Option Value} {base : Heap} (T : Txt K mg) : FnOk P w K mg base CX0 8 T.f__law_all_but_one_right T.fd__law_all_but_one_right ["_law_deck_here"] (sp__law_all_but_one_right K T.C_Kind T.C_Walk []) := by
  have G__law_choice := ok__law_choice (P := P) (w := w) (base := base) T
  have G__law_drawn := ok__law_drawn (P := P) (w := w) (base := base) T
  have G__law_great := ok__law_great (P := P) (w := w) (base := base) T
  have G__law_there := ok__law_there (P := P) (w := w) (base := base) T
  have G_descents := ok_descents (P := P) (w := w) (base := base) T
  have G_first_within := ok_first_within (P := P) (w := w) (base := base) T
  have G_greatest_result := ok_greatest_result (P := P) (w := w) (base := base) T
  have G_least_result := ok_least_result (P := P) (w := w) (base := base) T
  have G_total_within := ok_total_within (P := P) (w := w) (base := base) T
  refine T.F__law_all_but_one_right.ok sc__law_all_but_one_right (fun vs H Q E h => ?_) (fun cdv A outer s H vs Q E hr h => ?_)
  · obtain ⟨p, m, rfl, _⟩ := h
    rfl
  · obtain ⟨p, m, rfl, h⟩ := h
    have hr__law_choice : Room 2 _ := hr.mono (by decide)
    have hr__law_drawn : Room 4 _ := hr.mono (by decide)
    have hr__law_great : Room 2 _ := hr.mono (by decide)
    have hr__law_there : Room 2 _ := hr.mono (by decide)
    have hr_descents : Room 6 _ := hr.mono (by decide)
    have hr_first_within : Room 7 _ := hr.mono (by decide)
    have hr_greatest_result : Room 7 _ := hr.mono (by decide)
    have hr_least_result : Room 7 _ := hr.mono (by decide)
    have hr_total_within : Room 7 _ := hr.mono (by decide)
    refine ⟨_, (pss_cons (ps_asg (pe_call G__law_drawn hr__law_drawn rfl T.g__law_drawn T.k__law_drawn T.b__law_drawn .nil pass0 (pa_cons (pv 0 (hv := Or.inl rfl)) pa_nil)) (pg_tup rfl (pgs_cons (pg_name (i := 1) sc__law_all_but_one_right.nd rfl (Or.inl rfl)) (pgs_cons (pg_name (i := 2) sc__law_all_but_one_right.nd rfl (Or.inl rfl)) (pgs_cons (pg_name (i := 3) sc__law_all_but_one_right.nd rfl (Or.inl rfl)) (pgs_cons (pg_name (i := 4) sc__law_all_but_one_right.nd rfl (Or.inl rfl)) (pgs_cons (pg_name (i := 5) sc__law_all_but_one_right.nd rfl (Or.inl rfl)) pgs_nil)))))))
      (pss_cons (ps_par rfl sc__law_all_but_one_right.nd (i := 6) (j := 7) rfl rfl (by decide) rfl rfl (pa_cons (pe_op op_shl pe_int (pe_ix (r := rIxT K) ix_tup (pv 3 (hv := Or.inl rfl)) pe_int (fun _ _ => rfl))) (pa_cons (pe_ix (r := rIxT K) ix_tup (pv 3 (hv := Or.inl rfl)) pe_int (fun _ _ => rfl)) pa_nil)) (by rfl))
      (pss_cons (ps_par rfl sc__law_all_but_one_right.nd (i := 3) (j := 4) rfl rfl (by decide) rfl rfl (pa_cons (pe_tup (pa_cons (pe_ix (r := rIxT K) ix_tup (pv 3 (hv := Or.inl rfl)) pe_int (fun _ _ => rfl)) (pa_cons pe_int (pa_cons (pv 7 (hv := Or.inl rfl)) pa_nil)))) (pa_cons (pe_tup (pa_cons (pe_op op_mod (pe_callTy (T := "int") (r := rIntC) call_int1 (by rfl) T.n_int (by decide +kernel) (pa_cons (pv 7 (hv := Or.inl rfl)) pa_nil)) (pv 6 (hv := Or.inl rfl))) (pa_cons (pe_ix (r := rIxT K) ix_tup (pv 4 (hv := Or.inl rfl)) pe_int (fun _ _ => rfl)) pa_nil))) pa_nil)) (by rfl))
      (pss_cons (ps_set (i := 8) sc__law_all_but_one_right.nd rfl (Or.inl rfl) (pe_call G__law_choice hr__law_choice rfl T.g__law_choice T.k__law_choice T.b__law_choice .nil pass0 (pa_cons (pv 0 (hv := Or.inl rfl)) (pa_cons (pe_lst (pa_cons pe_int (pa_cons (pe_op op_sub (pv 6 (hv := Or.inl rfl)) pe_int) (pa_cons (pe_call G__law_great hr__law_great rfl T.g__law_great T.k__law_great T.b__law_great .nil pass0 (pa_cons (pv 0 (hv := Or.inl rfl)) (pa_cons (pv 6 (hv := Or.inl rfl)) pa_nil))) pa_nil)))) pa_nil))))
      (pss_cons (ps_set (i := 9) sc__law_all_but_one_right.nd rfl (Or.inl rfl) (pe_call G__law_there hr__law_there rfl T.g__law_there T.k__law_there T.b__law_there .nil pass0 (pa_cons (pv 3 (hv := Or.inl rfl)) (pa_cons (pe_op op_sub (pe_op op_add (pv 2 (hv := Or.inl rfl)) (pv 8 (hv := Or.inl rfl))) (pe_ix (r := rIxT K) ix_tup (pv 4 (hv := Or.inl rfl)) pe_int (fun _ _ => rfl))) (pa_cons (pe_ix (r := rIxT K) ix_tup (pv 5 (hv := Or.inl rfl)) pe_int (fun _ _ => rfl)) pa_nil)))))
      (pss_cons (ps_par rfl sc__law_all_but_one_right.nd (i := 10) (j := 11) rfl rfl (by decide) rfl rfl (pa_cons (pe_op op_add (pv 9 (hv := Or.inl rfl)) pe_int) (pa_cons (pe_op op_sub (pe_op op_add (pv 9 (hv := Or.inl rfl)) (pv 6 (hv := Or.inl rfl))) pe_int) pa_nil)) (by rfl))
      (pss_cons (ps_if (pt_cmpR op_ne (pe_call G_descents hr_descents rfl T.g_descents T.k_descents T.b_descents .nil pass0 (pa_cons (pv 1 (hv := Or.inl rfl)) (pa_cons (pv 4 (hv := Or.inl rfl)) (pa_cons (pv 10 (hv := Or.inl rfl)) (pa_cons (pv 11 (hv := Or.inl rfl)) pa_nil))))) (pe_op op_sub (pe_ix (r := rIxT K) ix_tup (pv 4 (hv := Or.inl rfl)) pe_int (fun _ _ => rfl)) (pe_callTy (T := "int") (r := rIntC) call_int1 (by rfl) T.n_int (by decide +kernel) (pa_cons (pe_cmpR op_ge (pe_op op_add (pv 8 (hv := Or.inl rfl)) (pe_ix (r := rIxT K) ix_tup (pv 4 (hv := Or.inl rfl)) pe_int (fun _ _ => rfl))) (pv 6 (hv := Or.inl rfl)) (nomark _)) pa_nil))) (nomark _)) (pss_one (ps_ret pe_bl)) pss_nil)
      (pss_cons (ps_set (i := 12) sc__law_all_but_one_right.nd rfl (Or.inl rfl) (pe_op op_add (pv 2 (hv := Or.inl rfl)) (pe_callTy (T := "int") (r := rIntC) call_int1 (by rfl) T.n_int (by decide +kernel) (pa_cons (pe_cmpR op_eq (pv 8 (hv := Or.inl rfl)) pe_int (nomark _)) pa_nil))))
      (pss_cons (ps_set (i := 13) sc__law_all_but_one_right.nd rfl (Or.inl rfl) (pe_op op_sub (pe_op op_sub (pe_op op_add (pv 2 (hv := Or.inl rfl)) (pv 6 (hv := Or.inl rfl))) pe_int) (pe_callTy (T := "int") (r := rIntC) call_int1 (by rfl) T.n_int (by decide +kernel) (pa_cons (pe_cmpR op_eq (pv 8 (hv := Or.inl rfl)) (pe_op op_sub (pv 6 (hv := Or.inl rfl)) pe_int) (nomark _)) pa_nil))))
      (pss_cons (ps_if (pt_cmpR (op_neD hr.units) (pe_call G_least_result hr_least_result rfl T.g_least_result T.k_least_result T.b_least_result .nil pass0 (pa_cons (pv 1 (hv := Or.inl rfl)) (pa_cons (pv 4 (hv := Or.inl rfl)) (pa_cons (pv 10 (hv := Or.inl rfl)) (pa_cons (pv 11 (hv := Or.inl rfl)) pa_nil))))) (pe_tup (pa_cons (pv 12 (hv := Or.inl rfl)) (pa_cons (pe_call G__law_there hr__law_there rfl T.g__law_there T.k__law_there T.b__law_there .nil pass0 (pa_cons (pv 3 (hv := Or.inl rfl)) (pa_cons (pe_op op_sub (pv 12 (hv := Or.inl rfl)) (pe_ix (r := rIxT K) ix_tup (pv 4 (hv := Or.inl rfl)) pe_int (fun _ _ => rfl))) (pa_cons (pv 10 (hv := Or.inl rfl)) pa_nil)))) pa_nil))) (nomark _)) (pss_one (ps_ret pe_bl)) pss_nil)
      (pss_cons (ps_if (pt_cmpR (op_neD hr.units) (pe_call G_greatest_result hr_greatest_result rfl T.g_greatest_result T.k_greatest_result T.b_greatest_result .nil pass0 (pa_cons (pv 1 (hv := Or.inl rfl)) (pa_cons (pv 4 (hv := Or.inl rfl)) (pa_cons (pv 10 (hv := Or.inl rfl)) (pa_cons (pv 11 (hv := Or.inl rfl)) pa_nil))))) (pe_tup (pa_cons (pv 13 (hv := Or.inl rfl)) (pa_cons (pe_call G__law_there hr__law_there rfl T.g__law_there T.k__law_there T.b__law_there .nil pass0 (pa_cons (pv 3 (hv := Or.inl rfl)) (pa_cons (pe_op op_sub (pv 13 (hv := Or.inl rfl)) (pe_ix (r := rIxT K) ix_tup (pv 4 (hv := Or.inl rfl)) pe_int (fun _ _ => rfl))) (pa_cons (pv 10 (hv := Or.inl rfl)) pa_nil)))) pa_nil))) (nomark _)) (pss_one (ps_ret pe_bl)) pss_nil)
      (pss_cons (ps_set (i := 14) sc__law_all_but_one_right.nd rfl (Or.inl rfl) (pe_op op_add (pv 2 (hv := Or.inl rfl)) (pv 8 (hv := Or.inl rfl))))
      (pss_one (ps_ret (pe_and (pe_cmpR op_eq (pe_call G_total_within hr_total_within rfl T.g_total_within T.k_total_within T.b_total_within .nil pass0 (pa_cons (pv 1 (hv := Or.inl rfl)) (pa_cons (pv 4 (hv := Or.inl rfl)) (pa_cons (pv 10 (hv := Or.inl rfl)) (pa_cons (pv 11 (hv := Or.inl rfl)) (pa_cons (pv 14 (hv := Or.inl rfl)) (pa_cons (pv 14 (hv := Or.inl rfl)) pa_nil))))))) pe_int (nomark _)) (pe_one (pe_cmpR (r := rIsNn) op_isN (pe_call G_first_within hr_first_within rfl T.g_first_within T.k_first_within T.b_first_within .nil pass0 (pa_cons (pv 1 (hv := Or.inl rfl)) (pa_cons (pv 4 (hv := Or.inl rfl)) (pa_cons (pv 10 (hv := Or.inl rfl)) (pa_cons (pv 11 (hv := Or.inl rfl)) (pa_cons (pv 14 (hv := Or.inl rfl)) (pa_cons (pv 14 (hv := Or.inl rfl)) pa_nil))))))) pe_non (nomark _)))))))))))))))))), ?_⟩
    try dsimp only [cxOf, Cx.nox, Cx.wish, Cx.blk]
    rw [show L2.start ["_law_deck_here", "_law_own", "_law_least_one", "_law_parts", "_law_pair", "_law_ends", "_law_size", "_law_odd", "_law_place", "_law_lacking", "_law_begin", "_law_end", "_law_low", "_law_high", "_law_y"] [.ref p] = [some (.ref p), none, none, none, none, none, none, none, none, none, none, none, none, none, none] from rfl]
    obtain ⟨hs, n38, hT, k⟩ := h
    walk_at "rd"
    refine ⟨p, m, rfl, hs, n38, fun t kx lt0 lp0 le wd tw s o a0 b bg n H1 d s1 hs1 => ?_⟩
    have N := d.num.odd
    have w1 := N.w1
    have w2 := N.w2
    have hp := p2 wd
    have hm := bb_pow w2
    obtain ⟨⟨sa, sb, sf, -⟩, -, -, bo3, bb3⟩ := N.sd
    have hh : hiK wd s = loK wd s + 2 ^ wd - 1 := rfl
    have bfar : ∀ w, loK wd s ≤ w → w ≤ hiK wd s → BB (w - b) := fun w h0 h1 => by
      obtain ⟨z1, z2, z3, z4, z5⟩ := loK_b (s := s) w2
      have q := pw_le w2
      have q60 : (2 : Int) ^ 128 * 10000 ≤ 10 ^ 62 := by decide +kernel
      have b0 := N.b0
      have b1 := N.b1
      exact bb_ten (by omega) (by omega)
    have hk := d.hk
    have ht := d.ht
    have hl := d.hl
    have hp' := d.hp
    have he := d.he
    walk_at "rd"
    refine w_I (cpow (n := 1) (by omega) (by decide)) ?_
    rw [Int.toNat_natCast, Int.one_mul]
    walk_at "rd"
    refine ⟨by show 3 ≤ sizeLine; decide, fun lt hlt => ?_⟩
    have s2 := (Kq.refl (TS := ([] : List (Addr × Str))) (p := p) H1).new (o := .tup [.int wd, .int 0, .int o]) hlt
    have hs2 := hs1.new (o := .tup [.int wd, .int 0, .int o]) hlt
    have hlt' : (L2.upd H1 lt (.tup [.int wd, .int 0, .int o])) lt = some (.tup [.int wd, .int 0, .int o]) := upd_same
    have d2 := d.kq hs1 s2
    generalize L2.upd H1 lt _ = H2 at s2 hs2 hlt' d2 ⊢
    clear hk ht hl hp' he
    have hk := d2.hk
    have ht := d2.ht
    have hl := d2.hl
    have hp' := d2.hp
    have he := d2.he
    walk_at "rd"
    refine w_I hp ?_
    have A0 := Int.emod_nonneg o (Int.ne_of_gt hp)
    have A1 := Int.emod_lt_of_pos o hp
    generalize o % 2 ^ wd = a at N sa A0 A1 ⊢
    walk_at "rd"
    refine ⟨by show 2 ≤ sizeLine; decide, fun lp hlp => ?_⟩
    have s3 := (Kq.refl (TS := ([] : List (Addr × Str))) (p := p) H2).new (o := .tup [.int a, .int b]) hlp
    have hs3 := hs2.new (o := .tup [.int a, .int b]) hlp
    have hlp' : (L2.upd H2 lp (.tup [.int a, .int b])) lp = some (.tup [.int a, .int b]) := upd_same
    have d3 := d2.kq hs2 s3
    have hlt3 := s3.at (hs2.ne_of hlt') hlt'
    generalize L2.upd H2 lp _ = H3 at s3 hs3 hlp' d3 hlt3 ⊢
    clear hk ht hl hp' he
    have hk := d3.hk
    have ht := d3.ht
    have hl := d3.hl
    have hp' := d3.hp
    have he := d3.he
    try dsimp only [List.set]
    walk_at "rd"
    refine ⟨p, _, _, rfl, hs3, by omega, hp, b28 hm, fun v4 H4 v40 v41 kp4 hs4 => ?_⟩
    have s4 : Kq ([] : List (Addr × Str)) p H3 H4 := kp4.toQ hs3.lst
    walk_at "rd"
    refine ⟨by show 3 ≤ sizeLine; decide, fun c1 hc1 => ?_⟩
    walk_at "rd"
    refine ⟨p, c1, _, _, rfl, hs4.new hc1, by omega, upd_same, hs4.ne hc1, by simp, by simp, fun v H5 hv kp5 hs5 => ?_⟩
    have s5 : Kq ([] : List (Addr × Str)) p H4 H5 := (Kq.refl H4).new hc1 |>.trans (kp5.toQ (hs4.new hc1).lst)
    obtain ⟨pl, rfl, pl0, pl1⟩ : ∃ pl : Int, v = .int pl ∧ 0 ≤ pl ∧ pl < 2 ^ wd := by
      rcases List.mem_cons.mp hv with e | e
      · exact ⟨0, e, by decide, hp⟩
      · rcases List.mem_cons.mp e with e | e
        · exact ⟨_, e, by omega, by omega⟩
        · exact ⟨_, List.mem_singleton.mp e, v40, v41⟩
    have s45 := s4.trans s5
    have d5 := d3.kq hs3 s45
    have hlt5 := s45.at (hs3.ne_of hlt3) hlt3
    have hlp5 := s45.at (hs3.ne_of hlp') hlp'
    clear hlt3 hlp' hlt' hv v40 v41
    clear hk ht hl hp' he
    have hk := d5.hk
    have ht := d5.ht
    have hl := d5.hl
    have hp' := d5.hp
    have he := d5.he
    try dsimp only [List.set]
    walk_at "rd"
    have y0 : loK wd s ≤ loK wd s + pl := by omega
    have y1 : loK wd s + pl ≤ hiK wd s := by omega
    refine ⟨lt, wd, 0, o, _, _, rfl, hlt5, w2, Nat.zero_le _, N.o2, N.o0, bo3, bfar _ y0 y1, sf.bb, by rw [Int.pow_zero]; exact Int.one_dvd _, fun X x1 x2 hX => ?_⟩
    have sol : Sol (hitP wd s a b (loK wd s + pl)) (2 ^ wd) X := hit_sol N.ao y0 y1 hX
    obtain ⟨sB, sE, bB, bE⟩ := N.lackb x1 x2
    clear x1 x2
    walk_at "rd"
    refine ⟨kx, lp, X + 1, X + 2 ^ wd - 1, a, b, wd, s, rfl, hk, hlp5, sa, sb, sB, sE, fun H6 s6 => ?_⟩
    rw [lack_ds A0 A1 w1 pl0 pl1 (of_decide_eq_true sol.self)]
    have hs6 := hs5.same s6
    have d6 := d5.sm (Sm.of (T := ([] : List (Addr × Str))) s6)
    have hlt6 := s6 _ _ hlt5
    have hlp6 := s6 _ _ hlp5
    clear hlt5 hlp5
    clear hk ht hl hp' he
    have hk := d6.hk
    have ht := d6.ht
    have hl := d6.hl
    have hp' := d6.hp
    have he := d6.he
    try dsimp only [List.set]
    walk_at "rd"
    refine w_ndecT rfl ?_
    walk_at "rd"
    obtain ⟨lw, hlw⟩ : ∃ z, z = loK wd s + (if decide (pl = 0) = true then (1 : Int) else 0) := ⟨_, rfl⟩
    rw [← hlw]
    walk_at "rd"
    obtain ⟨hw, hhw⟩ : ∃ z, z = loK wd s + 2 ^ wd - 1 - (if decide (pl = 2 ^ wd - 1) = true then (1 : Int) else 0) := ⟨_, rfl⟩
    rw [← hhw]
    walk_at "rd"
    have two : (2 : Int) ≤ 2 ^ wd := by
      have e := pw_le (show 1 ≤ wd from w1)
      have e2 : (2 : Int) ^ 1 = 2 := rfl
      omega
    obtain ⟨g0, g1, g2, g3⟩ : loK wd s ≤ lw ∧ lw ≤ hiK wd s ∧ lw ≠ loK wd s + pl ∧ ∀ y, loK wd s ≤ y → y ≠ loK wd s + pl → lw ≤ y := by
      rw [hlw]
      by_cases c : pl = 0
      · rw [if_pos (decide_eq_true c)]
        exact ⟨by omega, by omega, by omega, fun y h1 h2 => by omega⟩
      · rw [if_neg (by rw [decide_eq_true_eq]; exact c)]
        exact ⟨by omega, by omega, by omega, fun y h1 h2 => by omega⟩
    obtain ⟨r0, r1, r2, r3⟩ : loK wd s ≤ hw ∧ hw ≤ hiK wd s ∧ hw ≠ loK wd s + pl ∧ ∀ y, y ≤ hiK wd s → y ≠ loK wd s + pl → y ≤ hw := by
      rw [hhw]
      by_cases c : pl = 2 ^ wd - 1
      · rw [if_pos (decide_eq_true c)]
        exact ⟨by omega, by omega, by omega, fun y h1 h2 => by omega⟩
      · rw [if_neg (by rw [decide_eq_true_eq]; exact c)]
        exact ⟨by omega, by omega, by omega, fun y h1 h2 => by omega⟩
    clear hlw hhw
    walk_at "rd"
    refine ⟨kx, lp, X + 1, X + 2 ^ wd - 1, a, b, wd, s, rfl, hk, hlp6, sa, sb, sB, sE, (fun b hb => by cases hb), fun v H7 hv s7 => ?_⟩
    rcases hv with ⟨c, _⟩ | ⟨t1, y, x, rfl, ht1, R⟩
    · omega
    have hs7 := hs6.sm s7
    have d7 := d6.sm s7
    have hlt7 := s7.at hlt6
    have hlp7 := s7.at hlp6
    clear hlt6 hlp6
    clear hk ht hl hp' he
    have hk := d7.hk
    have ht := d7.ht
    have hl := d7.hl
    have hp' := d7.hp
    have he := d7.he
    walk_at "rd"
    refine ⟨lt, wd, 0, o, _, _, rfl, hlt7, w2, Nat.zero_le _, N.o2, N.o0, bo3, bfar _ g0 g1, bB, by rw [Int.pow_zero]; exact Int.one_dvd _, fun X2 u1 u2 hX2 => ?_⟩
    have sol2 : Sol (hitP wd s a b lw) (2 ^ wd) X2 := hit_sol N.ao g0 g1 hX2
    have u2 : X2 < X + 1 + 2 ^ wd := u2
    walk_at "rd"
    refine ⟨by show 2 ≤ sizeLine; decide, fun t2 ht2 => ?_⟩
    obtain ⟨ey, ex⟩ := least_is R u1 (lack_other sol sol2 g2 u1 u2) (of_decide_eq_true sol2.self) (fun z u3 u4 e => by
      have := tot_zero_iff.mp (sol2.before hp u1 u2) z u3 (by omega)
      rw [show hitP wd s a b lw z = true from decide_eq_true e] at this
      cases this) (fun z q1 q2 => g3 _ (wr_lo wd s _) (lack_ne sol hp q1 q2))
    rw [ey, ex] at ht1
    refine ne_pair (gn ht1 ht2) upd_same ?_
    have s8 := (Sm.refl (T := ([] : List (Addr × Str))) H7).new (o := .tup [.int lw, .int X2]) ht2
    generalize L2.upd H7 t2 _ = H8 at s8 ⊢
    have hs8 := hs7.sm s8
    have d8 := d7.sm s8
    have hlt8 := s8.at hlt7
    have hlp8 := s8.at hlp7
    clear hlt7 hlp7 sol2 hX2 u1 u2 ht1 R
    clear hk ht hl hp' he
    have hk := d8.hk
    have ht := d8.ht
    have hl := d8.hl
    have hp' := d8.hp
    have he := d8.he
    try dsimp only [List.set]
    walk_at "rd"
    refine iteF ?_
    walk_at "rd"
    refine ⟨kx, lp, X + 1, X + 2 ^ wd - 1, a, b, wd, s, rfl, hk, hlp8, sa, sb, sB, sE, (fun b hb => by cases hb), fun v H9 hv s9 => ?_⟩
    rcases hv with ⟨c, _⟩ | ⟨t1, y, x, rfl, ht1, R⟩
    · omega
    have hs9 := hs8.sm s9
    have d9 := d8.sm s9
    have hlt9 := s9.at hlt8
    have hlp9 := s9.at hlp8
    clear hlt8 hlp8
    clear hk ht hl hp' he
    have hk := d9.hk
    have ht := d9.ht
    have hl := d9.hl
    have hp' := d9.hp
    have he := d9.he
    walk_at "rd"
    refine ⟨lt, wd, 0, o, _, _, rfl, hlt9, w2, Nat.zero_le _, N.o2, N.o0, bo3, bfar _ r0 r1, bB, by rw [Int.pow_zero]; exact Int.one_dvd _, fun X2 u1 u2 hX2 => ?_⟩
    have sol2 : Sol (hitP wd s a b hw) (2 ^ wd) X2 := hit_sol N.ao r0 r1 hX2
    have u2 : X2 < X + 1 + 2 ^ wd := u2
    walk_at "rd"
    refine ⟨by show 2 ≤ sizeLine; decide, fun t2 ht2 => ?_⟩
    obtain ⟨ey, ex⟩ := great_is R u1 (lack_other sol sol2 r2 u1 u2) (of_decide_eq_true sol2.self) (fun z u3 u4 e => by
      have := tot_zero_iff.mp (sol2.before hp u1 u2) z u3 (by omega)
      rw [show hitP wd s a b hw z = true from decide_eq_true e] at this
      cases this) (fun z q1 q2 => r3 _ (wr_hi wd s _) (lack_ne sol hp q1 q2))
    rw [ey, ex] at ht1
    refine ne_pair (gn ht1 ht2) upd_same ?_
    have s10 := (Sm.refl (T := ([] : List (Addr × Str))) H9).new (o := .tup [.int hw, .int X2]) ht2
    generalize L2.upd H9 t2 _ = H10 at s10 ⊢
    have hs10 := hs9.sm s10
    have d10 := d9.sm s10
    have hlt10 := s10.at hlt9
    have hlp10 := s10.at hlp9
    clear hlt9 hlp9 sol2 hX2 u1 u2 ht1 R
    clear hk ht hl hp' he
    have hk := d10.hk
    have ht := d10.ht
    have hl := d10.hl
    have hp' := d10.hp
    have he := d10.he
    try dsimp only [List.set]
    walk_at "rd"
    refine iteF ?_
    walk_at "rd"
    have hP : rsP wd a b (loK wd s + pl) (loK wd s + pl) = hitP wd s a b (loK wd s + pl) := funext fun x => rs_y y0 y1
    have t0 : tot (rsP wd a b (loK wd s + pl) (loK wd s + pl)) (X + 1) (X + 2 ^ wd - 1) = 0 := by
      rw [hP]
      exact tot_zero_iff.mpr fun z q1 q2 => decide_eq_false (lack_ne sol hp q1 q2)
    refine ⟨kx, lp, X + 1, X + 2 ^ wd - 1, _, _, a, b, wd, s, rfl, hk, hlp10, sa, sb, sB, sE, y0, y1, y0, y1, fun H11 s11 => ?_⟩
    rw [t0]
    have hs11 := hs10.same s11
    have hk := hk.same s11
    have hlp11 := s11 _ _ hlp10
    walk_at "rd"
    refine w_decT rfl ?_
    walk_at "rd"
    refine ⟨kx, lp, X + 1, X + 2 ^ wd - 1, _, _, a, b, wd, s, rfl, hk, hlp11, sa, sb, sB, sE, y0, y1, y0, y1, (fun b hb => by cases hb), fun v H12 hv s12 => ?_⟩
    obtain rfl := none_is hv t0
    walk_at "rd"
    have q1 : Kq ([] : List (Addr × Str)) p H H5 := s1.trans ((s2.trans s3).trans s45)
    have q2 : Kq ([] : List (Addr × Str)) p H5 H8 := Kq.of ((Sm.of s6).trans (s7.trans s8))
    have q3 : Kq ([] : List (Addr × Str)) p H8 H12 := Kq.of ((s9.trans s10).trans ((Sm.of s11).trans s12))
    exact k _ (q1.trans (q2.trans q3)) ((hs11.sm s12).le (by omega))
def sp_law (K : PySem.W.Frag) (C : Addr) (C_Walk : Addr) (TS : List (Addr × Str)) : Sp := fun vs H Q _ => ∃ (a : Addr) (ns : List Int), vs = [.ref a] ∧ SqL K H a (ns.map V.int) ∧ ns.length ≤ 63 ∧ LamX.Tabs TS H ∧ ∀ H', Q (.bl true) H'
theorem ok_law {P : Program} {w : World} {K : PySem.W.Frag} {mg : Str → Option Value} {base : Heap} (T : Txt K mg) : FnOk P w K mg base CX0 9 T.f_law T.fd_law ["_law_script"] (sp_law K T.C_Kind T.C_Walk []) := by
  have G__law_all_but_one_right := ok__law_all_but_one_right (P := P) (w := w) (base := base) T
  have G__law_deck := ok__law_deck (P := P) (w := w) (base := base) T
  have G__law_right := ok__law_right (P := P) (w := w) (base := base) T
  refine T.F_law.ok sc_law (fun vs H Q E h => ?_) (fun cdv A outer s H vs Q E hr h => ?_)
  · obtain ⟨a, ns, rfl, _⟩ := h
    rfl
  · obtain ⟨a, ns, rfl, h⟩ := h
    have hr__law_all_but_one_right : Room 8 _ := hr.mono (by decide)
    have hr__law_deck : Room 1 _ := hr.mono (by decide)
    have hr__law_right : Room 8 _ := hr.mono (by decide)
    refine ⟨_, (pss_cons (ps_for PassesOwn.never rfl (pi_list (pe_op op_cat (pe_slice sl_list (pv 0 (hv := Or.inl rfl)) po_none (po_some pe_int)) (pe_lst (pa_cons pe_int pa_nil)))) (pg_name (i := 1) sc_law.nd rfl (Or.inl rfl))
        (pss_cons (ps_set (i := 2) sc_law.nd rfl (Or.inl rfl) (pe_call G__law_deck hr__law_deck rfl T.g__law_deck T.k__law_deck T.b__law_deck .nil pass0 (pa_cons (pv 1 (hv := Or.inl rfl)) pa_nil)))
      (pss_one (ps_if (PW.pt (pw_or (pt_not (pt_val (pe_call G__law_right hr__law_right rfl T.g__law_right T.k__law_right T.b__law_right .nil pass0 (pa_cons (pv 2 (hv := Or.inl rfl)) pa_nil)))) (pw_or1 (pt_not (pt_val (pe_call G__law_all_but_one_right hr__law_all_but_one_right rfl T.g__law_all_but_one_right T.k__law_all_but_one_right T.b__law_all_but_one_right .nil pass0 (pa_cons (pv 2 (hv := Or.inl rfl)) pa_nil))))))) (pss_one (ps_ret pe_bl)) pss_nil))))
      (pss_one (ps_ret pe_bl))), ?_⟩
    try dsimp only [cxOf, Cx.nox, Cx.wish, Cx.blk]
    rw [show L2.start ["_law_script", "_law_cell", "_law_deck_here"] [.ref a] = [some (.ref a), none, none] from rfl]
    obtain ⟨hS, n63, hT, k⟩ := h
    walk_at "rd"
    have e3 := cut_take V.int ns 3
    refine w_slL hS (fun q1 hq1 => ?_)
    rw [show (some (3 : Int)) = some ((3 : Nat) : Int) from rfl, e3]
    clear e3
    have lm : (ns.take 3).length ≤ 3 := by rw [List.length_take]; omega
    generalize ns.take 3 = ms at lm
    walk_at "rd"
    refine ⟨by show 1 ≤ sizeLine; decide, fun q2 hq2 => ?_⟩
    refine w_cat (gn upd_same hq2) upd_same (by rw [List.length_map]; exact Nat.le_trans (show ms.length + 1 ≤ 64 by omega) (by decide)) (fun q3 hq3 => ?_)
    have s0 : Sm ([] : List (Addr × Str)) H (L2.upd (L2.upd (L2.upd H q1 (.lst (ms.map V.int))) q2 (.lst [V.int 0])) q3 (.lst (ms.map V.int ++ [V.int 0]))) := (((Sm.refl H).new hq1).new hq2).new hq3
    have hx0 : (L2.upd (L2.upd (L2.upd H q1 (.lst (ms.map V.int))) q2 (.lst [V.int 0])) q3 (.lst (ms.map V.int ++ [V.int 0]))) q3 = some (.lst ((ms ++ [0]).map V.int)) := by
      rw [upd_same, List.map_append]; rfl
    generalize L2.upd (L2.upd (L2.upd H q1 _) q2 _) q3 _ = H0 at s0 hx0 ⊢
    walk_at "rd"
    refine ⟨⟨_, SqL.of hx0⟩, for_list (K := K) (a := q3) (xs := (ms ++ [0]).map V.int) (fun i σ H' => (∃ v1 v2 : Option V, σ = [some (.ref a), v1, v2]) ∧ Sm ([] : List (Addr × Str)) H0 H')
      ⟨⟨_, _, rfl⟩, Sm.refl H0⟩ (fun i σ H' _ p => SqL.of (p.2.at hx0)) ?_ ?_⟩
    · rintro i x σ H' hi ⟨⟨v1, v2, rfl⟩, s1⟩
      obtain ⟨c, _, rfl⟩ := map_get hi
      walk_at "rd"
      refine ⟨c, rfl, fun p H2 hp s2 hs2 => ?_⟩
      have hT2 := (s1.trans (Sm.of s2)).2 (s0.2 hT)
      walk_at "rd"
      refine ⟨p, 3, rfl, hs2, by decide, hT2, fun H3 s3 hs3 => ?_⟩
      walk_at "rd"
      refine iteF ?_
      walk_at "rd"
      refine ⟨p, _, rfl, hs3, by decide, s3.2 hT2, fun H4 s4 hs4 => ?_⟩
      walk_at "rd"
      refine iteF ?_
      walk_at "rd"
      exact ⟨⟨_, _, rfl⟩, Kq.out s1 hp (Sm.of s2) (s3.trans s4)⟩
    · rintro σ H' ⟨⟨v1, v2, rfl⟩, s1⟩
      walk_at "rd"
      exact k _
theorem mk_txt {K : PySem.W.Frag} {h : Heap} {mg : Str → Option Value} {C_Walk C_Kind f_Walk___init__ f_Walk_mirrored f_Walk_of_laps f_Walk_marked_steps f_Walk_cost f_Walk_steps_for f__steps_to_visit f_hit_at f_is_integer f_is_sixty_digits f_check_sixty_digits f_is_count f_check_number f_Kind___init__ f_check_kind f_check_value f_least f_greatest f_is_value f_quotient_total f_total_between f_least_remainder f_check_line f_check_range f__check f__check_within f__total f__hit f_total_within f_first_within f_within_at f_least_result f_greatest_result f__falling f_descents f__law_deck f__law_deal f__law_choice f__law_great f__law_inverse f__law_there f__law_drawn f__law_right f__law_all_but_one_right f_law : Addr} (X : K.In h) (G : h.Ns mainGlobals mg)
    {od_Walk___init__ an_Walk___init__ od_Walk_mirrored an_Walk_mirrored od_Walk_of_laps an_Walk_of_laps od_Walk_marked_steps an_Walk_marked_steps od_Walk_cost an_Walk_cost od_Walk_steps_for an_Walk_steps_for od__steps_to_visit an__steps_to_visit od_hit_at an_hit_at od_is_integer an_is_integer od_is_sixty_digits an_is_sixty_digits od_check_sixty_digits an_check_sixty_digits od_is_count an_is_count od_check_number an_check_number od_Kind___init__ an_Kind___init__ od_check_kind an_check_kind od_check_value an_check_value od_least an_least od_greatest an_greatest od_is_value an_is_value od_quotient_total an_quotient_total od_total_between an_total_between od_least_remainder an_least_remainder od_check_line an_check_line od_check_range an_check_range od__check an__check od__check_within an__check_within od__total an__total od__hit an__hit od_total_within an_total_within od_first_within an_first_within od_within_at an_within_at od_least_result an_least_result od_greatest_result an_greatest_result od__falling an__falling od_descents an_descents od__law_deck an__law_deck od__law_deal an__law_deal od__law_choice an__law_choice od__law_great an__law_great od__law_inverse an__law_inverse od__law_there an__law_there od__law_drawn an__law_drawn od__law_right an__law_right od__law_all_but_one_right an__law_all_but_one_right od_law an_law : Option Addr} {sl_Walk___init__ sl_Walk_mirrored sl_Walk_of_laps sl_Walk_marked_steps sl_Walk_cost sl_Walk_steps_for sl__steps_to_visit sl_hit_at sl_is_integer sl_is_sixty_digits sl_check_sixty_digits sl_is_count sl_check_number sl_Kind___init__ sl_check_kind sl_check_value sl_least sl_greatest sl_is_value sl_quotient_total sl_total_between sl_least_remainder sl_check_line sl_check_range sl__check sl__check_within sl__total sl__hit sl_total_within sl_first_within sl_within_at sl_least_result sl_greatest_result sl__falling sl_descents sl__law_deck sl__law_deal sl__law_choice sl__law_great sl__law_inverse sl__law_there sl__law_drawn sl__law_right sl__law_all_but_one_right sl_law : Array (Option Value)} {oc_Walk___init__ kV_Walk___init__ dc_Walk___init__ pm_Walk___init__ cd_Walk___init__ ct_Walk___init__ oc_Walk_mirrored kV_Walk_mirrored dc_Walk_mirrored pm_Walk_mirrored cd_Walk_mirrored ct_Walk_mirrored oc_Walk_of_laps kV_Walk_of_laps dc_Walk_of_laps pm_Walk_of_laps cd_Walk_of_laps ct_Walk_of_laps oc_Walk_marked_steps kV_Walk_marked_steps dc_Walk_marked_steps pm_Walk_marked_steps cd_Walk_marked_steps ct_Walk_marked_steps oc_Walk_cost kV_Walk_cost dc_Walk_cost pm_Walk_cost cd_Walk_cost ct_Walk_cost oc_Walk_steps_for kV_Walk_steps_for dc_Walk_steps_for pm_Walk_steps_for cd_Walk_steps_for ct_Walk_steps_for oc__steps_to_visit kV__steps_to_visit dc__steps_to_visit pm__steps_to_visit cd__steps_to_visit ct__steps_to_visit oc_hit_at kV_hit_at dc_hit_at pm_hit_at cd_hit_at ct_hit_at oc_is_integer kV_is_integer dc_is_integer pm_is_integer cd_is_integer ct_is_integer oc_is_sixty_digits kV_is_sixty_digits dc_is_sixty_digits pm_is_sixty_digits cd_is_sixty_digits ct_is_sixty_digits oc_check_sixty_digits kV_check_sixty_digits dc_check_sixty_digits pm_check_sixty_digits cd_check_sixty_digits ct_check_sixty_digits oc_is_count kV_is_count dc_is_count pm_is_count cd_is_count ct_is_count oc_check_number kV_check_number dc_check_number pm_check_number cd_check_number ct_check_number oc_Kind___init__ kV_Kind___init__ dc_Kind___init__ pm_Kind___init__ cd_Kind___init__ ct_Kind___init__ oc_check_kind kV_check_kind dc_check_kind pm_check_kind cd_check_kind ct_check_kind oc_check_value kV_check_value dc_check_value pm_check_value cd_check_value ct_check_value oc_least kV_least dc_least pm_least cd_least ct_least oc_greatest kV_greatest dc_greatest pm_greatest cd_greatest ct_greatest oc_is_value kV_is_value dc_is_value pm_is_value cd_is_value ct_is_value oc_quotient_total kV_quotient_total dc_quotient_total pm_quotient_total cd_quotient_total ct_quotient_total oc_total_between kV_total_between dc_total_between pm_total_between cd_total_between ct_total_between oc_least_remainder kV_least_remainder dc_least_remainder pm_least_remainder cd_least_remainder ct_least_remainder oc_check_line kV_check_line dc_check_line pm_check_line cd_check_line ct_check_line oc_check_range kV_check_range dc_check_range pm_check_range cd_check_range ct_check_range oc__check kV__check dc__check pm__check cd__check ct__check oc__check_within kV__check_within dc__check_within pm__check_within cd__check_within ct__check_within oc__total kV__total dc__total pm__total cd__total ct__total oc__hit kV__hit dc__hit pm__hit cd__hit ct__hit oc_total_within kV_total_within dc_total_within pm_total_within cd_total_within ct_total_within oc_first_within kV_first_within dc_first_within pm_first_within cd_first_within ct_first_within oc_within_at kV_within_at dc_within_at pm_within_at cd_within_at ct_within_at oc_least_result kV_least_result dc_least_result pm_least_result cd_least_result ct_least_result oc_greatest_result kV_greatest_result dc_greatest_result pm_greatest_result cd_greatest_result ct_greatest_result oc__falling kV__falling dc__falling pm__falling cd__falling ct__falling oc_descents kV_descents dc_descents pm_descents cd_descents ct_descents oc__law_deck kV__law_deck dc__law_deck pm__law_deck cd__law_deck ct__law_deck oc__law_deal kV__law_deal dc__law_deal pm__law_deal cd__law_deal ct__law_deal oc__law_choice kV__law_choice dc__law_choice pm__law_choice cd__law_choice ct__law_choice oc__law_great kV__law_great dc__law_great pm__law_great cd__law_great ct__law_great oc__law_inverse kV__law_inverse dc__law_inverse pm__law_inverse cd__law_inverse ct__law_inverse oc__law_there kV__law_there dc__law_there pm__law_there cd__law_there ct__law_there oc__law_drawn kV__law_drawn dc__law_drawn pm__law_drawn cd__law_drawn ct__law_drawn oc__law_right kV__law_right dc__law_right pm__law_right cd__law_right ct__law_right oc__law_all_but_one_right kV__law_all_but_one_right dc__law_all_but_one_right pm__law_all_but_one_right cd__law_all_but_one_right ct__law_all_but_one_right oc_law kV_law dc_law pm_law cd_law ct_law : Value} {t_BEYOND_SIXTY_DIGITS t_MOST_BITS : Tok}
    (aC_Walk : PySem.W.nsIn K mainGlobals "Walk" = some (some (.ref C_Walk)))
    (a_Walk___init__ : PySem.W.findIn K (.ref C_Walk) "__init__" = some (some (.ref f_Walk___init__)))
    (i_Walk___init__ : PySem.W.isFn K (.ref f_Walk___init__) = true)
    (pg_Walk : PySem.W.plainGet K C_Walk Str.empty = true)
    (hd_Walk : PySem.W.hasDictIn K C_Walk = true)
    (po_Walk : PySem.W.plainOver K C_Walk = true)
    (sa_Walk : PySem.W.findIn K (.ref C_Walk) "__setattr__" = some (some (.builtin "object.__setattr__")))
    (mkk_Walk : PySem.W.makesIn K C_Walk = true)
    (kc_Walk : PySem.W.keepIn K (.ref C_Walk) = true)
    (na_Walk_size : PySem.W.findIn K (.ref C_Walk) "size" = some none)
    (na_Walk_step : PySem.W.findIn K (.ref C_Walk) "step" = some none)
    (na_Walk_marks : PySem.W.findIn K (.ref C_Walk) "marks" = some none)
    (na_Walk_each : PySem.W.findIn K (.ref C_Walk) "each" = some none)
    (na_Walk_marked : PySem.W.findIn K (.ref C_Walk) "marked" = some none)
    (na_Walk_around : PySem.W.findIn K (.ref C_Walk) "around" = some none)
    (ia_Walk : PySem.W.findIn K (.ref C_Walk) "__class__" = some (some (.builtin "object.__class__")))
    (ib_Walk : PySem.W.specialIn K (.builtin "object.__class__") "__get__" = some (some (.builtin "getset_descriptor.__get__")))
    (ic_Walk : PySem.W.takesIn K (.builtin "object.__class__") = some true)
    (id_Walk : PySem.W.mroIn K C_Walk (.type "object") = some true)
    (aC_Kind : PySem.W.nsIn K mainGlobals "Kind" = some (some (.ref C_Kind)))
    (a_Kind___init__ : PySem.W.findIn K (.ref C_Kind) "__init__" = some (some (.ref f_Kind___init__)))
    (i_Kind___init__ : PySem.W.isFn K (.ref f_Kind___init__) = true)
    (pg_Kind : PySem.W.plainGet K C_Kind Str.empty = true)
    (hd_Kind : PySem.W.hasDictIn K C_Kind = true)
    (po_Kind : PySem.W.plainOver K C_Kind = true)
    (sa_Kind : PySem.W.findIn K (.ref C_Kind) "__setattr__" = some (some (.builtin "object.__setattr__")))
    (mkk_Kind : PySem.W.makesIn K C_Kind = true)
    (kc_Kind : PySem.W.keepIn K (.ref C_Kind) = true)
    (na_Kind_bits : PySem.W.findIn K (.ref C_Kind) "bits" = some none)
    (na_Kind_is_signed : PySem.W.findIn K (.ref C_Kind) "is_signed" = some none)
    (ia_Kind : PySem.W.findIn K (.ref C_Kind) "__class__" = some (some (.builtin "object.__class__")))
    (ib_Kind : PySem.W.specialIn K (.builtin "object.__class__") "__get__" = some (some (.builtin "getset_descriptor.__get__")))
    (ic_Kind : PySem.W.takesIn K (.builtin "object.__class__") = some true)
    (id_Kind : PySem.W.mroIn K C_Kind (.type "object") = some true)
    (l_Walk___init__ : K.lookup f_Walk___init__ = some ⟨oc_Walk___init__, od_Walk___init__, .func (PySem.W.fnOf "__init__" "Walk.__init__" (defArgs s_Walk___init__) (defBody s_Walk___init__) (defScope s_Walk___init__) .none kV_Walk___init__ dc_Walk___init__ pm_Walk___init__ an_Walk___init__ cd_Walk___init__ ct_Walk___init__), sl_Walk___init__⟩)
    (c_Walk___init__ : PySem.W.codeIn K cd_Walk___init__ "Walk.__init__" = true)
    (k_Walk___init__ : PySem.W.keepIn K (.ref f_Walk___init__) = true)
    (a_Walk_mirrored : PySem.W.findIn K (.ref C_Walk) "mirrored" = some (some (.ref f_Walk_mirrored)))
    (i_Walk_mirrored : PySem.W.isFn K (.ref f_Walk_mirrored) = true)
    (l_Walk_mirrored : K.lookup f_Walk_mirrored = some ⟨oc_Walk_mirrored, od_Walk_mirrored, .func (PySem.W.fnOf "mirrored" "Walk.mirrored" (defArgs s_Walk_mirrored) (defBody s_Walk_mirrored) (defScope s_Walk_mirrored) .none kV_Walk_mirrored dc_Walk_mirrored pm_Walk_mirrored an_Walk_mirrored cd_Walk_mirrored ct_Walk_mirrored), sl_Walk_mirrored⟩)
    (c_Walk_mirrored : PySem.W.codeIn K cd_Walk_mirrored "Walk.mirrored" = true)
    (k_Walk_mirrored : PySem.W.keepIn K (.ref f_Walk_mirrored) = true)
    (a_Walk_of_laps : PySem.W.findIn K (.ref C_Walk) "of_laps" = some (some (.ref f_Walk_of_laps)))
    (i_Walk_of_laps : PySem.W.isFn K (.ref f_Walk_of_laps) = true)
    (l_Walk_of_laps : K.lookup f_Walk_of_laps = some ⟨oc_Walk_of_laps, od_Walk_of_laps, .func (PySem.W.fnOf "of_laps" "Walk.of_laps" (defArgs s_Walk_of_laps) (defBody s_Walk_of_laps) (defScope s_Walk_of_laps) .none kV_Walk_of_laps dc_Walk_of_laps pm_Walk_of_laps an_Walk_of_laps cd_Walk_of_laps ct_Walk_of_laps), sl_Walk_of_laps⟩)
    (c_Walk_of_laps : PySem.W.codeIn K cd_Walk_of_laps "Walk.of_laps" = true)
    (k_Walk_of_laps : PySem.W.keepIn K (.ref f_Walk_of_laps) = true)
    (a_Walk_marked_steps : PySem.W.findIn K (.ref C_Walk) "marked_steps" = some (some (.ref f_Walk_marked_steps)))
    (i_Walk_marked_steps : PySem.W.isFn K (.ref f_Walk_marked_steps) = true)
    (l_Walk_marked_steps : K.lookup f_Walk_marked_steps = some ⟨oc_Walk_marked_steps, od_Walk_marked_steps, .func (PySem.W.fnOf "marked_steps" "Walk.marked_steps" (defArgs s_Walk_marked_steps) (defBody s_Walk_marked_steps) (defScope s_Walk_marked_steps) .none kV_Walk_marked_steps dc_Walk_marked_steps pm_Walk_marked_steps an_Walk_marked_steps cd_Walk_marked_steps ct_Walk_marked_steps), sl_Walk_marked_steps⟩)
    (c_Walk_marked_steps : PySem.W.codeIn K cd_Walk_marked_steps "Walk.marked_steps" = true)
    (k_Walk_marked_steps : PySem.W.keepIn K (.ref f_Walk_marked_steps) = true)
    (a_Walk_cost : PySem.W.findIn K (.ref C_Walk) "cost" = some (some (.ref f_Walk_cost)))
    (i_Walk_cost : PySem.W.isFn K (.ref f_Walk_cost) = true)
    (l_Walk_cost : K.lookup f_Walk_cost = some ⟨oc_Walk_cost, od_Walk_cost, .func (PySem.W.fnOf "cost" "Walk.cost" (defArgs s_Walk_cost) (defBody s_Walk_cost) (defScope s_Walk_cost) .none kV_Walk_cost dc_Walk_cost pm_Walk_cost an_Walk_cost cd_Walk_cost ct_Walk_cost), sl_Walk_cost⟩)
    (c_Walk_cost : PySem.W.codeIn K cd_Walk_cost "Walk.cost" = true)
    (k_Walk_cost : PySem.W.keepIn K (.ref f_Walk_cost) = true)
    (a_Walk_steps_for : PySem.W.findIn K (.ref C_Walk) "steps_for" = some (some (.ref f_Walk_steps_for)))
    (i_Walk_steps_for : PySem.W.isFn K (.ref f_Walk_steps_for) = true)
    (l_Walk_steps_for : K.lookup f_Walk_steps_for = some ⟨oc_Walk_steps_for, od_Walk_steps_for, .func (PySem.W.fnOf "steps_for" "Walk.steps_for" (defArgs s_Walk_steps_for) (defBody s_Walk_steps_for) (defScope s_Walk_steps_for) .none kV_Walk_steps_for dc_Walk_steps_for pm_Walk_steps_for an_Walk_steps_for cd_Walk_steps_for ct_Walk_steps_for), sl_Walk_steps_for⟩)
    (c_Walk_steps_for : PySem.W.codeIn K cd_Walk_steps_for "Walk.steps_for" = true)
    (k_Walk_steps_for : PySem.W.keepIn K (.ref f_Walk_steps_for) = true)
    (a__steps_to_visit : PySem.W.nsIn K mainGlobals "_steps_to_visit" = some (some (.ref f__steps_to_visit)))
    (l__steps_to_visit : K.lookup f__steps_to_visit = some ⟨oc__steps_to_visit, od__steps_to_visit, .func (PySem.W.fnOf "_steps_to_visit" "_steps_to_visit" (defArgs s__steps_to_visit) (defBody s__steps_to_visit) (defScope s__steps_to_visit) .none kV__steps_to_visit dc__steps_to_visit pm__steps_to_visit an__steps_to_visit cd__steps_to_visit ct__steps_to_visit), sl__steps_to_visit⟩)
    (c__steps_to_visit : PySem.W.codeIn K cd__steps_to_visit "_steps_to_visit" = true)
    (k__steps_to_visit : PySem.W.keepIn K (.ref f__steps_to_visit) = true)
    (a_hit_at : PySem.W.nsIn K mainGlobals "hit_at" = some (some (.ref f_hit_at)))
    (l_hit_at : K.lookup f_hit_at = some ⟨oc_hit_at, od_hit_at, .func (PySem.W.fnOf "hit_at" "hit_at" (defArgs s_hit_at) (defBody s_hit_at) (defScope s_hit_at) .none kV_hit_at dc_hit_at pm_hit_at an_hit_at cd_hit_at ct_hit_at), sl_hit_at⟩)
    (c_hit_at : PySem.W.codeIn K cd_hit_at "hit_at" = true)
    (k_hit_at : PySem.W.keepIn K (.ref f_hit_at) = true)
    (a_is_integer : PySem.W.nsIn K mainGlobals "is_integer" = some (some (.ref f_is_integer)))
    (l_is_integer : K.lookup f_is_integer = some ⟨oc_is_integer, od_is_integer, .func (PySem.W.fnOf "is_integer" "is_integer" (defArgs s_is_integer) (defBody s_is_integer) (defScope s_is_integer) .none kV_is_integer dc_is_integer pm_is_integer an_is_integer cd_is_integer ct_is_integer), sl_is_integer⟩)
    (c_is_integer : PySem.W.codeIn K cd_is_integer "is_integer" = true)
    (k_is_integer : PySem.W.keepIn K (.ref f_is_integer) = true)
    (a_is_sixty_digits : PySem.W.nsIn K mainGlobals "is_sixty_digits" = some (some (.ref f_is_sixty_digits)))
    (l_is_sixty_digits : K.lookup f_is_sixty_digits = some ⟨oc_is_sixty_digits, od_is_sixty_digits, .func (PySem.W.fnOf "is_sixty_digits" "is_sixty_digits" (defArgs s_is_sixty_digits) (defBody s_is_sixty_digits) (defScope s_is_sixty_digits) .none kV_is_sixty_digits dc_is_sixty_digits pm_is_sixty_digits an_is_sixty_digits cd_is_sixty_digits ct_is_sixty_digits), sl_is_sixty_digits⟩)
    (c_is_sixty_digits : PySem.W.codeIn K cd_is_sixty_digits "is_sixty_digits" = true)
    (k_is_sixty_digits : PySem.W.keepIn K (.ref f_is_sixty_digits) = true)
    (a_check_sixty_digits : PySem.W.nsIn K mainGlobals "check_sixty_digits" = some (some (.ref f_check_sixty_digits)))
    (l_check_sixty_digits : K.lookup f_check_sixty_digits = some ⟨oc_check_sixty_digits, od_check_sixty_digits, .func (PySem.W.fnOf "check_sixty_digits" "check_sixty_digits" (defArgs s_check_sixty_digits) (defBody s_check_sixty_digits) (defScope s_check_sixty_digits) .none kV_check_sixty_digits dc_check_sixty_digits pm_check_sixty_digits an_check_sixty_digits cd_check_sixty_digits ct_check_sixty_digits), sl_check_sixty_digits⟩)
    (c_check_sixty_digits : PySem.W.codeIn K cd_check_sixty_digits "check_sixty_digits" = true)
    (k_check_sixty_digits : PySem.W.keepIn K (.ref f_check_sixty_digits) = true)
    (a_is_count : PySem.W.nsIn K mainGlobals "is_count" = some (some (.ref f_is_count)))
    (l_is_count : K.lookup f_is_count = some ⟨oc_is_count, od_is_count, .func (PySem.W.fnOf "is_count" "is_count" (defArgs s_is_count) (defBody s_is_count) (defScope s_is_count) .none kV_is_count dc_is_count pm_is_count an_is_count cd_is_count ct_is_count), sl_is_count⟩)
    (c_is_count : PySem.W.codeIn K cd_is_count "is_count" = true)
    (k_is_count : PySem.W.keepIn K (.ref f_is_count) = true)
    (a_check_number : PySem.W.nsIn K mainGlobals "check_number" = some (some (.ref f_check_number)))
    (l_check_number : K.lookup f_check_number = some ⟨oc_check_number, od_check_number, .func (PySem.W.fnOf "check_number" "check_number" (defArgs s_check_number) (defBody s_check_number) (defScope s_check_number) .none kV_check_number dc_check_number pm_check_number an_check_number cd_check_number ct_check_number), sl_check_number⟩)
    (c_check_number : PySem.W.codeIn K cd_check_number "check_number" = true)
    (k_check_number : PySem.W.keepIn K (.ref f_check_number) = true)
    (l_Kind___init__ : K.lookup f_Kind___init__ = some ⟨oc_Kind___init__, od_Kind___init__, .func (PySem.W.fnOf "__init__" "Kind.__init__" (defArgs s_Kind___init__) (defBody s_Kind___init__) (defScope s_Kind___init__) .none kV_Kind___init__ dc_Kind___init__ pm_Kind___init__ an_Kind___init__ cd_Kind___init__ ct_Kind___init__), sl_Kind___init__⟩)
    (c_Kind___init__ : PySem.W.codeIn K cd_Kind___init__ "Kind.__init__" = true)
    (k_Kind___init__ : PySem.W.keepIn K (.ref f_Kind___init__) = true)
    (a_check_kind : PySem.W.nsIn K mainGlobals "check_kind" = some (some (.ref f_check_kind)))
    (l_check_kind : K.lookup f_check_kind = some ⟨oc_check_kind, od_check_kind, .func (PySem.W.fnOf "check_kind" "check_kind" (defArgs s_check_kind) (defBody s_check_kind) (defScope s_check_kind) .none kV_check_kind dc_check_kind pm_check_kind an_check_kind cd_check_kind ct_check_kind), sl_check_kind⟩)
    (c_check_kind : PySem.W.codeIn K cd_check_kind "check_kind" = true)
    (k_check_kind : PySem.W.keepIn K (.ref f_check_kind) = true)
    (a_check_value : PySem.W.nsIn K mainGlobals "check_value" = some (some (.ref f_check_value)))
    (l_check_value : K.lookup f_check_value = some ⟨oc_check_value, od_check_value, .func (PySem.W.fnOf "check_value" "check_value" (defArgs s_check_value) (defBody s_check_value) (defScope s_check_value) .none kV_check_value dc_check_value pm_check_value an_check_value cd_check_value ct_check_value), sl_check_value⟩)
    (c_check_value : PySem.W.codeIn K cd_check_value "check_value" = true)
    (k_check_value : PySem.W.keepIn K (.ref f_check_value) = true)
    (a_least : PySem.W.nsIn K mainGlobals "least" = some (some (.ref f_least)))
    (l_least : K.lookup f_least = some ⟨oc_least, od_least, .func (PySem.W.fnOf "least" "least" (defArgs s_least) (defBody s_least) (defScope s_least) .none kV_least dc_least pm_least an_least cd_least ct_least), sl_least⟩)
    (c_least : PySem.W.codeIn K cd_least "least" = true)
    (k_least : PySem.W.keepIn K (.ref f_least) = true)
    (a_greatest : PySem.W.nsIn K mainGlobals "greatest" = some (some (.ref f_greatest)))
    (l_greatest : K.lookup f_greatest = some ⟨oc_greatest, od_greatest, .func (PySem.W.fnOf "greatest" "greatest" (defArgs s_greatest) (defBody s_greatest) (defScope s_greatest) .none kV_greatest dc_greatest pm_greatest an_greatest cd_greatest ct_greatest), sl_greatest⟩)
    (c_greatest : PySem.W.codeIn K cd_greatest "greatest" = true)
    (k_greatest : PySem.W.keepIn K (.ref f_greatest) = true)
    (a_is_value : PySem.W.nsIn K mainGlobals "is_value" = some (some (.ref f_is_value)))
    (l_is_value : K.lookup f_is_value = some ⟨oc_is_value, od_is_value, .func (PySem.W.fnOf "is_value" "is_value" (defArgs s_is_value) (defBody s_is_value) (defScope s_is_value) .none kV_is_value dc_is_value pm_is_value an_is_value cd_is_value ct_is_value), sl_is_value⟩)
    (c_is_value : PySem.W.codeIn K cd_is_value "is_value" = true)
    (k_is_value : PySem.W.keepIn K (.ref f_is_value) = true)
    (a_quotient_total : PySem.W.nsIn K mainGlobals "quotient_total" = some (some (.ref f_quotient_total)))
    (l_quotient_total : K.lookup f_quotient_total = some ⟨oc_quotient_total, od_quotient_total, .func (PySem.W.fnOf "quotient_total" "quotient_total" (defArgs s_quotient_total) (defBody s_quotient_total) (defScope s_quotient_total) .none kV_quotient_total dc_quotient_total pm_quotient_total an_quotient_total cd_quotient_total ct_quotient_total), sl_quotient_total⟩)
    (c_quotient_total : PySem.W.codeIn K cd_quotient_total "quotient_total" = true)
    (k_quotient_total : PySem.W.keepIn K (.ref f_quotient_total) = true)
    (a_total_between : PySem.W.nsIn K mainGlobals "total_between" = some (some (.ref f_total_between)))
    (l_total_between : K.lookup f_total_between = some ⟨oc_total_between, od_total_between, .func (PySem.W.fnOf "total_between" "total_between" (defArgs s_total_between) (defBody s_total_between) (defScope s_total_between) .none kV_total_between dc_total_between pm_total_between an_total_between cd_total_between ct_total_between), sl_total_between⟩)
    (c_total_between : PySem.W.codeIn K cd_total_between "total_between" = true)
    (k_total_between : PySem.W.keepIn K (.ref f_total_between) = true)
    (a_least_remainder : PySem.W.nsIn K mainGlobals "least_remainder" = some (some (.ref f_least_remainder)))
    (l_least_remainder : K.lookup f_least_remainder = some ⟨oc_least_remainder, od_least_remainder, .func (PySem.W.fnOf "least_remainder" "least_remainder" (defArgs s_least_remainder) (defBody s_least_remainder) (defScope s_least_remainder) .none kV_least_remainder dc_least_remainder pm_least_remainder an_least_remainder cd_least_remainder ct_least_remainder), sl_least_remainder⟩)
    (c_least_remainder : PySem.W.codeIn K cd_least_remainder "least_remainder" = true)
    (k_least_remainder : PySem.W.keepIn K (.ref f_least_remainder) = true)
    (a_check_line : PySem.W.nsIn K mainGlobals "check_line" = some (some (.ref f_check_line)))
    (l_check_line : K.lookup f_check_line = some ⟨oc_check_line, od_check_line, .func (PySem.W.fnOf "check_line" "check_line" (defArgs s_check_line) (defBody s_check_line) (defScope s_check_line) .none kV_check_line dc_check_line pm_check_line an_check_line cd_check_line ct_check_line), sl_check_line⟩)
    (c_check_line : PySem.W.codeIn K cd_check_line "check_line" = true)
    (k_check_line : PySem.W.keepIn K (.ref f_check_line) = true)
    (a_check_range : PySem.W.nsIn K mainGlobals "check_range" = some (some (.ref f_check_range)))
    (l_check_range : K.lookup f_check_range = some ⟨oc_check_range, od_check_range, .func (PySem.W.fnOf "check_range" "check_range" (defArgs s_check_range) (defBody s_check_range) (defScope s_check_range) .none kV_check_range dc_check_range pm_check_range an_check_range cd_check_range ct_check_range), sl_check_range⟩)
    (c_check_range : PySem.W.codeIn K cd_check_range "check_range" = true)
    (k_check_range : PySem.W.keepIn K (.ref f_check_range) = true)
    (a__check : PySem.W.nsIn K mainGlobals "_check" = some (some (.ref f__check)))
    (l__check : K.lookup f__check = some ⟨oc__check, od__check, .func (PySem.W.fnOf "_check" "_check" (defArgs s__check) (defBody s__check) (defScope s__check) .none kV__check dc__check pm__check an__check cd__check ct__check), sl__check⟩)
    (c__check : PySem.W.codeIn K cd__check "_check" = true)
    (k__check : PySem.W.keepIn K (.ref f__check) = true)
    (a__check_within : PySem.W.nsIn K mainGlobals "_check_within" = some (some (.ref f__check_within)))
    (l__check_within : K.lookup f__check_within = some ⟨oc__check_within, od__check_within, .func (PySem.W.fnOf "_check_within" "_check_within" (defArgs s__check_within) (defBody s__check_within) (defScope s__check_within) .none kV__check_within dc__check_within pm__check_within an__check_within cd__check_within ct__check_within), sl__check_within⟩)
    (c__check_within : PySem.W.codeIn K cd__check_within "_check_within" = true)
    (k__check_within : PySem.W.keepIn K (.ref f__check_within) = true)
    (a__total : PySem.W.nsIn K mainGlobals "_total" = some (some (.ref f__total)))
    (l__total : K.lookup f__total = some ⟨oc__total, od__total, .func (PySem.W.fnOf "_total" "_total" (defArgs s__total) (defBody s__total) (defScope s__total) .none kV__total dc__total pm__total an__total cd__total ct__total), sl__total⟩)
    (c__total : PySem.W.codeIn K cd__total "_total" = true)
    (k__total : PySem.W.keepIn K (.ref f__total) = true)
    (a__hit : PySem.W.nsIn K mainGlobals "_hit" = some (some (.ref f__hit)))
    (l__hit : K.lookup f__hit = some ⟨oc__hit, od__hit, .func (PySem.W.fnOf "_hit" "_hit" (defArgs s__hit) (defBody s__hit) (defScope s__hit) .none kV__hit dc__hit pm__hit an__hit cd__hit ct__hit), sl__hit⟩)
    (c__hit : PySem.W.codeIn K cd__hit "_hit" = true)
    (k__hit : PySem.W.keepIn K (.ref f__hit) = true)
    (a_total_within : PySem.W.nsIn K mainGlobals "total_within" = some (some (.ref f_total_within)))
    (l_total_within : K.lookup f_total_within = some ⟨oc_total_within, od_total_within, .func (PySem.W.fnOf "total_within" "total_within" (defArgs s_total_within) (defBody s_total_within) (defScope s_total_within) .none kV_total_within dc_total_within pm_total_within an_total_within cd_total_within ct_total_within), sl_total_within⟩)
    (c_total_within : PySem.W.codeIn K cd_total_within "total_within" = true)
    (k_total_within : PySem.W.keepIn K (.ref f_total_within) = true)
    (a_first_within : PySem.W.nsIn K mainGlobals "first_within" = some (some (.ref f_first_within)))
    (l_first_within : K.lookup f_first_within = some ⟨oc_first_within, od_first_within, .func (PySem.W.fnOf "first_within" "first_within" (defArgs s_first_within) (defBody s_first_within) (defScope s_first_within) .none kV_first_within dc_first_within pm_first_within an_first_within cd_first_within ct_first_within), sl_first_within⟩)
    (c_first_within : PySem.W.codeIn K cd_first_within "first_within" = true)
    (k_first_within : PySem.W.keepIn K (.ref f_first_within) = true)
    (a_within_at : PySem.W.nsIn K mainGlobals "within_at" = some (some (.ref f_within_at)))
    (l_within_at : K.lookup f_within_at = some ⟨oc_within_at, od_within_at, .func (PySem.W.fnOf "within_at" "within_at" (defArgs s_within_at) (defBody s_within_at) (defScope s_within_at) .none kV_within_at dc_within_at pm_within_at an_within_at cd_within_at ct_within_at), sl_within_at⟩)
    (c_within_at : PySem.W.codeIn K cd_within_at "within_at" = true)
    (k_within_at : PySem.W.keepIn K (.ref f_within_at) = true)
    (a_least_result : PySem.W.nsIn K mainGlobals "least_result" = some (some (.ref f_least_result)))
    (l_least_result : K.lookup f_least_result = some ⟨oc_least_result, od_least_result, .func (PySem.W.fnOf "least_result" "least_result" (defArgs s_least_result) (defBody s_least_result) (defScope s_least_result) .none kV_least_result dc_least_result pm_least_result an_least_result cd_least_result ct_least_result), sl_least_result⟩)
    (c_least_result : PySem.W.codeIn K cd_least_result "least_result" = true)
    (k_least_result : PySem.W.keepIn K (.ref f_least_result) = true)
    (a_greatest_result : PySem.W.nsIn K mainGlobals "greatest_result" = some (some (.ref f_greatest_result)))
    (l_greatest_result : K.lookup f_greatest_result = some ⟨oc_greatest_result, od_greatest_result, .func (PySem.W.fnOf "greatest_result" "greatest_result" (defArgs s_greatest_result) (defBody s_greatest_result) (defScope s_greatest_result) .none kV_greatest_result dc_greatest_result pm_greatest_result an_greatest_result cd_greatest_result ct_greatest_result), sl_greatest_result⟩)
    (c_greatest_result : PySem.W.codeIn K cd_greatest_result "greatest_result" = true)
    (k_greatest_result : PySem.W.keepIn K (.ref f_greatest_result) = true)
    (a__falling : PySem.W.nsIn K mainGlobals "_falling" = some (some (.ref f__falling)))
    (l__falling : K.lookup f__falling = some ⟨oc__falling, od__falling, .func (PySem.W.fnOf "_falling" "_falling" (defArgs s__falling) (defBody s__falling) (defScope s__falling) .none kV__falling dc__falling pm__falling an__falling cd__falling ct__falling), sl__falling⟩)
    (c__falling : PySem.W.codeIn K cd__falling "_falling" = true)
    (k__falling : PySem.W.keepIn K (.ref f__falling) = true)
    (a_descents : PySem.W.nsIn K mainGlobals "descents" = some (some (.ref f_descents)))
    (l_descents : K.lookup f_descents = some ⟨oc_descents, od_descents, .func (PySem.W.fnOf "descents" "descents" (defArgs s_descents) (defBody s_descents) (defScope s_descents) .none kV_descents dc_descents pm_descents an_descents cd_descents ct_descents), sl_descents⟩)
    (c_descents : PySem.W.codeIn K cd_descents "descents" = true)
    (k_descents : PySem.W.keepIn K (.ref f_descents) = true)
    (a__law_deck : PySem.W.nsIn K mainGlobals "_law_deck" = some (some (.ref f__law_deck)))
    (l__law_deck : K.lookup f__law_deck = some ⟨oc__law_deck, od__law_deck, .func (PySem.W.fnOf "_law_deck" "_law_deck" (defArgs s__law_deck) (defBody s__law_deck) (defScope s__law_deck) .none kV__law_deck dc__law_deck pm__law_deck an__law_deck cd__law_deck ct__law_deck), sl__law_deck⟩)
    (c__law_deck : PySem.W.codeIn K cd__law_deck "_law_deck" = true)
    (k__law_deck : PySem.W.keepIn K (.ref f__law_deck) = true)
    (a__law_deal : PySem.W.nsIn K mainGlobals "_law_deal" = some (some (.ref f__law_deal)))
    (l__law_deal : K.lookup f__law_deal = some ⟨oc__law_deal, od__law_deal, .func (PySem.W.fnOf "_law_deal" "_law_deal" (defArgs s__law_deal) (defBody s__law_deal) (defScope s__law_deal) .none kV__law_deal dc__law_deal pm__law_deal an__law_deal cd__law_deal ct__law_deal), sl__law_deal⟩)
    (c__law_deal : PySem.W.codeIn K cd__law_deal "_law_deal" = true)
    (k__law_deal : PySem.W.keepIn K (.ref f__law_deal) = true)
    (a__law_choice : PySem.W.nsIn K mainGlobals "_law_choice" = some (some (.ref f__law_choice)))
    (l__law_choice : K.lookup f__law_choice = some ⟨oc__law_choice, od__law_choice, .func (PySem.W.fnOf "_law_choice" "_law_choice" (defArgs s__law_choice) (defBody s__law_choice) (defScope s__law_choice) .none kV__law_choice dc__law_choice pm__law_choice an__law_choice cd__law_choice ct__law_choice), sl__law_choice⟩)
    (c__law_choice : PySem.W.codeIn K cd__law_choice "_law_choice" = true)
    (k__law_choice : PySem.W.keepIn K (.ref f__law_choice) = true)
    (a__law_great : PySem.W.nsIn K mainGlobals "_law_great" = some (some (.ref f__law_great)))
    (l__law_great : K.lookup f__law_great = some ⟨oc__law_great, od__law_great, .func (PySem.W.fnOf "_law_great" "_law_great" (defArgs s__law_great) (defBody s__law_great) (defScope s__law_great) .none kV__law_great dc__law_great pm__law_great an__law_great cd__law_great ct__law_great), sl__law_great⟩)
    (c__law_great : PySem.W.codeIn K cd__law_great "_law_great" = true)
    (k__law_great : PySem.W.keepIn K (.ref f__law_great) = true)
    (a__law_inverse : PySem.W.nsIn K mainGlobals "_law_inverse" = some (some (.ref f__law_inverse)))
    (l__law_inverse : K.lookup f__law_inverse = some ⟨oc__law_inverse, od__law_inverse, .func (PySem.W.fnOf "_law_inverse" "_law_inverse" (defArgs s__law_inverse) (defBody s__law_inverse) (defScope s__law_inverse) .none kV__law_inverse dc__law_inverse pm__law_inverse an__law_inverse cd__law_inverse ct__law_inverse), sl__law_inverse⟩)
    (c__law_inverse : PySem.W.codeIn K cd__law_inverse "_law_inverse" = true)
    (k__law_inverse : PySem.W.keepIn K (.ref f__law_inverse) = true)
    (a__law_there : PySem.W.nsIn K mainGlobals "_law_there" = some (some (.ref f__law_there)))
    (l__law_there : K.lookup f__law_there = some ⟨oc__law_there, od__law_there, .func (PySem.W.fnOf "_law_there" "_law_there" (defArgs s__law_there) (defBody s__law_there) (defScope s__law_there) .none kV__law_there dc__law_there pm__law_there an__law_there cd__law_there ct__law_there), sl__law_there⟩)
    (c__law_there : PySem.W.codeIn K cd__law_there "_law_there" = true)
    (k__law_there : PySem.W.keepIn K (.ref f__law_there) = true)
    (a__law_drawn : PySem.W.nsIn K mainGlobals "_law_drawn" = some (some (.ref f__law_drawn)))
    (l__law_drawn : K.lookup f__law_drawn = some ⟨oc__law_drawn, od__law_drawn, .func (PySem.W.fnOf "_law_drawn" "_law_drawn" (defArgs s__law_drawn) (defBody s__law_drawn) (defScope s__law_drawn) .none kV__law_drawn dc__law_drawn pm__law_drawn an__law_drawn cd__law_drawn ct__law_drawn), sl__law_drawn⟩)
    (c__law_drawn : PySem.W.codeIn K cd__law_drawn "_law_drawn" = true)
    (k__law_drawn : PySem.W.keepIn K (.ref f__law_drawn) = true)
    (a__law_right : PySem.W.nsIn K mainGlobals "_law_right" = some (some (.ref f__law_right)))
    (l__law_right : K.lookup f__law_right = some ⟨oc__law_right, od__law_right, .func (PySem.W.fnOf "_law_right" "_law_right" (defArgs s__law_right) (defBody s__law_right) (defScope s__law_right) .none kV__law_right dc__law_right pm__law_right an__law_right cd__law_right ct__law_right), sl__law_right⟩)
    (c__law_right : PySem.W.codeIn K cd__law_right "_law_right" = true)
    (k__law_right : PySem.W.keepIn K (.ref f__law_right) = true)
    (a__law_all_but_one_right : PySem.W.nsIn K mainGlobals "_law_all_but_one_right" = some (some (.ref f__law_all_but_one_right)))
    (l__law_all_but_one_right : K.lookup f__law_all_but_one_right = some ⟨oc__law_all_but_one_right, od__law_all_but_one_right, .func (PySem.W.fnOf "_law_all_but_one_right" "_law_all_but_one_right" (defArgs s__law_all_but_one_right) (defBody s__law_all_but_one_right) (defScope s__law_all_but_one_right) .none kV__law_all_but_one_right dc__law_all_but_one_right pm__law_all_but_one_right an__law_all_but_one_right cd__law_all_but_one_right ct__law_all_but_one_right), sl__law_all_but_one_right⟩)
    (c__law_all_but_one_right : PySem.W.codeIn K cd__law_all_but_one_right "_law_all_but_one_right" = true)
    (k__law_all_but_one_right : PySem.W.keepIn K (.ref f__law_all_but_one_right) = true)
    (a_law : PySem.W.nsIn K mainGlobals "law" = some (some (.ref f_law)))
    (l_law : K.lookup f_law = some ⟨oc_law, od_law, .func (PySem.W.fnOf "law" "law" (defArgs s_law) (defBody s_law) (defScope s_law) .none kV_law dc_law pm_law an_law cd_law ct_law), sl_law⟩)
    (c_law : PySem.W.codeIn K cd_law "law" = true)
    (k_law : PySem.W.keepIn K (.ref f_law) = true)
    (v_BEYOND_SIXTY_DIGITS : PySem.W.nsIn K mainGlobals "BEYOND_SIXTY_DIGITS" = some (some (.int 1000000000000000000000000000000000000000000000000000000000000 t_BEYOND_SIXTY_DIGITS)))
    (v_MOST_BITS : PySem.W.nsIn K mainGlobals "MOST_BITS" = some (some (.int 128 t_MOST_BITS)))
    (z_abs : PySem.W.nsIn K mainGlobals "abs" = some none)
    (z_bool : PySem.W.nsIn K mainGlobals "bool" = some none)
    (z_divmod : PySem.W.nsIn K mainGlobals "divmod" = some none)
    (z_int : PySem.W.nsIn K mainGlobals "int" = some none)
    (z_isinstance : PySem.W.nsIn K mainGlobals "isinstance" = some none)
    (z_len : PySem.W.nsIn K mainGlobals "len" = some none)
    (z_max : PySem.W.nsIn K mainGlobals "max" = some none)
    (z_min : PySem.W.nsIn K mainGlobals "min" = some none)
    (z_range : PySem.W.nsIn K mainGlobals "range" = some none)
    (z_reversed : PySem.W.nsIn K mainGlobals "reversed" = some none)
    (z_tuple : PySem.W.nsIn K mainGlobals "tuple" = some none)
    : Nonempty (Txt K mg) := by
  have F_Walk___init__ := fun_mk (st := s_Walk___init__) l_Walk___init__ c_Walk___init__ k_Walk___init__
  have b_Walk___init__ := F_Walk___init__.binds (ps := ["self", "size", "step", "marks", "each", "marked", "around"]) fun _ _ _ _ _ _ us hl => match us, hl with | [_, _, _, _, _, _, _], _ => rfl
  have F_Walk_mirrored := fun_mk (st := s_Walk_mirrored) l_Walk_mirrored c_Walk_mirrored k_Walk_mirrored
  have b_Walk_mirrored := F_Walk_mirrored.binds (ps := ["self"]) fun _ _ _ _ _ _ us hl => match us, hl with | [_], _ => rfl
  have F_Walk_of_laps := fun_mk (st := s_Walk_of_laps) l_Walk_of_laps c_Walk_of_laps k_Walk_of_laps
  have b_Walk_of_laps := F_Walk_of_laps.binds (ps := ["self"]) fun _ _ _ _ _ _ us hl => match us, hl with | [_], _ => rfl
  have F_Walk_marked_steps := fun_mk (st := s_Walk_marked_steps) l_Walk_marked_steps c_Walk_marked_steps k_Walk_marked_steps
  have b_Walk_marked_steps := F_Walk_marked_steps.binds (ps := ["self", "begin"]) fun _ _ _ _ _ _ us hl => match us, hl with | [_, _], _ => rfl
  have F_Walk_cost := fun_mk (st := s_Walk_cost) l_Walk_cost c_Walk_cost k_Walk_cost
  have b_Walk_cost := F_Walk_cost.binds (ps := ["self", "begin", "steps"]) fun _ _ _ _ _ _ us hl => match us, hl with | [_, _, _], _ => rfl
  have F_Walk_steps_for := fun_mk (st := s_Walk_steps_for) l_Walk_steps_for c_Walk_steps_for k_Walk_steps_for
  have b_Walk_steps_for := F_Walk_steps_for.binds (ps := ["self", "begin", "budget"]) fun _ _ _ _ _ _ us hl => match us, hl with | [_, _, _], _ => rfl
  have F__steps_to_visit := fun_mk (st := s__steps_to_visit) l__steps_to_visit c__steps_to_visit k__steps_to_visit
  have b__steps_to_visit := F__steps_to_visit.binds (ps := ["size", "step", "marks", "place", "j"]) fun _ _ _ _ _ _ us hl => match us, hl with | [_, _, _, _, _], _ => rfl
  have F_hit_at := fun_mk (st := s_hit_at) l_hit_at c_hit_at k_hit_at
  have b_hit_at := F_hit_at.binds (ps := ["line", "size", "first", "low", "high", "j"]) fun _ _ _ _ _ _ us hl => match us, hl with | [_, _, _, _, _, _], _ => rfl
  have F_is_integer := fun_mk (st := s_is_integer) l_is_integer c_is_integer k_is_integer
  have b_is_integer := F_is_integer.binds (ps := ["value"]) fun _ _ _ _ _ _ us hl => match us, hl with | [_], _ => rfl
  have F_is_sixty_digits := fun_mk (st := s_is_sixty_digits) l_is_sixty_digits c_is_sixty_digits k_is_sixty_digits
  have b_is_sixty_digits := F_is_sixty_digits.binds (ps := ["value"]) fun _ _ _ _ _ _ us hl => match us, hl with | [_], _ => rfl
  have F_check_sixty_digits := fun_mk (st := s_check_sixty_digits) l_check_sixty_digits c_check_sixty_digits k_check_sixty_digits
  have b_check_sixty_digits := F_check_sixty_digits.binds (ps := ["value", "argument"]) fun _ _ _ _ _ _ us hl => match us, hl with | [_, _], _ => rfl
  have F_is_count := fun_mk (st := s_is_count) l_is_count c_is_count k_is_count
  have b_is_count := F_is_count.binds (ps := ["value"]) fun _ _ _ _ _ _ us hl => match us, hl with | [_], _ => rfl
  have F_check_number := fun_mk (st := s_check_number) l_check_number c_check_number k_check_number
  have b_check_number := F_check_number.binds (ps := ["j", "total"]) fun _ _ _ _ _ _ us hl => match us, hl with | [_, _], _ => rfl
  have F_Kind___init__ := fun_mk (st := s_Kind___init__) l_Kind___init__ c_Kind___init__ k_Kind___init__
  have b_Kind___init__ := F_Kind___init__.binds (ps := ["self", "bits", "is_signed"]) fun _ _ _ _ _ _ us hl => match us, hl with | [_, _, _], _ => rfl
  have F_check_kind := fun_mk (st := s_check_kind) l_check_kind c_check_kind k_check_kind
  have b_check_kind := F_check_kind.binds (ps := ["kind"]) fun _ _ _ _ _ _ us hl => match us, hl with | [_], _ => rfl
  have F_check_value := fun_mk (st := s_check_value) l_check_value c_check_value k_check_value
  have b_check_value := F_check_value.binds (ps := ["kind", "x", "argument"]) fun _ _ _ _ _ _ us hl => match us, hl with | [_, _, _], _ => rfl
  have F_least := fun_mk (st := s_least) l_least c_least k_least
  have b_least := F_least.binds (ps := ["kind"]) fun _ _ _ _ _ _ us hl => match us, hl with | [_], _ => rfl
  have F_greatest := fun_mk (st := s_greatest) l_greatest c_greatest k_greatest
  have b_greatest := F_greatest.binds (ps := ["kind"]) fun _ _ _ _ _ _ us hl => match us, hl with | [_], _ => rfl
  have F_is_value := fun_mk (st := s_is_value) l_is_value c_is_value k_is_value
  have b_is_value := F_is_value.binds (ps := ["kind", "x"]) fun _ _ _ _ _ _ us hl => match us, hl with | [_, _], _ => rfl
  have F_quotient_total := fun_mk (st := s_quotient_total) l_quotient_total c_quotient_total k_quotient_total
  have b_quotient_total := F_quotient_total.binds (ps := ["line", "size", "first", "last"]) fun _ _ _ _ _ _ us hl => match us, hl with | [_, _, _, _], _ => rfl
  have F_total_between := fun_mk (st := s_total_between) l_total_between c_total_between k_total_between
  have b_total_between := F_total_between.binds (ps := ["line", "size", "first", "last", "low", "high"]) fun _ _ _ _ _ _ us hl => match us, hl with | [_, _, _, _, _, _], _ => rfl
  have F_least_remainder := fun_mk (st := s_least_remainder) l_least_remainder c_least_remainder k_least_remainder
  have b_least_remainder := F_least_remainder.binds (ps := ["line", "size", "first", "last"]) fun _ _ _ _ _ _ us hl => match us, hl with | [_, _, _, _], _ => rfl
  have F_check_line := fun_mk (st := s_check_line) l_check_line c_check_line k_check_line
  have b_check_line := F_check_line.binds (ps := ["line", "argument"]) fun _ _ _ _ _ _ us hl => match us, hl with | [_, _], _ => rfl
  have F_check_range := fun_mk (st := s_check_range) l_check_range c_check_range k_check_range
  have b_check_range := F_check_range.binds (ps := ["first", "last"]) fun _ _ _ _ _ _ us hl => match us, hl with | [_, _], _ => rfl
  have F__check := fun_mk (st := s__check) l__check c__check k__check
  have b__check := F__check.binds (ps := ["kind", "line", "first", "last"]) fun _ _ _ _ _ _ us hl => match us, hl with | [_, _, _, _], _ => rfl
  have F__check_within := fun_mk (st := s__check_within) l__check_within c__check_within k__check_within
  have b__check_within := F__check_within.binds (ps := ["kind", "line", "first", "last", "low", "high"]) fun _ _ _ _ _ _ us hl => match us, hl with | [_, _, _, _, _, _], _ => rfl
  have F__total := fun_mk (st := s__total) l__total c__total k__total
  have b__total := F__total.binds (ps := ["kind", "line", "first", "last", "low", "high"]) fun _ _ _ _ _ _ us hl => match us, hl with | [_, _, _, _, _, _], _ => rfl
  have F__hit := fun_mk (st := s__hit) l__hit c__hit k__hit
  have b__hit := F__hit.binds (ps := ["kind", "line", "first", "low", "high", "j"]) fun _ _ _ _ _ _ us hl => match us, hl with | [_, _, _, _, _, _], _ => rfl
  have F_total_within := fun_mk (st := s_total_within) l_total_within c_total_within k_total_within
  have b_total_within := F_total_within.binds (ps := ["kind", "line", "first", "last", "low", "high"]) fun _ _ _ _ _ _ us hl => match us, hl with | [_, _, _, _, _, _], _ => rfl
  have F_first_within := fun_mk (st := s_first_within) l_first_within c_first_within k_first_within
  have b_first_within := F_first_within.binds (ps := ["kind", "line", "first", "last", "low", "high"]) fun _ _ _ _ _ _ us hl => match us, hl with | [_, _, _, _, _, _], _ => rfl
  have F_within_at := fun_mk (st := s_within_at) l_within_at c_within_at k_within_at
  have b_within_at := F_within_at.binds (ps := ["kind", "line", "first", "last", "low", "high", "j"]) fun _ _ _ _ _ _ us hl => match us, hl with | [_, _, _, _, _, _, _], _ => rfl
  have F_least_result := fun_mk (st := s_least_result) l_least_result c_least_result k_least_result
  have b_least_result := F_least_result.binds (ps := ["kind", "line", "first", "last"]) fun _ _ _ _ _ _ us hl => match us, hl with | [_, _, _, _], _ => rfl
  have F_greatest_result := fun_mk (st := s_greatest_result) l_greatest_result c_greatest_result k_greatest_result
  have b_greatest_result := F_greatest_result.binds (ps := ["kind", "line", "first", "last"]) fun _ _ _ _ _ _ us hl => match us, hl with | [_, _, _, _], _ => rfl
  have F__falling := fun_mk (st := s__falling) l__falling c__falling k__falling
  have b__falling := F__falling.binds (ps := ["kind", "line"]) fun _ _ _ _ _ _ us hl => match us, hl with | [_, _], _ => rfl
  have F_descents := fun_mk (st := s_descents) l_descents c_descents k_descents
  have b_descents := F_descents.binds (ps := ["kind", "line", "first", "last"]) fun _ _ _ _ _ _ us hl => match us, hl with | [_, _, _, _], _ => rfl
  have F__law_deck := fun_mk (st := s__law_deck) l__law_deck c__law_deck k__law_deck
  have b__law_deck := F__law_deck.binds (ps := ["_law_cell"]) fun _ _ _ _ _ _ us hl => match us, hl with | [_], _ => rfl
  have F__law_deal := fun_mk (st := s__law_deal) l__law_deal c__law_deal k__law_deal
  have b__law_deal := F__law_deal.binds (ps := ["_law_deck_here", "_law_many"]) fun _ _ _ _ _ _ us hl => match us, hl with | [_, _], _ => rfl
  have F__law_choice := fun_mk (st := s__law_choice) l__law_choice c__law_choice k__law_choice
  have b__law_choice := F__law_choice.binds (ps := ["_law_deck_here", "_law_some"]) fun _ _ _ _ _ _ us hl => match us, hl with | [_, _], _ => rfl
  have F__law_great := fun_mk (st := s__law_great) l__law_great c__law_great k__law_great
  have b__law_great := F__law_great.binds (ps := ["_law_deck_here", "_law_most"]) fun _ _ _ _ _ _ us hl => match us, hl with | [_, _], _ => rfl
  have F__law_inverse := fun_mk (st := s__law_inverse) l__law_inverse c__law_inverse k__law_inverse
  have b__law_inverse := F__law_inverse.binds (ps := ["_law_n", "_law_bits"]) fun _ _ _ _ _ _ us hl => match us, hl with | [_, _], _ => rfl
  have F__law_there := fun_mk (st := s__law_there) l__law_there c__law_there k__law_there
  have b__law_there := F__law_there.binds (ps := ["_law_parts", "_law_far", "_law_begin"]) fun _ _ _ _ _ _ us hl => match us, hl with | [_, _, _], _ => rfl
  have F__law_drawn := fun_mk (st := s__law_drawn) l__law_drawn c__law_drawn k__law_drawn
  have b__law_drawn := F__law_drawn.binds (ps := ["_law_deck_here"]) fun _ _ _ _ _ _ us hl => match us, hl with | [_], _ => rfl
  have F__law_right := fun_mk (st := s__law_right) l__law_right c__law_right k__law_right
  have b__law_right := F__law_right.binds (ps := ["_law_deck_here"]) fun _ _ _ _ _ _ us hl => match us, hl with | [_], _ => rfl
  have F__law_all_but_one_right := fun_mk (st := s__law_all_but_one_right) l__law_all_but_one_right c__law_all_but_one_right k__law_all_but_one_right
  have b__law_all_but_one_right := F__law_all_but_one_right.binds (ps := ["_law_deck_here"]) fun _ _ _ _ _ _ us hl => match us, hl with | [_], _ => rfl
  have F_law := fun_mk (st := s_law) l_law c_law k_law
  have b_law := F_law.binds (ps := ["_law_script"]) fun _ _ _ _ _ _ us hl => match us, hl with | [_], _ => rfl
  exact ⟨{
    C_Walk := C_Walk
    cl_Walk := ⟨pg_Walk, hd_Walk, po_Walk, sa_Walk⟩
    g_Walk := PySem.W.mg_of X G aC_Walk
    na_Walk_size := na_Walk_size
    na_Walk_step := na_Walk_step
    na_Walk_marks := na_Walk_marks
    na_Walk_each := na_Walk_each
    na_Walk_marked := na_Walk_marked
    na_Walk_around := na_Walk_around
    ia_Walk := ia_Walk
    ib_Walk := ib_Walk
    ic_Walk := ic_Walk
    id_Walk := id_Walk
    mk_Walk := ⟨mkk_Walk, a_Walk___init__, i_Walk___init__, kc_Walk⟩
    C_Kind := C_Kind
    cl_Kind := ⟨pg_Kind, hd_Kind, po_Kind, sa_Kind⟩
    g_Kind := PySem.W.mg_of X G aC_Kind
    na_Kind_bits := na_Kind_bits
    na_Kind_is_signed := na_Kind_is_signed
    ia_Kind := ia_Kind
    ib_Kind := ib_Kind
    ic_Kind := ic_Kind
    id_Kind := id_Kind
    mk_Kind := ⟨mkk_Kind, a_Kind___init__, i_Kind___init__, kc_Kind⟩
    f_Walk___init__ := f_Walk___init__
    fd_Walk___init__ := _
    F_Walk___init__ := F_Walk___init__
    b_Walk___init__ := b_Walk___init__
    m_Walk_mirrored := ⟨a_Walk_mirrored, i_Walk_mirrored, k_Walk_mirrored⟩
    f_Walk_mirrored := f_Walk_mirrored
    fd_Walk_mirrored := _
    F_Walk_mirrored := F_Walk_mirrored
    b_Walk_mirrored := b_Walk_mirrored
    m_Walk_of_laps := ⟨a_Walk_of_laps, i_Walk_of_laps, k_Walk_of_laps⟩
    f_Walk_of_laps := f_Walk_of_laps
    fd_Walk_of_laps := _
    F_Walk_of_laps := F_Walk_of_laps
    b_Walk_of_laps := b_Walk_of_laps
    m_Walk_marked_steps := ⟨a_Walk_marked_steps, i_Walk_marked_steps, k_Walk_marked_steps⟩
    f_Walk_marked_steps := f_Walk_marked_steps
    fd_Walk_marked_steps := _
    F_Walk_marked_steps := F_Walk_marked_steps
    b_Walk_marked_steps := b_Walk_marked_steps
    m_Walk_cost := ⟨a_Walk_cost, i_Walk_cost, k_Walk_cost⟩
    f_Walk_cost := f_Walk_cost
    fd_Walk_cost := _
    F_Walk_cost := F_Walk_cost
    b_Walk_cost := b_Walk_cost
    m_Walk_steps_for := ⟨a_Walk_steps_for, i_Walk_steps_for, k_Walk_steps_for⟩
    f_Walk_steps_for := f_Walk_steps_for
    fd_Walk_steps_for := _
    F_Walk_steps_for := F_Walk_steps_for
    b_Walk_steps_for := b_Walk_steps_for
    f__steps_to_visit := f__steps_to_visit
    fd__steps_to_visit := _
    F__steps_to_visit := F__steps_to_visit
    b__steps_to_visit := b__steps_to_visit
    g__steps_to_visit := PySem.W.mg_of X G a__steps_to_visit
    k__steps_to_visit := k__steps_to_visit
    f_hit_at := f_hit_at
    fd_hit_at := _
    F_hit_at := F_hit_at
    b_hit_at := b_hit_at
    g_hit_at := PySem.W.mg_of X G a_hit_at
    k_hit_at := k_hit_at
    f_is_integer := f_is_integer
    fd_is_integer := _
    F_is_integer := F_is_integer
    b_is_integer := b_is_integer
    g_is_integer := PySem.W.mg_of X G a_is_integer
    k_is_integer := k_is_integer
    f_is_sixty_digits := f_is_sixty_digits
    fd_is_sixty_digits := _
    F_is_sixty_digits := F_is_sixty_digits
    b_is_sixty_digits := b_is_sixty_digits
    g_is_sixty_digits := PySem.W.mg_of X G a_is_sixty_digits
    k_is_sixty_digits := k_is_sixty_digits
    f_check_sixty_digits := f_check_sixty_digits
    fd_check_sixty_digits := _
    F_check_sixty_digits := F_check_sixty_digits
    b_check_sixty_digits := b_check_sixty_digits
    g_check_sixty_digits := PySem.W.mg_of X G a_check_sixty_digits
    k_check_sixty_digits := k_check_sixty_digits
    f_is_count := f_is_count
    fd_is_count := _
    F_is_count := F_is_count
    b_is_count := b_is_count
    g_is_count := PySem.W.mg_of X G a_is_count
    k_is_count := k_is_count
    f_check_number := f_check_number
    fd_check_number := _
    F_check_number := F_check_number
    b_check_number := b_check_number
    g_check_number := PySem.W.mg_of X G a_check_number
    k_check_number := k_check_number
    f_Kind___init__ := f_Kind___init__
    fd_Kind___init__ := _
    F_Kind___init__ := F_Kind___init__
    b_Kind___init__ := b_Kind___init__
    f_check_kind := f_check_kind
    fd_check_kind := _
    F_check_kind := F_check_kind
    b_check_kind := b_check_kind
    g_check_kind := PySem.W.mg_of X G a_check_kind
    k_check_kind := k_check_kind
    f_check_value := f_check_value
    fd_check_value := _
    F_check_value := F_check_value
    b_check_value := b_check_value
    g_check_value := PySem.W.mg_of X G a_check_value
    k_check_value := k_check_value
    f_least := f_least
    fd_least := _
    F_least := F_least
    b_least := b_least
    g_least := PySem.W.mg_of X G a_least
    k_least := k_least
    f_greatest := f_greatest
    fd_greatest := _
    F_greatest := F_greatest
    b_greatest := b_greatest
    g_greatest := PySem.W.mg_of X G a_greatest
    k_greatest := k_greatest
    f_is_value := f_is_value
    fd_is_value := _
    F_is_value := F_is_value
    b_is_value := b_is_value
    g_is_value := PySem.W.mg_of X G a_is_value
    k_is_value := k_is_value
    f_quotient_total := f_quotient_total
    fd_quotient_total := _
    F_quotient_total := F_quotient_total
    b_quotient_total := b_quotient_total
    g_quotient_total := PySem.W.mg_of X G a_quotient_total
    k_quotient_total := k_quotient_total
    f_total_between := f_total_between
    fd_total_between := _
    F_total_between := F_total_between
    b_total_between := b_total_between
    g_total_between := PySem.W.mg_of X G a_total_between
    k_total_between := k_total_between
    f_least_remainder := f_least_remainder
    fd_least_remainder := _
    F_least_remainder := F_least_remainder
    b_least_remainder := b_least_remainder
    g_least_remainder := PySem.W.mg_of X G a_least_remainder
    k_least_remainder := k_least_remainder
    f_check_line := f_check_line
    fd_check_line := _
    F_check_line := F_check_line
    b_check_line := b_check_line
    g_check_line := PySem.W.mg_of X G a_check_line
    k_check_line := k_check_line
    f_check_range := f_check_range
    fd_check_range := _
    F_check_range := F_check_range
    b_check_range := b_check_range
    g_check_range := PySem.W.mg_of X G a_check_range
    k_check_range := k_check_range
    f__check := f__check
    fd__check := _
    F__check := F__check
    b__check := b__check
    g__check := PySem.W.mg_of X G a__check
    k__check := k__check
    f__check_within := f__check_within
    fd__check_within := _
    F__check_within := F__check_within
    b__check_within := b__check_within
    g__check_within := PySem.W.mg_of X G a__check_within
    k__check_within := k__check_within
    f__total := f__total
    fd__total := _
    F__total := F__total
    b__total := b__total
    g__total := PySem.W.mg_of X G a__total
    k__total := k__total
    f__hit := f__hit
    fd__hit := _
    F__hit := F__hit
    b__hit := b__hit
    g__hit := PySem.W.mg_of X G a__hit
    k__hit := k__hit
    f_total_within := f_total_within
    fd_total_within := _
    F_total_within := F_total_within
    b_total_within := b_total_within
    g_total_within := PySem.W.mg_of X G a_total_within
    k_total_within := k_total_within
    f_first_within := f_first_within
    fd_first_within := _
    F_first_within := F_first_within
    b_first_within := b_first_within
    g_first_within := PySem.W.mg_of X G a_first_within
    k_first_within := k_first_within
    f_within_at := f_within_at
    fd_within_at := _
    F_within_at := F_within_at
    b_within_at := b_within_at
    g_within_at := PySem.W.mg_of X G a_within_at
    k_within_at := k_within_at
    f_least_result := f_least_result
    fd_least_result := _
    F_least_result := F_least_result
    b_least_result := b_least_result
    g_least_result := PySem.W.mg_of X G a_least_result
    k_least_result := k_least_result
    f_greatest_result := f_greatest_result
    fd_greatest_result := _
    F_greatest_result := F_greatest_result
    b_greatest_result := b_greatest_result
    g_greatest_result := PySem.W.mg_of X G a_greatest_result
    k_greatest_result := k_greatest_result
    f__falling := f__falling
    fd__falling := _
    F__falling := F__falling
    b__falling := b__falling
    g__falling := PySem.W.mg_of X G a__falling
    k__falling := k__falling
    f_descents := f_descents
    fd_descents := _
    F_descents := F_descents
    b_descents := b_descents
    g_descents := PySem.W.mg_of X G a_descents
    k_descents := k_descents
    f__law_deck := f__law_deck
    fd__law_deck := _
    F__law_deck := F__law_deck
    b__law_deck := b__law_deck
    g__law_deck := PySem.W.mg_of X G a__law_deck
    k__law_deck := k__law_deck
    f__law_deal := f__law_deal
    fd__law_deal := _
    F__law_deal := F__law_deal
    b__law_deal := b__law_deal
    g__law_deal := PySem.W.mg_of X G a__law_deal
    k__law_deal := k__law_deal
    f__law_choice := f__law_choice
    fd__law_choice := _
    F__law_choice := F__law_choice
    b__law_choice := b__law_choice
    g__law_choice := PySem.W.mg_of X G a__law_choice
    k__law_choice := k__law_choice
    f__law_great := f__law_great
    fd__law_great := _
    F__law_great := F__law_great
    b__law_great := b__law_great
    g__law_great := PySem.W.mg_of X G a__law_great
    k__law_great := k__law_great
    f__law_inverse := f__law_inverse
    fd__law_inverse := _
    F__law_inverse := F__law_inverse
    b__law_inverse := b__law_inverse
    g__law_inverse := PySem.W.mg_of X G a__law_inverse
    k__law_inverse := k__law_inverse
    f__law_there := f__law_there
    fd__law_there := _
    F__law_there := F__law_there
    b__law_there := b__law_there
    g__law_there := PySem.W.mg_of X G a__law_there
    k__law_there := k__law_there
    f__law_drawn := f__law_drawn
    fd__law_drawn := _
    F__law_drawn := F__law_drawn
    b__law_drawn := b__law_drawn
    g__law_drawn := PySem.W.mg_of X G a__law_drawn
    k__law_drawn := k__law_drawn
    f__law_right := f__law_right
    fd__law_right := _
    F__law_right := F__law_right
    b__law_right := b__law_right
    g__law_right := PySem.W.mg_of X G a__law_right
    k__law_right := k__law_right
    f__law_all_but_one_right := f__law_all_but_one_right
    fd__law_all_but_one_right := _
    F__law_all_but_one_right := F__law_all_but_one_right
    b__law_all_but_one_right := b__law_all_but_one_right
    g__law_all_but_one_right := PySem.W.mg_of X G a__law_all_but_one_right
    k__law_all_but_one_right := k__law_all_but_one_right
    f_law := f_law
    fd_law := _
    F_law := F_law
    b_law := b_law
    g_law := PySem.W.mg_of X G a_law
    k_law := k_law
    t_BEYOND_SIXTY_DIGITS := t_BEYOND_SIXTY_DIGITS
    g_BEYOND_SIXTY_DIGITS := PySem.W.mg_of X G v_BEYOND_SIXTY_DIGITS
    t_MOST_BITS := t_MOST_BITS
    g_MOST_BITS := PySem.W.mg_of X G v_MOST_BITS
    n_abs := PySem.W.mg_none_of X G z_abs
    n_bool := PySem.W.mg_none_of X G z_bool
    n_divmod := PySem.W.mg_none_of X G z_divmod
    n_int := PySem.W.mg_none_of X G z_int
    n_isinstance := PySem.W.mg_none_of X G z_isinstance
    n_len := PySem.W.mg_none_of X G z_len
    n_max := PySem.W.mg_none_of X G z_max
    n_min := PySem.W.mg_none_of X G z_min
    n_range := PySem.W.mg_none_of X G z_range
    n_reversed := PySem.W.mg_none_of X G z_reversed
    n_tuple := PySem.W.mg_none_of X G z_tuple
    bl_law := fun s v => .of_eq rfl }⟩
theorem walk {l : PySem.W.OpenLaw} {q : Program} {loose : List Str} {XP : (Str → Option Value) → Heap → Prop} {YP : World → Heap → Prop} {d : DefRec} {K : Params → PySem.W.Frag} (hn : l.most = some 63) (hdf : d.params.defaults = []) (hnm : d.name = "law")
    (hY : ∀ (w : World) (h : Heap), YP w h → (K w.params).In h)
    (F : ∀ (w : World) (mg : Str → Option Value) (h : Heap), (K w.params).In h → h.Ns mainGlobals mg → Nonempty (Txt (K w.params) mg)) :
    PySem.W.WalkO q loose XP YP l.row.toRowW d [] (fun f vs => PySem.call f vs) :=
  L2.walk_of (n := 63) (k := 9) (x := "_law_script") (CX := fun _ => CX0) (sp := fun w => sp_law (K w.params) 0 0 []) hn (by decide) hdf ⟨rfl, by decide, by decide⟩ hY
    (fun w mg fa h KX G hm => by
      obtain ⟨T⟩ := F w mg h KX G
      have e : T.f_law = fa := by
        have q := T.g_law.symm.trans (hnm ▸ hm)
        cases q; rfl
      subst e
      exact ⟨T.fd_law, T.bl_law, fun base _ _ => ok_law T⟩)
    (fun _ _ a ns hl _ hS => ⟨a, ns, rfl, hS, hl, (fun b hb => by cases hb), fun _ => rfl⟩) fun _ _ _ _ _ z => z
end Fw
open PySem PySem.W PyProof.Rows
set_option maxRecDepth 100000 in
set_option maxHeartbeats 0 in
theorem PySem.Challenge.cw_farwrap_k10_whole_turns_of_great_kinds_holds : PySem.Challenge.rw_farwrap_k10_whole_turns_of_great_kinds.Holds := by
  w_on; o_law; k_head; (case hw => w_witness2)
  k_fill
  refine Fw.walk (l := PySem.Challenge.rw_farwrap_k10_whole_turns_of_great_kinds) rfl rfl rfl (fun w h Y => PySem.W.kIn_of Y) ?F
  case F =>
    intro w mg h KX G
    refine' Fw.mk_txt KX G ?aC_Walk ?a_Walk___init__ ?i_Walk___init__ ?pg_Walk ?hd_Walk ?po_Walk ?sa_Walk ?mkk_Walk ?kc_Walk ?na_Walk_size ?na_Walk_step ?na_Walk_marks ?na_Walk_each ?na_Walk_marked ?na_Walk_around ?ia_Walk ?ib_Walk ?ic_Walk ?id_Walk ?aC_Kind ?a_Kind___init__ ?i_Kind___init__ ?pg_Kind ?hd_Kind ?po_Kind ?sa_Kind ?mkk_Kind ?kc_Kind ?na_Kind_bits ?na_Kind_is_signed ?ia_Kind ?ib_Kind ?ic_Kind ?id_Kind ?l_Walk___init__ ?c_Walk___init__ ?k_Walk___init__ ?a_Walk_mirrored ?i_Walk_mirrored ?l_Walk_mirrored ?c_Walk_mirrored ?k_Walk_mirrored ?a_Walk_of_laps ?i_Walk_of_laps ?l_Walk_of_laps ?c_Walk_of_laps ?k_Walk_of_laps ?a_Walk_marked_steps ?i_Walk_marked_steps ?l_Walk_marked_steps ?c_Walk_marked_steps ?k_Walk_marked_steps ?a_Walk_cost ?i_Walk_cost ?l_Walk_cost ?c_Walk_cost ?k_Walk_cost ?a_Walk_steps_for ?i_Walk_steps_for ?l_Walk_steps_for ?c_Walk_steps_for ?k_Walk_steps_for ?a__steps_to_visit ?l__steps_to_visit ?c__steps_to_visit ?k__steps_to_visit ?a_hit_at ?l_hit_at ?c_hit_at ?k_hit_at ?a_is_integer ?l_is_integer ?c_is_integer ?k_is_integer ?a_is_sixty_digits ?l_is_sixty_digits ?c_is_sixty_digits ?k_is_sixty_digits ?a_check_sixty_digits ?l_check_sixty_digits ?c_check_sixty_digits ?k_check_sixty_digits ?a_is_count ?l_is_count ?c_is_count ?k_is_count ?a_check_number ?l_check_number ?c_check_number ?k_check_number ?l_Kind___init__ ?c_Kind___init__ ?k_Kind___init__ ?a_check_kind ?l_check_kind ?c_check_kind ?k_check_kind ?a_check_value ?l_check_value ?c_check_value ?k_check_value ?a_least ?l_least ?c_least ?k_least ?a_greatest ?l_greatest ?c_greatest ?k_greatest ?a_is_value ?l_is_value ?c_is_value ?k_is_value ?a_quotient_total ?l_quotient_total ?c_quotient_total ?k_quotient_total ?a_total_between ?l_total_between ?c_total_between ?k_total_between ?a_least_remainder ?l_least_remainder ?c_least_remainder ?k_least_remainder ?a_check_line ?l_check_line ?c_check_line ?k_check_line ?a_check_range ?l_check_range ?c_check_range ?k_check_range ?a__check ?l__check ?c__check ?k__check ?a__check_within ?l__check_within ?c__check_within ?k__check_within ?a__total ?l__total ?c__total ?k__total ?a__hit ?l__hit ?c__hit ?k__hit ?a_total_within ?l_total_within ?c_total_within ?k_total_within ?a_first_within ?l_first_within ?c_first_within ?k_first_within ?a_within_at ?l_within_at ?c_within_at ?k_within_at ?a_least_result ?l_least_result ?c_least_result ?k_least_result ?a_greatest_result ?l_greatest_result ?c_greatest_result ?k_greatest_result ?a__falling ?l__falling ?c__falling ?k__falling ?a_descents ?l_descents ?c_descents ?k_descents ?a__law_deck ?l__law_deck ?c__law_deck ?k__law_deck ?a__law_deal ?l__law_deal ?c__law_deal ?k__law_deal ?a__law_choice ?l__law_choice ?c__law_choice ?k__law_choice ?a__law_great ?l__law_great ?c__law_great ?k__law_great ?a__law_inverse ?l__law_inverse ?c__law_inverse ?k__law_inverse ?a__law_there ?l__law_there ?c__law_there ?k__law_there ?a__law_drawn ?l__law_drawn ?c__law_drawn ?k__law_drawn ?a__law_right ?l__law_right ?c__law_right ?k__law_right ?a__law_all_but_one_right ?l__law_all_but_one_right ?c__law_all_but_one_right ?k__law_all_but_one_right ?a_law ?l_law ?c_law ?k_law ?v_BEYOND_SIXTY_DIGITS ?v_MOST_BITS ?z_abs ?z_bool ?z_divmod ?z_int ?z_isinstance ?z_len ?z_max ?z_min ?z_range ?z_reversed ?z_tuple
    (case aC_Walk => k_is)
    (case a_Walk___init__ => k_is)
    (case i_Walk___init__ => k_is)
    (case pg_Walk => k_is)
    (case hd_Walk => k_is)
    (case po_Walk => k_is)
    (case sa_Walk => k_is)
    (case mkk_Walk => k_is)
    (case kc_Walk => k_is)
    (case na_Walk_size => k_is)
    (case na_Walk_step => k_is)
    (case na_Walk_marks => k_is)
    (case na_Walk_each => k_is)
    (case na_Walk_marked => k_is)
    (case na_Walk_around => k_is)
    (case ia_Walk => k_is)
    (case ib_Walk => k_is)
    (case ic_Walk => k_is)
    (case id_Walk => k_is)
    (case aC_Kind => k_is)
    (case a_Kind___init__ => k_is)
    (case i_Kind___init__ => k_is)
    (case pg_Kind => k_is)
    (case hd_Kind => k_is)
    (case po_Kind => k_is)
    (case sa_Kind => k_is)
    (case mkk_Kind => k_is)
    (case kc_Kind => k_is)
    (case na_Kind_bits => k_is)
    (case na_Kind_is_signed => k_is)
    (case ia_Kind => k_is)
    (case ib_Kind => k_is)
    (case ic_Kind => k_is)
    (case id_Kind => k_is)
    (case l_Walk___init__ => k_is)
    (case c_Walk___init__ => k_is)
    (case k_Walk___init__ => k_is)
    (case a_Walk_mirrored => k_is)
    (case i_Walk_mirrored => k_is)
    (case l_Walk_mirrored => k_is)
    (case c_Walk_mirrored => k_is)
    (case k_Walk_mirrored => k_is)
    (case a_Walk_of_laps => k_is)
    (case i_Walk_of_laps => k_is)
    (case l_Walk_of_laps => k_is)
    (case c_Walk_of_laps => k_is)
    (case k_Walk_of_laps => k_is)
    (case a_Walk_marked_steps => k_is)
    (case i_Walk_marked_steps => k_is)
    (case l_Walk_marked_steps => k_is)
    (case c_Walk_marked_steps => k_is)
    (case k_Walk_marked_steps => k_is)
    (case a_Walk_cost => k_is)
    (case i_Walk_cost => k_is)
    (case l_Walk_cost => k_is)
    (case c_Walk_cost => k_is)
    (case k_Walk_cost => k_is)
    (case a_Walk_steps_for => k_is)
    (case i_Walk_steps_for => k_is)
    (case l_Walk_steps_for => k_is)
    (case c_Walk_steps_for => k_is)
    (case k_Walk_steps_for => k_is)
    (case a__steps_to_visit => k_is)
    (case l__steps_to_visit => k_is)
    (case c__steps_to_visit => k_is)
    (case k__steps_to_visit => k_is)
    (case a_hit_at => k_is)
    (case l_hit_at => k_is)
    (case c_hit_at => k_is)
    (case k_hit_at => k_is)
    (case a_is_integer => k_is)
    (case l_is_integer => k_is)
    (case c_is_integer => k_is)
    (case k_is_integer => k_is)
    (case a_is_sixty_digits => k_is)
    (case l_is_sixty_digits => k_is)
    (case c_is_sixty_digits => k_is)
    (case k_is_sixty_digits => k_is)
    (case a_check_sixty_digits => k_is)
    (case l_check_sixty_digits => k_is)
    (case c_check_sixty_digits => k_is)
    (case k_check_sixty_digits => k_is)
    (case a_is_count => k_is)
    (case l_is_count => k_is)
    (case c_is_count => k_is)
    (case k_is_count => k_is)
    (case a_check_number => k_is)
    (case l_check_number => k_is)
    (case c_check_number => k_is)
    (case k_check_number => k_is)
    (case l_Kind___init__ => k_is)
    (case c_Kind___init__ => k_is)
    (case k_Kind___init__ => k_is)
    (case a_check_kind => k_is)
    (case l_check_kind => k_is)
    (case c_check_kind => k_is)
    (case k_check_kind => k_is)
    (case a_check_value => k_is)
    (case l_check_value => k_is)
    (case c_check_value => k_is)
    (case k_check_value => k_is)
    (case a_least => k_is)
    (case l_least => k_is)
    (case c_least => k_is)
    (case k_least => k_is)
    (case a_greatest => k_is)
    (case l_greatest => k_is)
    (case c_greatest => k_is)
    (case k_greatest => k_is)
    (case a_is_value => k_is)
    (case l_is_value => k_is)
    (case c_is_value => k_is)
    (case k_is_value => k_is)
    (case a_quotient_total => k_is)
    (case l_quotient_total => k_is)
    (case c_quotient_total => k_is)
    (case k_quotient_total => k_is)
    (case a_total_between => k_is)
    (case l_total_between => k_is)
    (case c_total_between => k_is)
    (case k_total_between => k_is)
    (case a_least_remainder => k_is)
    (case l_least_remainder => k_is)
    (case c_least_remainder => k_is)
    (case k_least_remainder => k_is)
    (case a_check_line => k_is)
    (case l_check_line => k_is)
    (case c_check_line => k_is)
    (case k_check_line => k_is)
    (case a_check_range => k_is)
    (case l_check_range => k_is)
    (case c_check_range => k_is)
    (case k_check_range => k_is)
    (case a__check => k_is)
    (case l__check => k_is)
    (case c__check => k_is)
    (case k__check => k_is)
    (case a__check_within => k_is)
    (case l__check_within => k_is)
    (case c__check_within => k_is)
    (case k__check_within => k_is)
    (case a__total => k_is)
    (case l__total => k_is)
    (case c__total => k_is)
    (case k__total => k_is)
    (case a__hit => k_is)
    (case l__hit => k_is)
    (case c__hit => k_is)
    (case k__hit => k_is)
    (case a_total_within => k_is)
    (case l_total_within => k_is)
    (case c_total_within => k_is)
    (case k_total_within => k_is)
    (case a_first_within => k_is)
    (case l_first_within => k_is)
    (case c_first_within => k_is)
    (case k_first_within => k_is)
    (case a_within_at => k_is)
    (case l_within_at => k_is)
    (case c_within_at => k_is)
    (case k_within_at => k_is)
    (case a_least_result => k_is)
    (case l_least_result => k_is)
    (case c_least_result => k_is)
    (case k_least_result => k_is)
    (case a_greatest_result => k_is)
    (case l_greatest_result => k_is)
    (case c_greatest_result => k_is)
    (case k_greatest_result => k_is)
    (case a__falling => k_is)
    (case l__falling => k_is)
    (case c__falling => k_is)
    (case k__falling => k_is)
    (case a_descents => k_is)
    (case l_descents => k_is)
    (case c_descents => k_is)
    (case k_descents => k_is)
    (case a__law_deck => k_is)
    (case l__law_deck => k_is)
    (case c__law_deck => k_is)
    (case k__law_deck => k_is)
    (case a__law_deal => k_is)
    (case l__law_deal => k_is)
    (case c__law_deal => k_is)
    (case k__law_deal => k_is)
    (case a__law_choice => k_is)
    (case l__law_choice => k_is)
    (case c__law_choice => k_is)
    (case k__law_choice => k_is)
    (case a__law_great => k_is)
    (case l__law_great => k_is)
    (case c__law_great => k_is)
    (case k__law_great => k_is)
    (case a__law_inverse => k_is)
    (case l__law_inverse => k_is)
    (case c__law_inverse => k_is)
    (case k__law_inverse => k_is)
    (case a__law_there => k_is)
    (case l__law_there => k_is)
    (case c__law_there => k_is)
    (case k__law_there => k_is)
    (case a__law_drawn => k_is)
    (case l__law_drawn => k_is)
    (case c__law_drawn => k_is)
    (case k__law_drawn => k_is)
    (case a__law_right => k_is)
    (case l__law_right => k_is)
    (case c__law_right => k_is)
    (case k__law_right => k_is)
    (case a__law_all_but_one_right => k_is)
    (case l__law_all_but_one_right => k_is)
    (case c__law_all_but_one_right => k_is)
    (case k__law_all_but_one_right => k_is)
    (case a_law => k_is)
    (case l_law => k_is)
    (case c_law => k_is)
    (case k_law => k_is)
    (case v_BEYOND_SIXTY_DIGITS => k_is)
    (case v_MOST_BITS => k_is)
    (case z_abs => k_is)
    (case z_bool => k_is)
    (case z_divmod => k_is)
    (case z_int => k_is)
    (case z_isinstance => k_is)
    (case z_len => k_is)
    (case z_max => k_is)
    (case z_min => k_is)
    (case z_range => k_is)
    (case z_reversed => k_is)
    (case z_tuple => k_is)
