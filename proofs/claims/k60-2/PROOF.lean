import PyProof.Rows.All
import Wide.All
import OpenK.AllK
import Wide.FinOn
import HandS.ForMost
import HandS.IsInst
import HandS.WideBits
import HandS.Style
import HandS.SortInts
import HandS.EndTab
import HandS.NoneIn
import HandS.Walk
import PyProof.LongRange
import HandS.Gcd
import HandS.Conv
import HandS.More
import HandS.SetFor
import HandS.SortRule
import HandS.Zip
import HandS.Flow
import KE.DatumOrd
import KE.DatumMore
import HandS.DictTup
import HandS.DictComp
import KE.KDictSum
import PyProof.DictMoreH
import PyProof.DictFindH
import HandS.WordsDict
import PyProof.ZipIter
import PyProof.CallType
import PyProof.Walk
import PyProof.WalkLemmas
import PyProof.RulesTry
import KE.GoesEnumKw
import PyProof.Rows.CallKwBuiltin
import HandS.Iter
import HandS.Comp
import HandS.SortKw
import PySem.Challenge.RW_farwrap_k60_whole_alike_by_normal_forms
set_option Elab.async false
set_option linter.all false
set_option maxRecDepth 100000
set_option maxHeartbeats 4000000
namespace Fw
open PySem L2
def rIntC : List V → Hp → VK → Prop := fun xs H Q => (∃ i, xs = [.int i] ∧ Q (.int i) H) ∨ ∃ k, xs = [.bl k] ∧ Q (.int (if k then 1 else 0)) H
def ab (x : Int) : Int := if x < 0 then -x else x
def rIsNn : R2 := fun x y H Q => y = .non ∧ Q (.bl (decide (x = .non))) H
def rAbsC : List V → Hp → VK → Prop := fun xs H Q => ∃ i, xs = [.int i] ∧ Q (.int (if i < 0 then -i else i)) H
def rLenS (K : PySem.W.Frag) : List V → Hp → VK → Prop := fun xs H Q => ∃ p ys, xs = [.ref p] ∧ (SqL K H p ys ∨ SqT K H p ys) ∧ Q (.int ys.length) H
section
variable {X : Cx} {CX : CXT} {k : Nat} {f : Addr} {fd : FuncData} {ps ks : List Str} {sp : Sp} {E : XK} {x : Str} {p pos : Pos} {kws : List Keyword} {tk : TA} {g : List Value → List Value → List Value} {gV : List V → List V → List V}
/-- f(k = v, ..), no positional argument -/
theorem pe_callK0 (F : FnOk X.prog X.w X.K X.mg X.base CX k f fd ps sp) (hr : Room k X.A) (hg : Gl X x) (hm : X.mg x = some (.ref f)) (hk : PySem.W.keepIn X.K (.ref f) = true) (hb : KBinds X.K fd ps ks g gV) (hx : Passes CX X E)
    (hkw : PK X kws tk) (hall : (backToKw pos (keywordEach kws X.env)).all (·.1.isSome) = true := by rfl) (hks : (backToKw pos (keywordEach kws X.env)).filterMap (·.1) = ks := by rfl)
    (hdb : (x == ("__debug__" : Str)) = false := by decide)
    (hpl : ((backTo pos (starEach [] X.env)).any (·.1) || (backToKw pos (keywordEach kws X.env)).any (·.1.isNone)) = false := by rfl) :
    PE X (.Call (.Name x p) [] kws pos) (tCallK sp gV E tNil tk) := by
  refine ⟨fun pins s σ H Q I h => ?_⟩
  refine wpAny_Call_Name_kw (ld_glob I hg hm ?_ hdb)
  refine PySem.W.callWith_KW0 (h₀ := X.base) I.ok.mod.kin hk hall ?_ hpl
  have q : tk σ H fun zs H2 => sp (gV [] zs) H2 Q E := h
  refine thn (hkw.run pos pins s σ H _ I q) fun ws s2 ⟨zs, H2, I2, rz, q2⟩ => ⟨I2.kIn, ?_⟩
  rw [hks]
  exact run_fnk F hr hb hx I2 .nil rz q2
end

section
variable {K : PySem.W.Frag} {C : Addr} {σ : L2.St} {H : Hp} {Q : VK} {D : Ends} {ta tb tc te : TE} {tt tu : TT} {r : R2}
theorem w_c {v : V} (q : Q v H) : tC v σ H Q := q
theorem w_var {i : Nat} {v : V} (h : σ[i]? = some (some v)) (q : Q v H) : tVar i σ H Q := ⟨v, h, q⟩
theorem w_v0 {v : V} {r : L2.St} (q : Q v H) : tVar 0 (some v :: r) H Q := ⟨v, rfl, q⟩
theorem w_n0 {y : Option V} {v : V} {r : L2.St} {Q : L2.St → Hp → Prop} (q : Q (some v :: r) H) : gName 0 v (y :: r) H Q := q
theorem w_v1 {x0 : Option V} {v : V} {r : L2.St} (q : Q v H) : tVar 1 (x0 :: some v :: r) H Q := ⟨v, rfl, q⟩
theorem w_n1 {x0 : Option V} {y : Option V} {v : V} {r : L2.St} {Q : L2.St → Hp → Prop} (q : Q (x0 :: some v :: r) H) : gName 1 v (x0 :: y :: r) H Q := q
theorem w_v2 {x0 x1 : Option V} {v : V} {r : L2.St} (q : Q v H) : tVar 2 (x0 :: x1 :: some v :: r) H Q := ⟨v, rfl, q⟩
theorem w_n2 {x0 x1 : Option V} {y : Option V} {v : V} {r : L2.St} {Q : L2.St → Hp → Prop} (q : Q (x0 :: x1 :: some v :: r) H) : gName 2 v (x0 :: x1 :: y :: r) H Q := q
theorem w_v3 {x0 x1 x2 : Option V} {v : V} {r : L2.St} (q : Q v H) : tVar 3 (x0 :: x1 :: x2 :: some v :: r) H Q := ⟨v, rfl, q⟩
theorem w_n3 {x0 x1 x2 : Option V} {y : Option V} {v : V} {r : L2.St} {Q : L2.St → Hp → Prop} (q : Q (x0 :: x1 :: x2 :: some v :: r) H) : gName 3 v (x0 :: x1 :: x2 :: y :: r) H Q := q
theorem w_v4 {x0 x1 x2 x3 : Option V} {v : V} {r : L2.St} (q : Q v H) : tVar 4 (x0 :: x1 :: x2 :: x3 :: some v :: r) H Q := ⟨v, rfl, q⟩
theorem w_n4 {x0 x1 x2 x3 : Option V} {y : Option V} {v : V} {r : L2.St} {Q : L2.St → Hp → Prop} (q : Q (x0 :: x1 :: x2 :: x3 :: some v :: r) H) : gName 4 v (x0 :: x1 :: x2 :: x3 :: y :: r) H Q := q
theorem w_v5 {x0 x1 x2 x3 x4 : Option V} {v : V} {r : L2.St} (q : Q v H) : tVar 5 (x0 :: x1 :: x2 :: x3 :: x4 :: some v :: r) H Q := ⟨v, rfl, q⟩
theorem w_n5 {x0 x1 x2 x3 x4 : Option V} {y : Option V} {v : V} {r : L2.St} {Q : L2.St → Hp → Prop} (q : Q (x0 :: x1 :: x2 :: x3 :: x4 :: some v :: r) H) : gName 5 v (x0 :: x1 :: x2 :: x3 :: x4 :: y :: r) H Q := q
theorem w_v6 {x0 x1 x2 x3 x4 x5 : Option V} {v : V} {r : L2.St} (q : Q v H) : tVar 6 (x0 :: x1 :: x2 :: x3 :: x4 :: x5 :: some v :: r) H Q := ⟨v, rfl, q⟩
theorem w_n6 {x0 x1 x2 x3 x4 x5 : Option V} {y : Option V} {v : V} {r : L2.St} {Q : L2.St → Hp → Prop} (q : Q (x0 :: x1 :: x2 :: x3 :: x4 :: x5 :: some v :: r) H) : gName 6 v (x0 :: x1 :: x2 :: x3 :: x4 :: x5 :: y :: r) H Q := q
theorem w_v7 {x0 x1 x2 x3 x4 x5 x6 : Option V} {v : V} {r : L2.St} (q : Q v H) : tVar 7 (x0 :: x1 :: x2 :: x3 :: x4 :: x5 :: x6 :: some v :: r) H Q := ⟨v, rfl, q⟩
theorem w_n7 {x0 x1 x2 x3 x4 x5 x6 : Option V} {y : Option V} {v : V} {r : L2.St} {Q : L2.St → Hp → Prop} (q : Q (x0 :: x1 :: x2 :: x3 :: x4 :: x5 :: x6 :: some v :: r) H) : gName 7 v (x0 :: x1 :: x2 :: x3 :: x4 :: x5 :: x6 :: y :: r) H Q := q
theorem w_v8 {x0 x1 x2 x3 x4 x5 x6 x7 : Option V} {v : V} {r : L2.St} (q : Q v H) : tVar 8 (x0 :: x1 :: x2 :: x3 :: x4 :: x5 :: x6 :: x7 :: some v :: r) H Q := ⟨v, rfl, q⟩
theorem w_n8 {x0 x1 x2 x3 x4 x5 x6 x7 : Option V} {y : Option V} {v : V} {r : L2.St} {Q : L2.St → Hp → Prop} (q : Q (x0 :: x1 :: x2 :: x3 :: x4 :: x5 :: x6 :: x7 :: some v :: r) H) : gName 8 v (x0 :: x1 :: x2 :: x3 :: x4 :: x5 :: x6 :: x7 :: y :: r) H Q := q
theorem w_v9 {x0 x1 x2 x3 x4 x5 x6 x7 x8 : Option V} {v : V} {r : L2.St} (q : Q v H) : tVar 9 (x0 :: x1 :: x2 :: x3 :: x4 :: x5 :: x6 :: x7 :: x8 :: some v :: r) H Q := ⟨v, rfl, q⟩
theorem w_n9 {x0 x1 x2 x3 x4 x5 x6 x7 x8 : Option V} {y : Option V} {v : V} {r : L2.St} {Q : L2.St → Hp → Prop} (q : Q (x0 :: x1 :: x2 :: x3 :: x4 :: x5 :: x6 :: x7 :: x8 :: some v :: r) H) : gName 9 v (x0 :: x1 :: x2 :: x3 :: x4 :: x5 :: x6 :: x7 :: x8 :: y :: r) H Q := q
theorem w_v10 {x0 x1 x2 x3 x4 x5 x6 x7 x8 x9 : Option V} {v : V} {r : L2.St} (q : Q v H) : tVar 10 (x0 :: x1 :: x2 :: x3 :: x4 :: x5 :: x6 :: x7 :: x8 :: x9 :: some v :: r) H Q := ⟨v, rfl, q⟩
theorem w_n10 {x0 x1 x2 x3 x4 x5 x6 x7 x8 x9 : Option V} {y : Option V} {v : V} {r : L2.St} {Q : L2.St → Hp → Prop} (q : Q (x0 :: x1 :: x2 :: x3 :: x4 :: x5 :: x6 :: x7 :: x8 :: x9 :: some v :: r) H) : gName 10 v (x0 :: x1 :: x2 :: x3 :: x4 :: x5 :: x6 :: x7 :: x8 :: x9 :: y :: r) H Q := q
theorem w_v11 {x0 x1 x2 x3 x4 x5 x6 x7 x8 x9 x10 : Option V} {v : V} {r : L2.St} (q : Q v H) : tVar 11 (x0 :: x1 :: x2 :: x3 :: x4 :: x5 :: x6 :: x7 :: x8 :: x9 :: x10 :: some v :: r) H Q := ⟨v, rfl, q⟩
theorem w_n11 {x0 x1 x2 x3 x4 x5 x6 x7 x8 x9 x10 : Option V} {y : Option V} {v : V} {r : L2.St} {Q : L2.St → Hp → Prop} (q : Q (x0 :: x1 :: x2 :: x3 :: x4 :: x5 :: x6 :: x7 :: x8 :: x9 :: x10 :: some v :: r) H) : gName 11 v (x0 :: x1 :: x2 :: x3 :: x4 :: x5 :: x6 :: x7 :: x8 :: x9 :: x10 :: y :: r) H Q := q
theorem w_v12 {x0 x1 x2 x3 x4 x5 x6 x7 x8 x9 x10 x11 : Option V} {v : V} {r : L2.St} (q : Q v H) : tVar 12 (x0 :: x1 :: x2 :: x3 :: x4 :: x5 :: x6 :: x7 :: x8 :: x9 :: x10 :: x11 :: some v :: r) H Q := ⟨v, rfl, q⟩
theorem w_n12 {x0 x1 x2 x3 x4 x5 x6 x7 x8 x9 x10 x11 : Option V} {y : Option V} {v : V} {r : L2.St} {Q : L2.St → Hp → Prop} (q : Q (x0 :: x1 :: x2 :: x3 :: x4 :: x5 :: x6 :: x7 :: x8 :: x9 :: x10 :: x11 :: some v :: r) H) : gName 12 v (x0 :: x1 :: x2 :: x3 :: x4 :: x5 :: x6 :: x7 :: x8 :: x9 :: x10 :: x11 :: y :: r) H Q := q
theorem w_v13 {x0 x1 x2 x3 x4 x5 x6 x7 x8 x9 x10 x11 x12 : Option V} {v : V} {r : L2.St} (q : Q v H) : tVar 13 (x0 :: x1 :: x2 :: x3 :: x4 :: x5 :: x6 :: x7 :: x8 :: x9 :: x10 :: x11 :: x12 :: some v :: r) H Q := ⟨v, rfl, q⟩
theorem w_n13 {x0 x1 x2 x3 x4 x5 x6 x7 x8 x9 x10 x11 x12 : Option V} {y : Option V} {v : V} {r : L2.St} {Q : L2.St → Hp → Prop} (q : Q (x0 :: x1 :: x2 :: x3 :: x4 :: x5 :: x6 :: x7 :: x8 :: x9 :: x10 :: x11 :: x12 :: some v :: r) H) : gName 13 v (x0 :: x1 :: x2 :: x3 :: x4 :: x5 :: x6 :: x7 :: x8 :: x9 :: x10 :: x11 :: x12 :: y :: r) H Q := q
theorem w_v14 {x0 x1 x2 x3 x4 x5 x6 x7 x8 x9 x10 x11 x12 x13 : Option V} {v : V} {r : L2.St} (q : Q v H) : tVar 14 (x0 :: x1 :: x2 :: x3 :: x4 :: x5 :: x6 :: x7 :: x8 :: x9 :: x10 :: x11 :: x12 :: x13 :: some v :: r) H Q := ⟨v, rfl, q⟩
theorem w_n14 {x0 x1 x2 x3 x4 x5 x6 x7 x8 x9 x10 x11 x12 x13 : Option V} {y : Option V} {v : V} {r : L2.St} {Q : L2.St → Hp → Prop} (q : Q (x0 :: x1 :: x2 :: x3 :: x4 :: x5 :: x6 :: x7 :: x8 :: x9 :: x10 :: x11 :: x12 :: x13 :: some v :: r) H) : gName 14 v (x0 :: x1 :: x2 :: x3 :: x4 :: x5 :: x6 :: x7 :: x8 :: x9 :: x10 :: x11 :: x12 :: x13 :: y :: r) H Q := q
theorem w_v15 {x0 x1 x2 x3 x4 x5 x6 x7 x8 x9 x10 x11 x12 x13 x14 : Option V} {v : V} {r : L2.St} (q : Q v H) : tVar 15 (x0 :: x1 :: x2 :: x3 :: x4 :: x5 :: x6 :: x7 :: x8 :: x9 :: x10 :: x11 :: x12 :: x13 :: x14 :: some v :: r) H Q := ⟨v, rfl, q⟩
theorem w_n15 {x0 x1 x2 x3 x4 x5 x6 x7 x8 x9 x10 x11 x12 x13 x14 : Option V} {y : Option V} {v : V} {r : L2.St} {Q : L2.St → Hp → Prop} (q : Q (x0 :: x1 :: x2 :: x3 :: x4 :: x5 :: x6 :: x7 :: x8 :: x9 :: x10 :: x11 :: x12 :: x13 :: x14 :: some v :: r) H) : gName 15 v (x0 :: x1 :: x2 :: x3 :: x4 :: x5 :: x6 :: x7 :: x8 :: x9 :: x10 :: x11 :: x12 :: x13 :: x14 :: y :: r) H Q := q
theorem w_v16 {x0 x1 x2 x3 x4 x5 x6 x7 x8 x9 x10 x11 x12 x13 x14 x15 : Option V} {v : V} {r : L2.St} (q : Q v H) : tVar 16 (x0 :: x1 :: x2 :: x3 :: x4 :: x5 :: x6 :: x7 :: x8 :: x9 :: x10 :: x11 :: x12 :: x13 :: x14 :: x15 :: some v :: r) H Q := ⟨v, rfl, q⟩
theorem w_n16 {x0 x1 x2 x3 x4 x5 x6 x7 x8 x9 x10 x11 x12 x13 x14 x15 : Option V} {y : Option V} {v : V} {r : L2.St} {Q : L2.St → Hp → Prop} (q : Q (x0 :: x1 :: x2 :: x3 :: x4 :: x5 :: x6 :: x7 :: x8 :: x9 :: x10 :: x11 :: x12 :: x13 :: x14 :: x15 :: some v :: r) H) : gName 16 v (x0 :: x1 :: x2 :: x3 :: x4 :: x5 :: x6 :: x7 :: x8 :: x9 :: x10 :: x11 :: x12 :: x13 :: x14 :: x15 :: y :: r) H Q := q
theorem w_v17 {x0 x1 x2 x3 x4 x5 x6 x7 x8 x9 x10 x11 x12 x13 x14 x15 x16 : Option V} {v : V} {r : L2.St} (q : Q v H) : tVar 17 (x0 :: x1 :: x2 :: x3 :: x4 :: x5 :: x6 :: x7 :: x8 :: x9 :: x10 :: x11 :: x12 :: x13 :: x14 :: x15 :: x16 :: some v :: r) H Q := ⟨v, rfl, q⟩
theorem w_n17 {x0 x1 x2 x3 x4 x5 x6 x7 x8 x9 x10 x11 x12 x13 x14 x15 x16 : Option V} {y : Option V} {v : V} {r : L2.St} {Q : L2.St → Hp → Prop} (q : Q (x0 :: x1 :: x2 :: x3 :: x4 :: x5 :: x6 :: x7 :: x8 :: x9 :: x10 :: x11 :: x12 :: x13 :: x14 :: x15 :: x16 :: some v :: r) H) : gName 17 v (x0 :: x1 :: x2 :: x3 :: x4 :: x5 :: x6 :: x7 :: x8 :: x9 :: x10 :: x11 :: x12 :: x13 :: x14 :: x15 :: x16 :: y :: r) H Q := q
theorem w_v18 {x0 x1 x2 x3 x4 x5 x6 x7 x8 x9 x10 x11 x12 x13 x14 x15 x16 x17 : Option V} {v : V} {r : L2.St} (q : Q v H) : tVar 18 (x0 :: x1 :: x2 :: x3 :: x4 :: x5 :: x6 :: x7 :: x8 :: x9 :: x10 :: x11 :: x12 :: x13 :: x14 :: x15 :: x16 :: x17 :: some v :: r) H Q := ⟨v, rfl, q⟩
theorem w_n18 {x0 x1 x2 x3 x4 x5 x6 x7 x8 x9 x10 x11 x12 x13 x14 x15 x16 x17 : Option V} {y : Option V} {v : V} {r : L2.St} {Q : L2.St → Hp → Prop} (q : Q (x0 :: x1 :: x2 :: x3 :: x4 :: x5 :: x6 :: x7 :: x8 :: x9 :: x10 :: x11 :: x12 :: x13 :: x14 :: x15 :: x16 :: x17 :: some v :: r) H) : gName 18 v (x0 :: x1 :: x2 :: x3 :: x4 :: x5 :: x6 :: x7 :: x8 :: x9 :: x10 :: x11 :: x12 :: x13 :: x14 :: x15 :: x16 :: x17 :: y :: r) H Q := q
theorem w_v19 {x0 x1 x2 x3 x4 x5 x6 x7 x8 x9 x10 x11 x12 x13 x14 x15 x16 x17 x18 : Option V} {v : V} {r : L2.St} (q : Q v H) : tVar 19 (x0 :: x1 :: x2 :: x3 :: x4 :: x5 :: x6 :: x7 :: x8 :: x9 :: x10 :: x11 :: x12 :: x13 :: x14 :: x15 :: x16 :: x17 :: x18 :: some v :: r) H Q := ⟨v, rfl, q⟩
theorem w_n19 {x0 x1 x2 x3 x4 x5 x6 x7 x8 x9 x10 x11 x12 x13 x14 x15 x16 x17 x18 : Option V} {y : Option V} {v : V} {r : L2.St} {Q : L2.St → Hp → Prop} (q : Q (x0 :: x1 :: x2 :: x3 :: x4 :: x5 :: x6 :: x7 :: x8 :: x9 :: x10 :: x11 :: x12 :: x13 :: x14 :: x15 :: x16 :: x17 :: x18 :: some v :: r) H) : gName 19 v (x0 :: x1 :: x2 :: x3 :: x4 :: x5 :: x6 :: x7 :: x8 :: x9 :: x10 :: x11 :: x12 :: x13 :: x14 :: x15 :: x16 :: x17 :: x18 :: y :: r) H Q := q
theorem w_v20 {x0 x1 x2 x3 x4 x5 x6 x7 x8 x9 x10 x11 x12 x13 x14 x15 x16 x17 x18 x19 : Option V} {v : V} {r : L2.St} (q : Q v H) : tVar 20 (x0 :: x1 :: x2 :: x3 :: x4 :: x5 :: x6 :: x7 :: x8 :: x9 :: x10 :: x11 :: x12 :: x13 :: x14 :: x15 :: x16 :: x17 :: x18 :: x19 :: some v :: r) H Q := ⟨v, rfl, q⟩
theorem w_n20 {x0 x1 x2 x3 x4 x5 x6 x7 x8 x9 x10 x11 x12 x13 x14 x15 x16 x17 x18 x19 : Option V} {y : Option V} {v : V} {r : L2.St} {Q : L2.St → Hp → Prop} (q : Q (x0 :: x1 :: x2 :: x3 :: x4 :: x5 :: x6 :: x7 :: x8 :: x9 :: x10 :: x11 :: x12 :: x13 :: x14 :: x15 :: x16 :: x17 :: x18 :: x19 :: some v :: r) H) : gName 20 v (x0 :: x1 :: x2 :: x3 :: x4 :: x5 :: x6 :: x7 :: x8 :: x9 :: x10 :: x11 :: x12 :: x13 :: x14 :: x15 :: x16 :: x17 :: x18 :: x19 :: y :: r) H Q := q
theorem w_v21 {x0 x1 x2 x3 x4 x5 x6 x7 x8 x9 x10 x11 x12 x13 x14 x15 x16 x17 x18 x19 x20 : Option V} {v : V} {r : L2.St} (q : Q v H) : tVar 21 (x0 :: x1 :: x2 :: x3 :: x4 :: x5 :: x6 :: x7 :: x8 :: x9 :: x10 :: x11 :: x12 :: x13 :: x14 :: x15 :: x16 :: x17 :: x18 :: x19 :: x20 :: some v :: r) H Q := ⟨v, rfl, q⟩
theorem w_n21 {x0 x1 x2 x3 x4 x5 x6 x7 x8 x9 x10 x11 x12 x13 x14 x15 x16 x17 x18 x19 x20 : Option V} {y : Option V} {v : V} {r : L2.St} {Q : L2.St → Hp → Prop} (q : Q (x0 :: x1 :: x2 :: x3 :: x4 :: x5 :: x6 :: x7 :: x8 :: x9 :: x10 :: x11 :: x12 :: x13 :: x14 :: x15 :: x16 :: x17 :: x18 :: x19 :: x20 :: some v :: r) H) : gName 21 v (x0 :: x1 :: x2 :: x3 :: x4 :: x5 :: x6 :: x7 :: x8 :: x9 :: x10 :: x11 :: x12 :: x13 :: x14 :: x15 :: x16 :: x17 :: x18 :: x19 :: x20 :: y :: r) H Q := q
theorem w_v22 {x0 x1 x2 x3 x4 x5 x6 x7 x8 x9 x10 x11 x12 x13 x14 x15 x16 x17 x18 x19 x20 x21 : Option V} {v : V} {r : L2.St} (q : Q v H) : tVar 22 (x0 :: x1 :: x2 :: x3 :: x4 :: x5 :: x6 :: x7 :: x8 :: x9 :: x10 :: x11 :: x12 :: x13 :: x14 :: x15 :: x16 :: x17 :: x18 :: x19 :: x20 :: x21 :: some v :: r) H Q := ⟨v, rfl, q⟩
theorem w_n22 {x0 x1 x2 x3 x4 x5 x6 x7 x8 x9 x10 x11 x12 x13 x14 x15 x16 x17 x18 x19 x20 x21 : Option V} {y : Option V} {v : V} {r : L2.St} {Q : L2.St → Hp → Prop} (q : Q (x0 :: x1 :: x2 :: x3 :: x4 :: x5 :: x6 :: x7 :: x8 :: x9 :: x10 :: x11 :: x12 :: x13 :: x14 :: x15 :: x16 :: x17 :: x18 :: x19 :: x20 :: x21 :: some v :: r) H) : gName 22 v (x0 :: x1 :: x2 :: x3 :: x4 :: x5 :: x6 :: x7 :: x8 :: x9 :: x10 :: x11 :: x12 :: x13 :: x14 :: x15 :: x16 :: x17 :: x18 :: x19 :: x20 :: x21 :: y :: r) H Q := q
theorem w_v23 {x0 x1 x2 x3 x4 x5 x6 x7 x8 x9 x10 x11 x12 x13 x14 x15 x16 x17 x18 x19 x20 x21 x22 : Option V} {v : V} {r : L2.St} (q : Q v H) : tVar 23 (x0 :: x1 :: x2 :: x3 :: x4 :: x5 :: x6 :: x7 :: x8 :: x9 :: x10 :: x11 :: x12 :: x13 :: x14 :: x15 :: x16 :: x17 :: x18 :: x19 :: x20 :: x21 :: x22 :: some v :: r) H Q := ⟨v, rfl, q⟩
theorem w_n23 {x0 x1 x2 x3 x4 x5 x6 x7 x8 x9 x10 x11 x12 x13 x14 x15 x16 x17 x18 x19 x20 x21 x22 : Option V} {y : Option V} {v : V} {r : L2.St} {Q : L2.St → Hp → Prop} (q : Q (x0 :: x1 :: x2 :: x3 :: x4 :: x5 :: x6 :: x7 :: x8 :: x9 :: x10 :: x11 :: x12 :: x13 :: x14 :: x15 :: x16 :: x17 :: x18 :: x19 :: x20 :: x21 :: x22 :: some v :: r) H) : gName 23 v (x0 :: x1 :: x2 :: x3 :: x4 :: x5 :: x6 :: x7 :: x8 :: x9 :: x10 :: x11 :: x12 :: x13 :: x14 :: x15 :: x16 :: x17 :: x18 :: x19 :: x20 :: x21 :: x22 :: y :: r) H Q := q
theorem w_v24 {x0 x1 x2 x3 x4 x5 x6 x7 x8 x9 x10 x11 x12 x13 x14 x15 x16 x17 x18 x19 x20 x21 x22 x23 : Option V} {v : V} {r : L2.St} (q : Q v H) : tVar 24 (x0 :: x1 :: x2 :: x3 :: x4 :: x5 :: x6 :: x7 :: x8 :: x9 :: x10 :: x11 :: x12 :: x13 :: x14 :: x15 :: x16 :: x17 :: x18 :: x19 :: x20 :: x21 :: x22 :: x23 :: some v :: r) H Q := ⟨v, rfl, q⟩
theorem w_n24 {x0 x1 x2 x3 x4 x5 x6 x7 x8 x9 x10 x11 x12 x13 x14 x15 x16 x17 x18 x19 x20 x21 x22 x23 : Option V} {y : Option V} {v : V} {r : L2.St} {Q : L2.St → Hp → Prop} (q : Q (x0 :: x1 :: x2 :: x3 :: x4 :: x5 :: x6 :: x7 :: x8 :: x9 :: x10 :: x11 :: x12 :: x13 :: x14 :: x15 :: x16 :: x17 :: x18 :: x19 :: x20 :: x21 :: x22 :: x23 :: some v :: r) H) : gName 24 v (x0 :: x1 :: x2 :: x3 :: x4 :: x5 :: x6 :: x7 :: x8 :: x9 :: x10 :: x11 :: x12 :: x13 :: x14 :: x15 :: x16 :: x17 :: x18 :: x19 :: x20 :: x21 :: x22 :: x23 :: y :: r) H Q := q
theorem w_v25 {x0 x1 x2 x3 x4 x5 x6 x7 x8 x9 x10 x11 x12 x13 x14 x15 x16 x17 x18 x19 x20 x21 x22 x23 x24 : Option V} {v : V} {r : L2.St} (q : Q v H) : tVar 25 (x0 :: x1 :: x2 :: x3 :: x4 :: x5 :: x6 :: x7 :: x8 :: x9 :: x10 :: x11 :: x12 :: x13 :: x14 :: x15 :: x16 :: x17 :: x18 :: x19 :: x20 :: x21 :: x22 :: x23 :: x24 :: some v :: r) H Q := ⟨v, rfl, q⟩
theorem w_n25 {x0 x1 x2 x3 x4 x5 x6 x7 x8 x9 x10 x11 x12 x13 x14 x15 x16 x17 x18 x19 x20 x21 x22 x23 x24 : Option V} {y : Option V} {v : V} {r : L2.St} {Q : L2.St → Hp → Prop} (q : Q (x0 :: x1 :: x2 :: x3 :: x4 :: x5 :: x6 :: x7 :: x8 :: x9 :: x10 :: x11 :: x12 :: x13 :: x14 :: x15 :: x16 :: x17 :: x18 :: x19 :: x20 :: x21 :: x22 :: x23 :: x24 :: some v :: r) H) : gName 25 v (x0 :: x1 :: x2 :: x3 :: x4 :: x5 :: x6 :: x7 :: x8 :: x9 :: x10 :: x11 :: x12 :: x13 :: x14 :: x15 :: x16 :: x17 :: x18 :: x19 :: x20 :: x21 :: x22 :: x23 :: x24 :: y :: r) H Q := q
theorem w_v26 {x0 x1 x2 x3 x4 x5 x6 x7 x8 x9 x10 x11 x12 x13 x14 x15 x16 x17 x18 x19 x20 x21 x22 x23 x24 x25 : Option V} {v : V} {r : L2.St} (q : Q v H) : tVar 26 (x0 :: x1 :: x2 :: x3 :: x4 :: x5 :: x6 :: x7 :: x8 :: x9 :: x10 :: x11 :: x12 :: x13 :: x14 :: x15 :: x16 :: x17 :: x18 :: x19 :: x20 :: x21 :: x22 :: x23 :: x24 :: x25 :: some v :: r) H Q := ⟨v, rfl, q⟩
theorem w_n26 {x0 x1 x2 x3 x4 x5 x6 x7 x8 x9 x10 x11 x12 x13 x14 x15 x16 x17 x18 x19 x20 x21 x22 x23 x24 x25 : Option V} {y : Option V} {v : V} {r : L2.St} {Q : L2.St → Hp → Prop} (q : Q (x0 :: x1 :: x2 :: x3 :: x4 :: x5 :: x6 :: x7 :: x8 :: x9 :: x10 :: x11 :: x12 :: x13 :: x14 :: x15 :: x16 :: x17 :: x18 :: x19 :: x20 :: x21 :: x22 :: x23 :: x24 :: x25 :: some v :: r) H) : gName 26 v (x0 :: x1 :: x2 :: x3 :: x4 :: x5 :: x6 :: x7 :: x8 :: x9 :: x10 :: x11 :: x12 :: x13 :: x14 :: x15 :: x16 :: x17 :: x18 :: x19 :: x20 :: x21 :: x22 :: x23 :: x24 :: x25 :: y :: r) H Q := q
theorem w_v27 {x0 x1 x2 x3 x4 x5 x6 x7 x8 x9 x10 x11 x12 x13 x14 x15 x16 x17 x18 x19 x20 x21 x22 x23 x24 x25 x26 : Option V} {v : V} {r : L2.St} (q : Q v H) : tVar 27 (x0 :: x1 :: x2 :: x3 :: x4 :: x5 :: x6 :: x7 :: x8 :: x9 :: x10 :: x11 :: x12 :: x13 :: x14 :: x15 :: x16 :: x17 :: x18 :: x19 :: x20 :: x21 :: x22 :: x23 :: x24 :: x25 :: x26 :: some v :: r) H Q := ⟨v, rfl, q⟩
theorem w_n27 {x0 x1 x2 x3 x4 x5 x6 x7 x8 x9 x10 x11 x12 x13 x14 x15 x16 x17 x18 x19 x20 x21 x22 x23 x24 x25 x26 : Option V} {y : Option V} {v : V} {r : L2.St} {Q : L2.St → Hp → Prop} (q : Q (x0 :: x1 :: x2 :: x3 :: x4 :: x5 :: x6 :: x7 :: x8 :: x9 :: x10 :: x11 :: x12 :: x13 :: x14 :: x15 :: x16 :: x17 :: x18 :: x19 :: x20 :: x21 :: x22 :: x23 :: x24 :: x25 :: x26 :: some v :: r) H) : gName 27 v (x0 :: x1 :: x2 :: x3 :: x4 :: x5 :: x6 :: x7 :: x8 :: x9 :: x10 :: x11 :: x12 :: x13 :: x14 :: x15 :: x16 :: x17 :: x18 :: x19 :: x20 :: x21 :: x22 :: x23 :: x24 :: x25 :: x26 :: y :: r) H Q := q
theorem w_v28 {x0 x1 x2 x3 x4 x5 x6 x7 x8 x9 x10 x11 x12 x13 x14 x15 x16 x17 x18 x19 x20 x21 x22 x23 x24 x25 x26 x27 : Option V} {v : V} {r : L2.St} (q : Q v H) : tVar 28 (x0 :: x1 :: x2 :: x3 :: x4 :: x5 :: x6 :: x7 :: x8 :: x9 :: x10 :: x11 :: x12 :: x13 :: x14 :: x15 :: x16 :: x17 :: x18 :: x19 :: x20 :: x21 :: x22 :: x23 :: x24 :: x25 :: x26 :: x27 :: some v :: r) H Q := ⟨v, rfl, q⟩
theorem w_n28 {x0 x1 x2 x3 x4 x5 x6 x7 x8 x9 x10 x11 x12 x13 x14 x15 x16 x17 x18 x19 x20 x21 x22 x23 x24 x25 x26 x27 : Option V} {y : Option V} {v : V} {r : L2.St} {Q : L2.St → Hp → Prop} (q : Q (x0 :: x1 :: x2 :: x3 :: x4 :: x5 :: x6 :: x7 :: x8 :: x9 :: x10 :: x11 :: x12 :: x13 :: x14 :: x15 :: x16 :: x17 :: x18 :: x19 :: x20 :: x21 :: x22 :: x23 :: x24 :: x25 :: x26 :: x27 :: some v :: r) H) : gName 28 v (x0 :: x1 :: x2 :: x3 :: x4 :: x5 :: x6 :: x7 :: x8 :: x9 :: x10 :: x11 :: x12 :: x13 :: x14 :: x15 :: x16 :: x17 :: x18 :: x19 :: x20 :: x21 :: x22 :: x23 :: x24 :: x25 :: x26 :: x27 :: y :: r) H Q := q
theorem w_v29 {x0 x1 x2 x3 x4 x5 x6 x7 x8 x9 x10 x11 x12 x13 x14 x15 x16 x17 x18 x19 x20 x21 x22 x23 x24 x25 x26 x27 x28 : Option V} {v : V} {r : L2.St} (q : Q v H) : tVar 29 (x0 :: x1 :: x2 :: x3 :: x4 :: x5 :: x6 :: x7 :: x8 :: x9 :: x10 :: x11 :: x12 :: x13 :: x14 :: x15 :: x16 :: x17 :: x18 :: x19 :: x20 :: x21 :: x22 :: x23 :: x24 :: x25 :: x26 :: x27 :: x28 :: some v :: r) H Q := ⟨v, rfl, q⟩
theorem w_n29 {x0 x1 x2 x3 x4 x5 x6 x7 x8 x9 x10 x11 x12 x13 x14 x15 x16 x17 x18 x19 x20 x21 x22 x23 x24 x25 x26 x27 x28 : Option V} {y : Option V} {v : V} {r : L2.St} {Q : L2.St → Hp → Prop} (q : Q (x0 :: x1 :: x2 :: x3 :: x4 :: x5 :: x6 :: x7 :: x8 :: x9 :: x10 :: x11 :: x12 :: x13 :: x14 :: x15 :: x16 :: x17 :: x18 :: x19 :: x20 :: x21 :: x22 :: x23 :: x24 :: x25 :: x26 :: x27 :: x28 :: some v :: r) H) : gName 29 v (x0 :: x1 :: x2 :: x3 :: x4 :: x5 :: x6 :: x7 :: x8 :: x9 :: x10 :: x11 :: x12 :: x13 :: x14 :: x15 :: x16 :: x17 :: x18 :: x19 :: x20 :: x21 :: x22 :: x23 :: x24 :: x25 :: x26 :: x27 :: x28 :: y :: r) H Q := q
theorem w_v30 {x0 x1 x2 x3 x4 x5 x6 x7 x8 x9 x10 x11 x12 x13 x14 x15 x16 x17 x18 x19 x20 x21 x22 x23 x24 x25 x26 x27 x28 x29 : Option V} {v : V} {r : L2.St} (q : Q v H) : tVar 30 (x0 :: x1 :: x2 :: x3 :: x4 :: x5 :: x6 :: x7 :: x8 :: x9 :: x10 :: x11 :: x12 :: x13 :: x14 :: x15 :: x16 :: x17 :: x18 :: x19 :: x20 :: x21 :: x22 :: x23 :: x24 :: x25 :: x26 :: x27 :: x28 :: x29 :: some v :: r) H Q := ⟨v, rfl, q⟩
theorem w_n30 {x0 x1 x2 x3 x4 x5 x6 x7 x8 x9 x10 x11 x12 x13 x14 x15 x16 x17 x18 x19 x20 x21 x22 x23 x24 x25 x26 x27 x28 x29 : Option V} {y : Option V} {v : V} {r : L2.St} {Q : L2.St → Hp → Prop} (q : Q (x0 :: x1 :: x2 :: x3 :: x4 :: x5 :: x6 :: x7 :: x8 :: x9 :: x10 :: x11 :: x12 :: x13 :: x14 :: x15 :: x16 :: x17 :: x18 :: x19 :: x20 :: x21 :: x22 :: x23 :: x24 :: x25 :: x26 :: x27 :: x28 :: x29 :: some v :: r) H) : gName 30 v (x0 :: x1 :: x2 :: x3 :: x4 :: x5 :: x6 :: x7 :: x8 :: x9 :: x10 :: x11 :: x12 :: x13 :: x14 :: x15 :: x16 :: x17 :: x18 :: x19 :: x20 :: x21 :: x22 :: x23 :: x24 :: x25 :: x26 :: x27 :: x28 :: x29 :: y :: r) H Q := q
theorem w_v31 {x0 x1 x2 x3 x4 x5 x6 x7 x8 x9 x10 x11 x12 x13 x14 x15 x16 x17 x18 x19 x20 x21 x22 x23 x24 x25 x26 x27 x28 x29 x30 : Option V} {v : V} {r : L2.St} (q : Q v H) : tVar 31 (x0 :: x1 :: x2 :: x3 :: x4 :: x5 :: x6 :: x7 :: x8 :: x9 :: x10 :: x11 :: x12 :: x13 :: x14 :: x15 :: x16 :: x17 :: x18 :: x19 :: x20 :: x21 :: x22 :: x23 :: x24 :: x25 :: x26 :: x27 :: x28 :: x29 :: x30 :: some v :: r) H Q := ⟨v, rfl, q⟩
theorem w_n31 {x0 x1 x2 x3 x4 x5 x6 x7 x8 x9 x10 x11 x12 x13 x14 x15 x16 x17 x18 x19 x20 x21 x22 x23 x24 x25 x26 x27 x28 x29 x30 : Option V} {y : Option V} {v : V} {r : L2.St} {Q : L2.St → Hp → Prop} (q : Q (x0 :: x1 :: x2 :: x3 :: x4 :: x5 :: x6 :: x7 :: x8 :: x9 :: x10 :: x11 :: x12 :: x13 :: x14 :: x15 :: x16 :: x17 :: x18 :: x19 :: x20 :: x21 :: x22 :: x23 :: x24 :: x25 :: x26 :: x27 :: x28 :: x29 :: x30 :: some v :: r) H) : gName 31 v (x0 :: x1 :: x2 :: x3 :: x4 :: x5 :: x6 :: x7 :: x8 :: x9 :: x10 :: x11 :: x12 :: x13 :: x14 :: x15 :: x16 :: x17 :: x18 :: x19 :: x20 :: x21 :: x22 :: x23 :: x24 :: x25 :: x26 :: x27 :: x28 :: x29 :: x30 :: y :: r) H Q := q
theorem w_op (q : ta σ H fun x H1 => tb σ H1 fun y H2 => r x y H2 Q) : tOp r ta tb σ H Q := q
theorem w_un {r : V → Hp → VK → Prop} (q : ta σ H fun x H1 => r x H1 Q) : tUn r ta σ H Q := q
theorem w_chain {r' : R2} (q : ta σ H fun x H1 => tb σ H1 fun y H2 => r x y H2 fun z H3 => ∃ k, z = .bl k ∧ (if k = true then tc σ H3 fun w' H4 => r' y w' H4 Q else Q (.bl false) H3)) : tChain r r' ta tb tc σ H Q := q
theorem w_I {CC : Int → Int → Prop} {g : Int → Int → V} {i j : Int} (c : CC i j) (q : Q (g i j) H) : rI CC g (.int i) (.int j) H Q := ⟨i, j, rfl, rfl, c, q⟩
theorem w_I0 {g : Int → Int → V} {i j : Int} (q : Q (g i j) H) : rI0 g (.int i) (.int j) H Q := ⟨i, j, rfl, rfl, q⟩
theorem w_U {g : Int → V} {i : Int} (q : Q (g i) H) : rU g (.int i) H Q := ⟨i, rfl, q⟩
theorem w_eqI {i j : Int} (q : Q (.bl (decide (i = j))) H) : rEq (.int i) (.int j) H Q := by
  refine ⟨rfl, ?_⟩
  have e : decide (V.int i = V.int j) = decide (i = j) := by
    by_cases h : i = j
    · rw [h]; simp
    · rw [decide_eq_false h, decide_eq_false (fun z => h (V.int.inj z))]
  rw [e]; exact q
theorem w_neI {i j : Int} (q : Q (.bl (!decide (i = j))) H) : rNe (.int i) (.int j) H Q := by
  refine ⟨rfl, ?_⟩
  have e : decide (V.int i = V.int j) = decide (i = j) := by
    by_cases h : i = j
    · rw [h]; simp
    · rw [decide_eq_false h, decide_eq_false (fun z => h (V.int.inj z))]
  rw [e]; exact q
theorem w_eqB {i j : Bool} (q : Q (.bl (decide (i = j))) H) : rEq (.bl i) (.bl j) H Q := by
  refine ⟨rfl, ?_⟩
  have e : decide (V.bl i = V.bl j) = decide (i = j) := by
    by_cases h : i = j
    · rw [h]; simp
    · rw [decide_eq_false h, decide_eq_false (fun z => h (V.bl.inj z))]
  rw [e]; exact q
theorem w_neB {i j : Bool} (q : Q (.bl (!decide (i = j))) H) : rNe (.bl i) (.bl j) H Q := by
  refine ⟨rfl, ?_⟩
  have e : decide (V.bl i = V.bl j) = decide (i = j) := by
    by_cases h : i = j
    · rw [h]; simp
    · rw [decide_eq_false h, decide_eq_false (fun z => h (V.bl.inj z))]
  rw [e]; exact q
theorem w_eqS {i j : Str} (q : Q (.bl (decide (i = j))) H) : rEq (.str i) (.str j) H Q := by
  refine ⟨rfl, ?_⟩
  have e : decide (V.str i = V.str j) = decide (i = j) := by
    by_cases h : i = j
    · rw [h]; simp
    · rw [decide_eq_false h, decide_eq_false (fun z => h (V.str.inj z))]
  rw [e]; exact q
theorem w_test {Q : Bool → Hp → Prop} (q : te σ H fun x H' => ∃ k, x = .bl k ∧ Q k H') : tTest te σ H Q := q
theorem w_B {Q : Bool → Hp → Prop} (q : te σ H fun x H' => ∃ k, x = .bl k ∧ Q k H') : tB te σ H Q := q
theorem w_exb {b : Bool} {P : Bool → Prop} (q : P b) : ∃ k, V.bl b = .bl k ∧ P k := ⟨b, rfl, q⟩
theorem w_exi {i : Int} {P : Int → Prop} (q : P i) : ∃ k, V.int i = .int k ∧ P k := ⟨i, rfl, q⟩
theorem w_exr {a : Addr} {P : Addr → Prop} (q : P a) : ∃ k, V.ref a = .ref k ∧ P k := ⟨a, rfl, q⟩
theorem w_and {Q : Bool → Hp → Prop} (q : tt σ H fun c H1 => if c = true then tu σ H1 Q else Q false H1) : tAnd tt tu σ H Q := q
theorem w_or {Q : Bool → Hp → Prop} (q : tt σ H fun c H1 => if c = true then Q true H1 else tu σ H1 Q) : tOr tt tu σ H Q := q
theorem w_not {Q : Bool → Hp → Prop} (q : tt σ H fun c H1 => Q (!c) H1) : tNot tt σ H Q := q
theorem w_andV (q : ta σ H fun x H1 => ∃ c, x = .bl c ∧ if c = true then tb σ H1 Q else Q (.bl false) H1) : tAndV ta tb σ H Q := q
theorem w_orV (q : ta σ H fun x H1 => ∃ c, x = .bl c ∧ if c = true then Q (.bl true) H1 else tb σ H1 Q) : tOrV ta tb σ H Q := q
theorem w_notV (q : ta σ H fun x H1 => ∃ c, x = .bl c ∧ Q (.bl (!c)) H1) : tNotV ta σ H Q := q
/-- what evaluates to one value, whatever follows -/
theorem w_val (v : V) (hE : ∀ Q : VK, Q v H → te σ H Q) (q : Q v H) : te σ H Q := hE Q q
theorem w_if (q : tt σ H fun c H1 => if c = true then ta σ H1 Q else tb σ H1 Q) : tIf tt ta tb σ H Q := q
theorem w_nil {Q : List V → Hp → Prop} (q : Q [] H) : tNil σ H Q := q
theorem w_cons {tr : TA} {Q : List V → Hp → Prop} (q : ta σ H fun x H1 => tr σ H1 fun xs H2 => Q (x :: xs) H2) : tCons ta tr σ H Q := q
theorem w_call {sp : Sp} {E : XK} {t : TA} (q : t σ H fun vs H1 => sp (vs ++ []) H1 Q E) : tCall sp [] E t σ H Q := q
theorem w_callK {sp : Sp} {gV : List V → List V → List V} {E : XK} {t tk : TA} (q : t σ H fun vs H1 => tk σ H1 fun zs H2 => sp (gV vs zs) H2 Q E) : tCallK sp gV E t tk σ H Q := q
theorem w_make {sp : Sp} {E : XK} {t : TA} (q : t σ H fun vs H1 => ∀ x dx, H1 x = none → H1 dx = none → dx ≠ x → sp (.ref x :: (vs ++ [])) (upd (upd H1 dx (.own x)) x (.ins C dx [])) (fun v H2 => v = .non ∧ Q (.ref x) H2) E) : tMake C sp [] E t σ H Q := q
theorem w_cb {r : List V → Hp → VK → Prop} {t : TA} (q : t σ H fun vs H1 => r vs H1 Q) : tCB r t σ H Q := q
theorem w_int {i : Int} (q : Q (.int i) H) : rIntC [.int i] H Q := .inl ⟨i, rfl, q⟩
theorem w_intB {i : Bool} (q : Q (.int (if i then 1 else 0)) H) : rIntC [.bl i] H Q := .inr ⟨i, rfl, q⟩
theorem w_isNn (q : Q (.bl true) H) : rIsNn .non .non H Q := ⟨rfl, q⟩
theorem w_isNi {i : Int} (q : Q (.bl false) H) : rIsNn (.int i) .non H Q := ⟨rfl, q⟩
theorem w_abs {i : Int} (q : Q (.int (ab i)) H) : rAbsC [.int i] H Q := ⟨i, rfl, q⟩
theorem w_bits {to : TE} (q : to σ H fun x H1 => ∃ i, x = .int i ∧ Q (.int (Builtin.Int.intBits i : Nat)) H1) : tBits to σ H Q := q
theorem w_ixL {p : Addr} {xs : List V} {i : Int} {v : V} (h : H p = some (.lst xs)) (e : atI xs i = some v) (q : Q v H) : rIxL K (.ref p) (.int i) H Q := ⟨p, xs, i, v, rfl, rfl, SqL.of h, e, q⟩
theorem w_ixT {p : Addr} {xs : List V} {i : Int} {v : V} (h : H p = some (.tup xs)) (e : atI xs i = some v) (q : Q v H) : rIxT K (.ref p) (.int i) H Q := ⟨p, xs, i, v, rfl, rfl, SqT.of h, e, q⟩
theorem w_setL {p : Addr} {xs : List V} {i : Int} {v : V} {j : Nat} {Q : Hp → Prop} (h : H p = some (.lst xs)) (e : ixN xs.length i = some j) (q : Q (upd H p (.lst (xs.set j v)))) : rSetL (.ref p) (.int i) v H Q := ⟨p, xs, i, j, rfl, rfl, h, e, q⟩
theorem w_sl {r : V → Option Int → Option Int → Hp → VK → Prop} {tl th : TO} (q : te σ H fun x H1 => tl σ H1 fun l H2 => th σ H2 fun u H3 => r x l u H3 Q) : L2.tSl r te tl th σ H Q := q
theorem w_part {Q : Option Int → Hp → Prop} (q : te σ H fun x H1 => ∃ i, x = .int i ∧ Q (some i) H1) : tPart te σ H Q := q
theorem w_nopart {Q : Option Int → Hp → Prop} (q : Q none H) : tNoPart σ H Q := q
theorem w_slL {a : Addr} {xs : List V} {lo hi : Option Int} (h : SqL K H a xs) (q : ∀ p, H p = none → Q (.ref p) (upd H p (.lst (cutV xs lo hi)))) : rSlL K (.ref a) lo hi H Q := ⟨a, xs, rfl, h, q⟩
theorem w_lst {t : TA} (q : t σ H fun xs H1 => xs.length ≤ sizeLine ∧ ∀ p, H1 p = none → Q (.ref p) (upd H1 p (.lst xs))) : tLst t σ H Q := q
theorem w_tup {t : TA} (q : t σ H fun xs H1 => xs.length ≤ sizeLine ∧ ∀ p, H1 p = none → Q (.ref p) (upd H1 p (.tup xs))) : tTup t σ H Q := q
theorem w_cat {l b : Addr} {xs zs : List V} (h1 : H l = some (.lst xs)) (h2 : H b = some (.lst zs)) (n : xs.length + zs.length ≤ sizeLine) (q : ∀ p, H p = none → Q (.ref p) (upd H p (.lst (xs ++ zs)))) : rCat (.ref l) (.ref b) H Q := ⟨l, b, xs, zs, rfl, rfl, h1, h2, n, q⟩
theorem w_dnewK (q : ∀ d, H d = none → Q (.ref d) (upd H d (.dK []))) : tDNewK σ H Q := q
theorem w_eqNil {p q : Addr} (hp : H p = some (.lst [])) (hq : H q = some (.lst [])) (k : Q (.bl true) H) : rEqD K (.ref p) (.ref q) H Q := ⟨.list [], .list [], .lst (SqL.of hp) .nil, .lst (SqL.of hq) .nil, by decide, by decide, k⟩
theorem w_wipe1 {g : TG} {v : V} {vs : List Nat} {σ' : L2.St} {Q : L2.St → Hp → Prop} (e : wipe σ vs = σ') (q : g v σ' H Q) : g v (wipe σ vs) H Q := by rw [e]; exact q
theorem w_inT {p : Addr} {x : V} {xs : List V} (h : SqT K H p xs) (f1 : flatV x = true) (f2 : xs.all flatV = true) (q : Q (.bl (inV x xs)) H) : rIn K false x (.ref p) H Q := ⟨p, xs, rfl, .inr h, f1, f2, q⟩
theorem w_meth0 {C : Addr} {m : Str} {sp : Sp} {E : XK} (q : ta σ H fun x H1 => ∃ a dx fs, x = .ref a ∧ H1 a = some (.ins C dx fs) ∧ fs.lookup m = none ∧ sp (x :: ([] ++ [])) H1 Q E) : tMeth C m sp [] E ta tNil σ H Q := q
theorem w_par {i j : Nat} {t : TA} (q : t σ H fun vs H1 => ∃ v w, vs = [v, w] ∧ D.nx ((σ.set i (some v)).set j (some w)) H1) : tPar i j t D σ H := q
theorem w_exvw {a c : V} {P : V → V → Prop} (q : P a c) : ∃ v w, [a, c] = [v, w] ∧ P v w := ⟨a, c, rfl, q⟩
theorem w_while {tc : TT} {tb : TS} (W : Nat → L2.St → Hp → Prop) (m0 : Nat) (h0 : W m0 σ H) (hs : ∀ m σ H, W m σ H → tc σ H fun b H1 => if b = true then ∃ N : L2.St → Hp → Prop, (∀ σ' H', N σ' H' → ∃ m', m' < m ∧ W m' σ' H') ∧ tb { D with nx := N, ct := N, bk := D.nx } σ H1 else D.nx σ H1) : tWhile tc tb D σ H := ⟨W, ⟨m0, h0⟩, hs⟩
theorem w_rep {l : Addr} {k : Int} {xs : List V} (h : H l = some (.lst xs)) (k0 : 0 ≤ k) (k1 : k ≤ 1000) (n : xs.length * k.toNat ≤ sizeLine) (q : ∀ p, H p = none → Q (.ref p) (upd H p (.lst (List.replicate k.toNat xs).flatten))) : rRep (.ref l) (.int k) H Q := ⟨l, k, xs, rfl, rfl, h, by omega, by omega, n, q⟩
theorem w_dget {td ty : TE} (q : td σ H fun x H1 => ty σ H1 fun y H2 => ∃ a v, x = .ref a ∧ DGet H2 a y (some v) ∧ Q v H2) : tDGet td ty σ H Q := q
-- statements
theorem w_next (q : D.nx σ H) : tNext D σ H := q
theorem w_seq {t u : TS} (q : t { D with nx := u D } σ H) : tSeq t u D σ H := q
theorem w_drop (q : te σ H fun _ H1 => D.nx σ H1) : tDrop te D σ H := q
theorem w_ret (q : te σ H D.rt) : tRet te D σ H := q
theorem w_retN (q : D.rt .non H) : tRetN D σ H := q
theorem w_ifS {t u : TS} (q : tt σ H fun b H1 => if b = true then t D σ H1 else u D σ H1) : tIfS tt t u D σ H := q
theorem w_asg {g : TG} (q : te σ H fun x H1 => g x σ H1 D.nx) : tAsg te g D σ H := q
theorem w_name {i : Nat} {v : V} {Q : L2.St → Hp → Prop} (q : Q (σ.set i (some v)) H) : gName i v σ H Q := q
theorem w_gnil {Q : L2.St → Hp → Prop} (q : Q σ H) : gNil [] σ H Q := ⟨rfl, q⟩
theorem w_gcons {t : TG} {u : TGs} {v : V} {r : List V} {Q : L2.St → Hp → Prop} (q : t v σ H fun σ' H' => u r σ' H' Q) : gCons t u (v :: r) σ H Q := ⟨v, r, rfl, q⟩
theorem w_gtup {n : Nat} {t : TGs} {a : Addr} {xs : List V} {Q : L2.St → Hp → Prop} (h : H a = some (.tup xs)) (l : xs.length = n) (q : t xs σ H Q) : gTup K n t (.ref a) σ H Q := ⟨a, xs, rfl, SqT.of h, l, q⟩
theorem w_gsub {to ti : TE} {t : TSet} {v : V} {Q : L2.St → Hp → Prop} (q : to σ H fun o H1 => ti σ H1 fun i H2 => t o i v H2 fun H3 => Q σ H3) : gSub to ti t v σ H Q := q
/-- what a for asks of the thing walked -/
def ForW (g : TG) (tb : TS) (D : Ends) (σ : L2.St) (H1 : Hp) (J : It) : Prop := ∃ W : Nat → Nat → L2.St → Hp → Prop, (∃ m, W 0 m σ H1) ∧ ∀ i m σ H, W i m σ H →
    (J.stop i H ∧ D.nx σ H) ∨ (J.go i H ∧ ∃ N : L2.St → Hp → Prop, (∀ σ' H', N σ' H' → ∃ m', m' < m ∧ W (i + 1) m' σ' H') ∧ ∀ x H', J.yld i H x H' → g x σ H' fun σ2 H2 => tb { D with nx := N, ct := N, bk := D.nx } σ2 H2)
theorem w_for {wi : TI} {g : TG} {tb : TS} (q : wi σ H fun J H1 => ForW g tb D σ H1 J) : tFor wi g tb D σ H := q
def LcW (g : TG) (tt : TT) (te : TE) (vs : List Nat) (σ : L2.St) (Q : VK) (H1 : Hp) (J : It) : Prop := ∀ D, H1 D = none → ∃ W : Nat → Nat → Hp → Prop, (∃ m, W 0 m (upd H1 D (.lst []))) ∧ ∀ i m H, W i m H →
  (J.stop i H ∧ Q (.ref D) H) ∨ (J.go i H ∧ ∃ Nx : Hp → Prop, (∀ H', Nx H' → ∃ m', m' < m ∧ W (i + 1) m' H') ∧ ∀ x H', J.yld i H x H' → g x (wipe σ vs) H' fun σ2 H2 => wipe σ2 vs = wipe σ vs ∧ tt σ2 H2 fun b H3 =>
    if b = true then te σ2 H3 fun y H4 => ∃ acc, H4 D = some (.lst acc) ∧ acc.length < sizeLine ∧ Nx (upd H4 D (.lst (acc ++ [y]))) else Nx H3)
theorem w_lc {wi : TI} {g : TG} {vs : List Nat} (q : wi σ H fun J H1 => LcW g tt te vs σ Q H1 J) : tLc wi g tt te vs σ H Q := q
theorem w_yes {Q : Bool → Hp → Prop} (q : Q true H) : tYes σ H Q := q
theorem w_iList {tl : TE} {R : It → Hp → Prop} (q : tl σ H fun x H1 => ∃ a, x = .ref a ∧ (∃ xs, SqL K H1 a xs) ∧ R (Itl K a) H1) : iList K tl σ H R := q
theorem w_fld {f : Str} (q : ta σ H fun x H1 => ∃ a C dx fs v, x = .ref a ∧ H1 a = some (.ins C dx fs) ∧ Cls K C ∧ NoAttr K C f ∧ fs.lookup f = some v ∧ Q v H1) : tFld K ta f σ H Q := q
theorem w_sfld {tv : TE} {f : Str} (q : tv σ H fun y H1 => ta σ H1 fun x H2 => ∃ a C dx fs, x = .ref a ∧ H2 a = some (.ins C dx fs) ∧ Cls K C ∧ NoAttr K C f ∧ fs.length < 1000 ∧ D.nx σ (upd H2 a (.ins C dx (putF f y fs)))) : sFld K ta tv f D σ H := q
theorem w_len {p : Addr} {ys : List V} (h : H p = some (.lst ys)) (q : Q (.int (ys.length : Int)) H) : rLenS K [.ref p] H Q := ⟨p, ys, rfl, .inl (SqL.of h), q⟩
theorem w_all {p : Addr} {bs : List Bool} (h : H p = some (.lst (bs.map V.bl))) (q : Q (.bl (bs.all id)) H) : rAll K [.ref p] H Q := ⟨p, bs, rfl, SqL.of h, q⟩
theorem w_iRng1 {ta : TA} {R : It → Hp → Prop} (q : ta σ H fun vs H1 => ∃ j : Int, vs = [.int j] ∧ -(2 ^ 62) ≤ j ∧ j < 2 ^ 62 ∧ R (Itr 0 j.toNat) H1) : iRng1 ta σ H R := q
-- tests
theorem w_dec {P A B : Prop} [Decidable P] (h1 : P → A) (h2 : ¬ P → B) : if decide P = true then A else B := by
  by_cases h : P
  · rw [decide_eq_true h, if_pos rfl]; exact h1 h
  · rw [decide_eq_false h, if_neg Bool.false_ne_true]; exact h2 h
theorem w_ndec {P A B : Prop} [Decidable P] (h1 : ¬ P → A) (h2 : P → B) : if (!decide P) = true then A else B := by
  by_cases h : P
  · rw [decide_eq_true h]; exact iteF (h2 h)
  · rw [decide_eq_false h]; exact iteT (h1 h)
theorem w_decT {P A B : Prop} [Decidable P] (h : P) (q : A) : if decide P = true then A else B := by rw [decide_eq_true h, if_pos rfl]; exact q
theorem w_decF {P A B : Prop} [Decidable P] (h : ¬ P) (q : B) : if decide P = true then A else B := by rw [decide_eq_false h, if_neg Bool.false_ne_true]; exact q
theorem w_ndecT {P A B : Prop} [Decidable P] (h : P) (q : B) : if (!decide P) = true then A else B := by rw [decide_eq_true h]; exact iteF q
theorem w_ndecF {P A B : Prop} [Decidable P] (h : ¬ P) (q : A) : if (!decide P) = true then A else B := by rw [decide_eq_false h]; exact iteT q
theorem w_bT {b : Bool} {A B : Prop} (h : b = true) (q : A) : if b = true then A else B := by rw [if_pos h]; exact q
theorem w_bF {b : Bool} {A B : Prop} (h : b = false) (q : B) : if b = true then A else B := by rw [h]; exact iteF q
end

theorem map_get {α : Type} {f : α → V} {l : List α} {i : Nat} {x : V} (h : (l.map f)[i]? = some x) : ∃ z, l[i]? = some z ∧ x = f z := by
  rw [List.getElem?_map] at h
  cases e : l[i]? with
  | none => rw [e] at h; cases h
  | some z => rw [e] at h; exact ⟨z, rfl, (Option.some.inj h).symm⟩
theorem get_lt {α : Type} {l : List α} {i : Nat} {x : α} (h : l[i]? = some x) : i < l.length := (List.getElem?_eq_some_iff.mp h).1
theorem tk_more {α : Type} {l : List α} {i : Nat} {x : α} (h : l[i]? = some x) : l.take (i + 1) = l.take i ++ [x] := by
  rw [List.take_add_one, h]; rfl
/-- a new object leaves the others -/
theorem gn {H : Hp} {l q : Addr} {o u : HO} (h : H l = some o) (hn : H q = none) : (L2.upd H q u) l = some o := by
  rw [upd_ne (ne_of_none h hn)]; exact h
theorem cut_map {α : Type} (f : α → V) (ns : List α) (lo hi : Option Int) : ∃ ms : List α, cutV (ns.map f) lo hi = ms.map f ∧ ms.length ≤ ns.length ∧ ∀ m ∈ ms, m ∈ ns := by
  refine ⟨(ns.drop (HT.sIx (ns.map f).length 0 lo)).take (HT.sIx (ns.map f).length (ns.map f).length hi - HT.sIx (ns.map f).length 0 lo), ?_, ?_, fun m hm => List.mem_of_mem_drop (List.mem_of_mem_take hm)⟩
  · unfold cutV; rw [← List.map_drop, ← List.map_take]
  · rw [List.length_take, List.length_drop]; omega
theorem cut_take {α : Type} (f : α → V) (ns : List α) (n : Nat) : cutV (ns.map f) none (some (n : Int)) = (ns.take n).map f := by
  unfold cutV
  rw [HT.sIx_none, HT.sIx_nat, List.drop_zero, Nat.sub_zero, List.length_map, ← List.map_take]
  congr 1
  by_cases h : n ≤ ns.length
  · rw [Nat.min_eq_left h]
  · rw [Nat.min_eq_right (by omega), List.take_length, List.take_of_length_le (by omega)]
theorem sm_mut {H H' : Hp} {D : Addr} {o : HO} (a : Same H H') (h : H D = none) : Same H (L2.upd H' D o) := fun q u e => by
  rw [upd_ne (ne_of_none e h)]; exact a q u e
theorem cpow {j n : Nat} (h : j ≤ 1000000) (e : (n : Int).natAbs < 2 ^ 64) : CPow (n : Int) (j : Int) := ⟨Int.natCast_nonneg _, by omega, e⟩

/-! match over texts -/
structure PMs (X : Cx) (cs : List MatchCase) (t : V → TS) : Prop where
  run : ∀ (pins : List (Addr × Obj)) (s : Shared) (σ : L2.St) (H : Hp) (D : Ends) (v : V) (u : Value) (first : Bool), Inv X pins σ H s → RelV v u → t v D σ H →
    wpAny (model X.prog X.w) X.A (matchCases cs X.env u first) (SP X pins D) X.xe s
def tCaseS (x : Str) (tb : TS) (tr : V → TS) : V → TS := fun v D σ H => ∃ z, v = .str z ∧ if decide (z = x) = true then tb D σ H else tr v D σ H
def tCaseA (tb : TS) : V → TS := fun _ => tb
def tMatch (te : TE) (t : V → TS) : TS := fun D σ H => te σ H fun v H1 => t v D σ H1
section
variable {X : Cx} {body : List Stmt} {rest : List MatchCase} {tb : TS} {tr : V → TS}
theorem pm_nil : PMs X [] (fun _ => tNext) := ⟨fun pins s σ H D v u first I r q => wpAny_matchCases_nil ⟨σ, H, I, q⟩⟩
theorem pm_any {p : Pos} (hb : PSs X body tb) : PMs X (⟨.MatchAs none none p, none, body⟩ :: rest) (tCaseA tb) := by
  refine ⟨fun pins s σ H D v u first I r q => ?_⟩
  refine wpAny_matchCases_cons (wpAny_matchPattern_Capture ?_)
  exact wpAny_assignInOrder_none (hb.run pins s σ H D I q)
theorem pm_str {x : Str} {j : Nat} {p p2 : Pos} (hb : PSs X body tb) (hr : PMs X rest tr) : PMs X (⟨.MatchValue (.Constant (.str x) j p) p2, none, body⟩ :: rest) (tCaseS x tb tr) := by
  refine ⟨fun pins s σ H D v u first I r q => ?_⟩
  obtain ⟨z, rfl, q⟩ := q
  refine wpAny_matchCases_cons (wpAny_matchPattern_Value ?_)
  refine thn ((pe_str (X := X) (x := x) (j := j) (pos := p)).run pins s σ H (fun y H1 => y = .str x ∧ H1 = H) I ⟨rfl, rfl⟩) fun w s1 ⟨y, H1, I1, r1, e1, e2⟩ => ?_
  subst e1 e2
  refine thn (op_eq (X := X) pins s1 σ H1 (.str z) (.str x) u w (fun y H2 => y = .bl (decide (V.str z = V.str x)) ∧ H2 = H1) I1 r r1 ⟨rfl, rfl, rfl⟩) fun c s2 ⟨y, H2, I2, r2, e1, e2⟩ => ?_
  subst e1 e2
  cases r2
  refine wpAny_truthy_bool ?_
  have e : decide (V.str z = V.str x) = decide (z = x) := by
    by_cases h : z = x
    · rw [h]; simp
    · rw [decide_eq_false h, decide_eq_false (fun k => h (V.str.inj k))]
  rw [e]
  by_cases h : z = x
  · rw [decide_eq_true h, if_pos rfl] at q
    rw [decide_eq_true h]
    exact wpAny_assignInOrder_none (hb.run pins s2 σ H2 D I2 q)
  · rw [decide_eq_false h, if_neg Bool.false_ne_true] at q
    rw [decide_eq_false h]
    exact hr.run pins s2 σ H2 D _ u false I2 r q
theorem ps_match {e : Expr} {te : TE} {cs : List MatchCase} {t : V → TS} {pos : Pos} (he : PE X e te) (hc : PMs X cs t) : PS X (.Match e cs pos) (tMatch te t) := by
  refine ⟨fun pins s σ H D I h => wpAny_Match (thn (he.run pins s σ H _ I h) fun u s1 ⟨v, H1, I1, r1, q1⟩ => ?_)⟩
  exact hc.run pins s1 σ H1 D v u true I1 r1 q1
end
section
variable {σ : L2.St} {H : Hp} {D : Ends} {te : TE} {tb : TS} {tr : V → TS}
theorem w_match {t : V → TS} (q : te σ H fun v H1 => t v D σ H1) : tMatch te t D σ H := q
theorem w_caseA {v : V} (q : tb D σ H) : tCaseA tb v D σ H := q
theorem w_caseS {x z : Str} (q : if decide (z = x) = true then tb D σ H else tr (.str z) D σ H) : tCaseS x tb tr (.str z) D σ H := ⟨z, rfl, q⟩
theorem w_caseT {x : Str} (q : tb D σ H) : tCaseS x tb tr (.str x) D σ H := ⟨x, rfl, by rw [decide_eq_true rfl, if_pos rfl]; exact q⟩
theorem w_caseF {x z : Str} (h : z ≠ x) (q : tr (.str z) D σ H) : tCaseS x tb tr (.str z) D σ H := ⟨z, rfl, by rw [decide_eq_false h, if_neg Bool.false_ne_true]; exact q⟩
end
end Fw
namespace Fw
open PySem PySem.Spec PyProof.Rows L2 LamX
/-! ### lambdas of one parameter, handed to a def as its first argument -/
/-- a later state: what was not tracked at (HD, sD), while stk ran, still stands -/
structure Later (stk : List Env) (HD : Hp) (sD : Shared) (outer : List Env) (H : Hp) (s : Shared) : Prop where
  un : Un (frs stk) [] HD H sD.heap s.heap
  new : ∀ b ∈ frs outer, b ∈ frs stk ∨ sD.heap.objs.size ≤ b
  sz : sD.heap.objs.size ≤ s.heap.objs.size
theorem Later.refl (stk : List Env) (H : Hp) (s : Shared) : Later stk H s stk H s := ⟨Un.refl, fun _ h => .inl h, Nat.le_refl _⟩
theorem Later.trans {k1 k2 k3 : List Env} {H1 H2 H3 : Hp} {s1 s2 s3 : Shared} (a : Later k1 H1 s1 k2 H2 s2) (b : Later k2 H2 s2 k3 H3 s3) : Later k1 H1 s1 k3 H3 s3 := by
  have nf : ∀ c o, s1.heap.get? c = some o → c ∉ frs k1 → c ∉ frs k2 := fun c o e n z => (a.new c z).elim n fun l => Nat.lt_irrefl _ (Nat.lt_of_lt_of_le (Heap.lt_size e) l)
  refine ⟨⟨fun c o q n hc hx => ?_, fun c o q n hc hx => ?_, fun c o q n hx => ?_, fun c o q hx => ?_, fun c xs q => b.un.tups c xs (a.un.tups c xs q), fun c o xs q => b.un.frzs c o xs (a.un.frzs c o xs q), fun c ps q => ?_⟩, fun c hc => ?_, Nat.le_trans a.sz b.sz⟩
  · exact b.un.keep c o (a.un.keep c o q n hc hx) (a.un.free c o q n hx) (nf c o q hc) hx
  · obtain ⟨sl, e1⟩ := a.un.slot c o q n hc hx
    obtain ⟨sl', e2⟩ := b.un.any e1 (a.un.free c o q n hx) hx
    exact ⟨sl', e2⟩
  · obtain ⟨o', e1⟩ := a.un.there c o q hx
    exact b.un.free c o' e1 (a.un.free c o q n hx) hx
  · obtain ⟨o', e1⟩ := a.un.there c o q hx
    exact b.un.there c o' e1 hx
  · obtain ⟨m1, e1⟩ := a.un.tbls c ps q
    obtain ⟨m2, e2⟩ := b.un.tbls c _ e1
    exact ⟨m1 ++ m2, by rw [e2, Array.append_assoc]⟩
  · rcases b.new c hc with z | z
    · exact a.new c z
    · exact .inr (Nat.le_trans a.sz z)
theorem later_of {X : Cx} {pins : List (Addr × Obj)} {σ : L2.St} {H : Hp} {s : Shared} (I : Inv X pins σ H s) (hex : X.ex = []) : Later X.outer X.H_0 X.s_0 X.stack H s := by
  refine ⟨?_, fun b hb => (List.mem_cons.mp (I.stkSub b hb)).elim (fun e => .inr (by rw [e]; exact I.ok.above)) .inl, I.sz⟩
  have u := I.base
  rw [hex] at u
  exact u
/-- what may be called: f, with the promise sp, from level k on -/
abbrev CP := Nat → Addr → Sp → Prop
structure Cal (P : Program) (w : World) (K : PySem.W.Frag) (mg : Str → Option Value) (base : Heap) (stk : List Env) (HD : Hp) (sD : Shared) (k : Nat) (f : Addr) (sp : Sp) : Prop where
  fn : ∀ (outer : List Env) (s : Shared) (H : Hp), Later stk HD sD outer H s → PySem.W.FnAt f s.heap
  run : ∀ (A : Around) (outer : List Env) (s : Shared) (H : Hp) (us : List Value) (vs : List V) (Q : VK), Room k A → Env0 P w K mg base A outer s H → Later stk HD sD outer H s → Vals vs us → sp vs H Q E0 →
    codeAny (model P w) A (.call (.ref f) ⟨us, []⟩) (CR L2.CX0 outer P w H s Q E0) s
section
variable {P : Program} {w : World} {K : PySem.W.Frag} {mg : Str → Option Value} {base : Heap}
theorem Cal.later {k1 k2 : List Env} {H1 H2 : Hp} {s1 s2 : Shared} {k : Nat} {f : Addr} {sp : Sp} (c : Cal P w K mg base k1 H1 s1 k f sp) (l : Later k1 H1 s1 k2 H2 s2) : Cal P w K mg base k2 H2 s2 k f sp :=
  ⟨fun o s H z => c.fn o s H (l.trans z), fun A o s H us vs Q hr e z => c.run A o s H us vs Q hr e (l.trans z)⟩
theorem Cal.imp {stk : List Env} {H1 : Hp} {s1 : Shared} {k k' : Nat} {f : Addr} {sp sp' : Sp} (c : Cal P w K mg base stk H1 s1 k f sp) (hk : k ≤ k') (h : ∀ vs H Q, sp' vs H Q E0 → sp vs H Q E0) : Cal P w K mg base stk H1 s1 k' f sp' :=
  ⟨c.fn, fun A o s H us vs Q hr e z r q => c.run A o s H us vs Q (hr.mono hk) e z r (h _ _ _ q)⟩
/-- a def that may be handed what can be called -/
structure FnOkC (P : Program) (w : World) (K : PySem.W.Frag) (mg : Str → Option Value) (base : Heap) (k : Nat) (f : Addr) (fd : FuncData) (ps : List Str) (spc : CP → Sp) : Prop where
  len : ∀ C vs H Q E, spc C vs H Q E → vs.length = ps.length
  run : ∀ (A : Around) (outer : List Env) (s : Shared) (H : Hp) (args : Args) (us : List Value) (vs : List V) (Q : VK), Room k A → Env0 P w K mg base A outer s H → BindsTo s fd args (ps.zip us) → Vals vs us → spc (Cal P w K mg base outer H s) vs H Q E0 →
    codeAny (model P w) A (.call (.ref f) args) (CR L2.CX0 outer P w H s Q E0) s
theorem okC {x qual : Str} {st : Stmt} {f : Addr} {fd : FuncData} {N ps : List Str} {k : Nat} {spc : CP → Sp} (F : L2.Fun K x qual st f fd) (S : FnScope N ps (defScope st)) (len : ∀ C vs H Q E, spc C vs H Q E → vs.length = ps.length)
    (hbody : ∀ (cdv : Value) (A : Around) (outer : List Env) (s : Shared) (H : Hp) (vs : List V) (Q : VK), Room k (A.deeper (envOfC qual (defScope st) s.heap.objs.size f cdv)) → spc (Cal P w K mg base outer H s) vs H Q E0 →
      ∃ t, PSs (cxOf L2.CX0 P w K mg base N qual (defScope st) f cdv A outer s H E0).nox (defBody st) t ∧ t { nx := fun _ H' => Q .non H', rt := Q } (L2.start N vs) H) : FnOkC P w K mg base (k + 1) f fd ps spc := by
  obtain ⟨oc, od, kV, doc, pm, an, cdv, ct, osl, rfl, lk, hcd⟩ := F.ex
  refine ⟨len, fun A outer s H args us vs Q hr e0 hb r h => ?_⟩
  refine run_ofS (N := N) lk hcd S hr e0 hb r (len _ _ _ _ _ h) fun hr' => ?_
  obtain ⟨t, ht, q⟩ := hbody cdv A outer s H vs Q hr' h
  exact ⟨t, ht.nox, q⟩
end
/-- a def whose code object is known, for its lambdas -/
structure FunT (K : PySem.W.Frag) (x qual : Str) (st : Stmt) (f : Addr) (fd : FuncData) (c : Addr) : Prop where
  ex : ∃ (oc : Value) (od : Option Addr) (kV doc pm : Value) (an : Option Addr) (ct : Value) (osl : Array (Option Value)),
    fd = PySem.W.fnOf x qual (defArgs st) (defBody st) (defScope st) .none kV doc pm an (.ref c) ct ∧ K.lookup f = some ⟨oc, od, .func fd, osl⟩ ∧ PySem.W.codeIn K (.ref c) qual = true
section
variable {P : Program} {w : World} {K : PySem.W.Frag} {mg : Str → Option Value} {base : Heap}
theorem FunT.ok {x qual : Str} {st : Stmt} {f c : Addr} {fd : FuncData} {N ps : List Str} {k : Nat} {sp : Sp} (F : FunT K x qual st f fd c) (S : FnScope N ps (defScope st)) (len : ∀ vs H Q E, sp vs H Q E → vs.length = ps.length)
    (hbody : ∀ (A : Around) (outer : List Env) (s : Shared) (H : Hp) (vs : List V) (Q : VK) (E : XK), Room k (A.deeper (envOfC qual (defScope st) s.heap.objs.size f (.ref c))) → sp vs H Q E →
      ∃ t, PSs (cxOf L2.CX0 P w K mg base N qual (defScope st) f (.ref c) A outer s H E).nox (defBody st) t ∧ t { nx := fun _ H' => Q .non H', rt := Q } (L2.start N vs) H) : FnOk P w K mg base L2.CX0 (k + 1) f fd ps sp := by
  obtain ⟨oc, od, kV, doc, pm, an, ct, osl, rfl, lk, hcd⟩ := F.ex
  refine fn_of lk hcd S len fun A outer s H vs Q E hr hsp => ?_
  obtain ⟨t, h, q⟩ := hbody A outer s H vs Q E hr hsp
  exact ⟨t, h.nox, q⟩
theorem FunT.okC {x qual : Str} {st : Stmt} {f c : Addr} {fd : FuncData} {N ps : List Str} {k : Nat} {spc : CP → Sp} (F : FunT K x qual st f fd c) (S : FnScope N ps (defScope st)) (len : ∀ C vs H Q E, spc C vs H Q E → vs.length = ps.length)
    (hbody : ∀ (A : Around) (outer : List Env) (s : Shared) (H : Hp) (vs : List V) (Q : VK), Room k (A.deeper (envOfC qual (defScope st) s.heap.objs.size f (.ref c))) → spc (Cal P w K mg base outer H s) vs H Q E0 →
      ∃ t, PSs (cxOf L2.CX0 P w K mg base N qual (defScope st) f (.ref c) A outer s H E0).nox (defBody st) t ∧ t { nx := fun _ H' => Q .non H', rt := Q } (L2.start N vs) H) : FnOkC P w K mg base (k + 1) f fd ps spc := by
  obtain ⟨oc, od, kV, doc, pm, an, ct, osl, rfl, lk, hcd⟩ := F.ex
  refine ⟨len, fun A outer s H args us vs Q hr e0 hb r h => ?_⟩
  refine run_ofS (N := N) lk hcd S hr e0 hb r (len _ _ _ _ _ h) fun hr' => ?_
  obtain ⟨t, ht, q⟩ := hbody A outer s H vs Q hr' h
  exact ⟨t, ht.nox, q⟩
theorem FunT.toFun {x qual : Str} {st : Stmt} {f c : Addr} {fd : FuncData} (F : FunT K x qual st f fd c) (kp : PySem.W.keepIn K (.ref f) = true) : L2.Fun K x qual st f fd := by
  obtain ⟨oc, od, kV, doc, pm, an, ct, osl, e, lk, hcd⟩ := F.ex
  exact ⟨⟨oc, od, kV, doc, pm, an, .ref c, ct, osl, e, lk, hcd⟩, kp⟩
theorem funT_mk {x qual : Str} {st : Stmt} {f c : Addr} {oc : Value} {od an : Option Addr} {osl : Array (Option Value)} {kV doc pm ct : Value} (l : K.lookup f = some ⟨oc, od, .func (PySem.W.fnOf x qual (defArgs st) (defBody st) (defScope st) .none kV doc pm an (.ref c) ct), osl⟩)
    (h : PySem.W.codeIn K (.ref c) qual = true) : FunT K x qual st f (PySem.W.fnOf x qual (defArgs st) (defBody st) (defScope st) .none kV doc pm an (.ref c) ct) c := ⟨⟨oc, od, kV, doc, pm, an, ct, osl, rfl, l, h⟩⟩
end
/-- what can be called in X: what its def was handed -/
abbrev Kn (X : Cx) : CP := Cal X.prog X.w X.K X.mg X.base X.outer X.H_0 X.s_0
/-! ### the lambda's names -/
structure LamP (sc scope : Scope) (par : Str) : Prop where
  kind : scope.kind = .function
  co : scope.isCoroutine = false
  gen : scope.isGenerator = false
  own : ∀ y ∈ scope.names, y.2 ≠ .cell ∧ (y.2 = .local → y.1 = par)
  par : scope.names.lookup par = some .local
  free : ∀ y ∈ scope.names, y.2 = .free → sc.names.lookup y.1 = some .cell ∨ sc.names.lookup y.1 = some .free
def lamPB (sc scope : Scope) (par : Str) : Bool :=
  decide (scope.kind = .function) && !scope.isCoroutine && !scope.isGenerator && decide (scope.names.lookup par = some .local) && scope.names.all fun y => !decide (y.2 = .cell) && (!decide (y.2 = .local) || decide (y.1 = par)) && (!decide (y.2 = .free) || decide (sc.names.lookup y.1 = some .cell) || decide (sc.names.lookup y.1 = some .free))
theorem lamP_by {sc scope : Scope} {par : Str} (h : lamPB sc scope par = true) : LamP sc scope par := by
  unfold lamPB at h
  simp only [Bool.and_eq_true, Bool.or_eq_true, Bool.not_eq_true', decide_eq_true_eq, decide_eq_false_iff_not, List.all_eq_true] at h
  obtain ⟨⟨⟨⟨h1, h2⟩, h3⟩, h5⟩, h4⟩ := h
  refine ⟨h1, h2, h3, fun y hy => ⟨(h4 y hy).1.1, fun e => ?_⟩, h5, fun y hy e => ?_⟩
  · rcases (h4 y hy).1.2 with z | z
    · exact absurd e z
    · exact z
  · rcases (h4 y hy).2 with (z | z) | z
    · exact absurd e z
    · exact .inl z
    · exact .inr z
theorem LamP.has {X : Cx} {scope : Scope} {par : Str} (L : LamP X.env.scope scope par) (ok : X.Ok) : ∀ y ∈ scope.names, y.2 = .free → ∃ c, X.env.cells.lookup y.1 = some c := fun y hy e => by
  rcases L.free y hy e with k | k
  · exact ok.has _ (.inl k)
  · exact ok.has _ (.inr k)
/-- the context of the lambda's body, entered at s from the frames outer: X's names and the parameter -/
def lamCxP (X : Cx) (A : Around) (outer : List Env) (s : Shared) (H : Hp) (scope : Scope) (f c' : Addr) (par : Str) : Cx where
  prog := X.prog
  w := X.w
  K := X.K
  mg := X.mg
  base := X.base
  A := A.deeper (lamEnv X scope s.heap.objs.size f c')
  N := X.N ++ [par]
  s_0 := s
  H_0 := H
  env := lamEnv X scope s.heap.objs.size f c'
  outer := outer
  stack := lamEnv X scope s.heap.objs.size f c' :: outer
  ex := []
  fn := fun _ => false
  calm := true
  pn := []
  xe := fun e s' => wpAny (model X.prog X.w) (A.deeper (lamEnv X scope s.heap.objs.size f c')) (leaving (lamEnv X scope s.heap.objs.size f c') e) (fun _ s'' => L2.CX0 outer H s E0 e s'') (fun e' s'' => L2.CX0 outer H s E0 e' s'') s'
section
variable {X : Cx} {pins : List (Addr × Obj)} {σ : L2.St} {H HZ : Hp} {s s1 : Shared}
theorem lam_startP {A : Around} {outer : List Env} {scope : Scope} {f c' : Addr} {h₁ : Heap} {tk : Nat} {par : Str} {v : V} {u : Value} (I : Inv X pins σ H s) (L : LamP X.env.scope scope par) (hpar : par ∉ X.N) (rv : RelV v u)
    (e0 : Env0 X.prog X.w X.K X.mg X.base A outer s1 HZ) (hd : A.handled = none)
    (un : Un (frs X.stack) [] H HZ s.heap s1.heap) (hns : h₁.Ns s1.heap.objs.size fun y => ([(par, u)] : List (Str × Value)).reverse.lookup y) (kp : ∀ b o, s1.heap.get? b = some o → h₁.get? b = some o) :
    Inv (lamCxP X A outer s1 HZ scope f c' par) [] (σ ++ [some v]) HZ { s1 with heap := h₁, toks := tk } := by
  have hfree := L.has I.ok
  have cm : ∀ {y c}, (cloFrom X.env.cells scope.names []).lookup y = some c → X.env.cells.lookup y = some c := fun {y c} e => by
    rcases cloFrom_mem (PySem.mem_of_lookup e) with hm | ⟨h1, h2⟩
    · cases hm
    · obtain ⟨c1, hc⟩ := hfree _ h1 rfl
      have hc : X.env.cells.lookup y = some c1 := hc
      have e2 : c = c1 := by
        rw [h2, hc] <;> rfl
      rw [e2]
      exact hc
  have look : ∀ {y}, scope.names.lookup y = some .free → ∃ c, (cloFrom X.env.cells scope.names []).lookup y = some c := fun {y} hl => by
    have hy : (y, NameKind.free) ∈ scope.names := PySem.mem_of_lookup hl
    exact mem_lookup (cloFrom_has (cells := X.env.cells) (acc := []) hy)
  have cellK : ∀ {c : Addr} {v : Option Value}, H c = none → s.heap.IsCell c v → h₁.IsCell c v := fun {c v} n ⟨o, ho, hd⟩ => by
    obtain ⟨sl, q⟩ := un.any ho n (by simp)
    exact ⟨_, kp _ _ q, hd⟩
  have noA : ∀ b : Addr, b ∉ (lamCxP X A outer s1 HZ scope f c' par).ex := fun b z => absurd (show b ∈ ([] : List Addr) from z) (by simp)
  refine ⟨⟨e0.mod, L.kind, rfl, rfl, Nat.le_refl _, fun y z c e1 e2 => I.ok.inj y z c (cm e1) (cm e2), fun y hy => ?_, fun y c z _ => ?_, fun _ => hd, Around.frames_deeper e0.frames, .inr ⟨rfl, rfl⟩, fun b z => absurd z (noA b), e0.bs, e0.bsz, fun b _ _ => noA b,
      fun b z => absurd z (noA b), e0.funs, e0.frf⟩,
    rfl, e0.bare, Un.kept kp, ⟨_, hns, fun i y v' e1 e2 e3 => ?_⟩, fun y c e => ?_, e0.hok.fresh (Nat.le_refl _), fun y c e => ?_, fun q hq => absurd (show q ∈ ([] : List (Addr × Obj)) ++ [] from hq) (by simp), e0.hok.kept kp, ?_⟩
  · have hy : scope.names.lookup y = some .cell ∨ scope.names.lookup y = some .free := hy
    rcases hy with hy | hy
    · exact absurd rfl (L.own _ (PySem.mem_of_lookup hy)).1
    · exact look hy
  · have z : false = true := z
    cases z
  · have e3 : Vis scope y := e3
    have e1 : (X.N ++ [par])[i]? = some y := e1
    by_cases hi : i < X.N.length
    · rw [List.getElem?_append_left hi] at e1
      rw [List.getElem?_append_left (by rw [I.len]; exact hi)] at e2
      have ny : y ≠ par := fun z => hpar (by rw [← z]; exact List.mem_of_getElem? e1)
      rcases e3 with k | k | k
      · exact absurd ((L.own _ (PySem.mem_of_lookup k)).2 rfl) ny
      · exact absurd rfl (L.own _ (PySem.mem_of_lookup k)).1
      · obtain ⟨m, hn, hl⟩ := I.loc
        have hvis : Vis X.env.scope y := (L.free _ (PySem.mem_of_lookup k) rfl).elim (fun k => .inr (.inl k)) (fun k => .inr (.inr k))
        obtain ⟨w', r, q⟩ := hl i y v' e1 e2 hvis
        obtain ⟨c2, h2⟩ := look k
        refine ⟨w', r, .inr ⟨.inr k, c2, h2, ?_⟩⟩
        have c1 := cm h2
        rcases q with ⟨k', _⟩ | ⟨_, c3, e', z⟩
        · have k' : X.env.scope.names.lookup y = some .local := k'
          rcases L.free _ (PySem.mem_of_lookup k) rfl with k2 | k2 <;> rw [show X.env.scope.names.lookup y = _ from k2] at k' <;> cases k'
        · rw [c1] at e'
          cases e'
          exact cellK (I.freeC y _ c1) z
    · have hi' : i = X.N.length := by
        have := (List.getElem?_eq_some_iff.mp e1).1
        rw [List.length_append, List.length_singleton] at this
        omega
      subst hi'
      rw [List.getElem?_append_right (Nat.le_refl _), Nat.sub_self] at e1
      rw [← I.len, List.getElem?_append_right (Nat.le_refl _), Nat.sub_self] at e2
      cases e1
      cases e2
      refine ⟨u, rv, .inl ⟨L.par, ?_⟩⟩
      show ([(par, u)] : List (Str × Value)).lookup par = some u
      simp [List.lookup]
  · obtain ⟨w', z⟩ := I.cell y c (cm e)
    exact ⟨w', cellK (I.freeC y c (cm e)) z⟩
  · obtain ⟨v, o, ho, hd⟩ := I.cell y c (cm e)
    exact un.free c o ho (I.freeC y c (cm e)) (by simp)
  · show (σ ++ [some v]).length = (X.N ++ [par]).length
    rw [List.length_append, List.length_append, I.len]
    rfl
/-- the promise of a lambda: its code object, its body's reading -/
def spLam (c' : Addr) (q : Str) (σ : L2.St) (tb : TE) : Sp := fun vs H Q _ => ∃ v, vs = [v] ∧ H c' = some (CodeO c' q) ∧ tb (σ ++ [some v]) H Q
theorem lam_cal {C : CP} {scope : Scope} {par : Str} {params : Arguments} {body : Expr} {pm ctv : Value} {f c' : Addr} {kb : Nat} {tb : TE} (I : Inv X pins σ H s) (L : LamP X.env.scope scope par) (hpar : par ∉ X.N) (hex : X.ex = [])
    (hf : s.heap.get? f = some (PySem.W.kla_obj "<lambda>" (X.env.qual ++ "<lambda>") params body scope (cloFrom X.env.cells scope.names []) pm c' ctv)) (hfn : H f = none) (hfr : f ∉ frs X.stack)
    (hbind : ∀ (q : Str) (cl : List (Str × Addr)) (pm cv ctv u : Value), bindArgs (PySem.W.kla_fn "<lambda>" q params body scope cl pm cv ctv) ⟨[u], []⟩ = pure [(par, u)])
    (hC : ∀ k f sp, C k f sp → Kn X k f sp)
    (hbody : ∀ (A : Around) (outer : List Env) (s1 : Shared) (H1 : Hp), (∀ k f sp, C k f sp → Kn (lamCxP X A outer s1 H1 scope f c' par).nox k f sp) → Room kb (A.deeper (lamEnv X scope s1.heap.objs.size f c')) → PE (lamCxP X A outer s1 H1 scope f c' par).nox body tb) :
    Cal X.prog X.w X.K X.mg X.base X.stack H s (kb + 1) f (spLam c' (X.env.qual ++ "<lambda>") σ tb) := by
  have at1 : ∀ (outer : List Env) (s1 : Shared) (H1 : Hp), Later X.stack H s outer H1 s1 → s1.heap.get? f = some (PySem.W.kla_obj "<lambda>" (X.env.qual ++ "<lambda>") params body scope (cloFrom X.env.cells scope.names []) pm c' ctv) :=
    fun outer s1 H1 l => l.un.keep f _ hf hfn hfr (by simp)
  refine ⟨fun outer s1 H1 l => ⟨_, _, _, _, at1 outer s1 H1 l⟩, fun A outer s1 HZ us vs Q hr e0 l r h => ?_⟩
  obtain ⟨v, rfl, hc, ht⟩ := h
  obtain ⟨u, rfl, rv⟩ : ∃ u, us = [u] ∧ RelV v u := by
    cases r with
    | cons r1 r2 => cases r2 with | nil => exact ⟨_, rfl, r1⟩
  have of1 := at1 outer s1 HZ l
  obtain ⟨⟨oc, ws, t, hoc, hdc, hvc⟩, _, _⟩ := e0.hok c' _ hc
  have lim : s1.heap.NoLimit := e0.mod.nolimit.keeps fun b o e => (e0.bs b o e).1
  refine PySem.W.kla_callFunE hr.depth of1 rfl L.co L.gen rfl ⟨c', oc, ws, t, rfl, hoc, hdc, hvc⟩ ?_
  rw [hbind]
  refine wpAny_pure (wpAny_newFunctionEnv (fun y hy => (L.own y hy).1) (fun y hy => ?_) (fun h₁ hns hsb => ⟨lim.fresh _ hsb, ?_⟩) L.kind)
  · have e : y = (par, u) := by simpa using hy
    rw [e]
    exact L.par
  show codeAny _ _ (.expr body (lamEnv X scope s1.heap.objs.size f c')) _ _
  have kp : ∀ b o, s1.heap.get? b = some o → h₁.get? b = some o := fun b o e => hsb.extBut b o (Nat.ne_of_lt (Heap.lt_size e)) (Heap.get?_push_of_some _ e)
  have J : Inv (lamCxP X A outer s1 HZ scope f c' par) [] (σ ++ [some v]) HZ { s1 with heap := h₁, toks := s1.toks + ([(par, u)] : List (Str × Value)).length } := lam_startP I L hpar rv e0 hr.hd l.un hns kp
  have hb := hbody A outer s1 HZ (fun k f sp c => (hC k f sp c).later ((later_of I hex).trans l)) (hr.deeper _)
  refine PySem.W.kla_codeExpr (wpAny_mono (hb.nox.run [] _ _ HZ Q J ht) (fun v s' hq => ?_) fun e s' hq => hq)
  obtain ⟨w', H', J', rv', q⟩ := hq
  exact ⟨w', H', J'.os, J'.bare, J'.base, J'.hok, rv', q⟩
/-- x(e, ..), x a parameter (or a captured name) that holds what can be called -/
def tCal (C : CP) (k i : Nat) (t : TA) : TE := fun σ H Q => ∃ f sp, σ[i]? = some (some (.ref f)) ∧ C k f sp ∧ t σ H fun vs H1 => sp vs H1 Q E0
theorem pe_cal {C : CP} {k i : Nat} {a : Str} {e : Expr} {es : List Expr} {t : TA} {p pos : Pos} (hC : ∀ k f sp, C k f sp → Kn X k f sp) (hr : Room k X.A) (hN : X.N[i]? = some a) (hv : Vis X.env.scope a) (hex : X.ex = []) (ha : PA X (e :: es) t)
    (hd : (a == ("__debug__" : Str)) = false := by decide) (hcd : (a == ("__classdict__" : Str)) = false := by decide) (he : starEach (e :: es) X.env = (false, eval e X.env) :: starEach es X.env := by rfl) (hpl : (backTo pos (starEach es X.env)).any (·.1) = false := by rfl) :
    PE X (.Call (.Name a p) (e :: es) [] pos) (tCal C k i t) := by
  refine ⟨fun pins s σ H Q I h => ?_⟩
  obtain ⟨f, sp, hs, hc, ht⟩ := h
  refine wpAny_Call_Name_kw (thn ((pe_var (pos := p) (i := i) hN hv hd hcd).run pins s σ H (fun v H1 => v = .ref f ∧ H1 = H) I ⟨.ref f, hs, rfl, rfl⟩) fun u s1 ⟨v, H1, I1, r1, q1⟩ => ?_)
  obtain ⟨ev, eH⟩ := q1
  subst ev
  rw [eH] at I1
  obtain rfl : u = Value.ref f := r1
  have cal := hC k f sp hc
  refine PySem.W.callWith_F (cal.fn _ _ _ (later_of I1 hex)) (thn (ha.run pos pins s1 σ H _ I1 ht) fun us s2 ⟨vs, H2, I2, r, q⟩ => ⟨cal.fn _ _ _ (later_of I2 hex), ?_⟩) he hpl
  refine wpAny_call (codeAny_mono (cal.run X.A X.stack s2 H2 us vs Q hr I2.env0 (later_of I2 hex) r q) fun r s' hq => ?_)
  cases r with
  | error e => exact (show False from hq).elim
  | ok fl =>
    cases fl with
    | ret u => exact I2.after hq
    | next => exact False.elim hq
    | brk => exact False.elim hq
    | cont => exact False.elim hq
/-- x(e, ..), x a local name that holds one of some defs -/
def tCallV (C : Addr → Sp → Prop) (i : Nat) (t : TA) : TE := fun σ H Q => ∃ f sp, σ[i]? = some (some (.ref f)) ∧ C f sp ∧ t σ H fun vs H1 => sp vs H1 Q E0
theorem pe_callV {C : Addr → Sp → Prop} {i : Nat} {a : Str} {e : Expr} {es : List Expr} {t : TA} {p pos : Pos}
    (hC : ∀ f sp, C f sp → ∃ (k : Nat) (fd : FuncData) (ps : List Str), FnOk X.prog X.w X.K X.mg X.base L2.CX0 k f fd ps sp ∧ Room k X.A ∧ PySem.W.keepIn X.K (.ref f) = true ∧ L2.Binds X.K fd ps [])
    (hN : X.N[i]? = some a) (hv : Vis X.env.scope a) (ha : PA X (e :: es) t)
    (hd : (a == ("__debug__" : Str)) = false := by decide) (hcd : (a == ("__classdict__" : Str)) = false := by decide) (he : starEach (e :: es) X.env = (false, eval e X.env) :: starEach es X.env := by rfl) (hpl : (backTo pos (starEach es X.env)).any (·.1) = false := by rfl) :
    PE X (.Call (.Name a p) (e :: es) [] pos) (tCallV C i t) := by
  refine ⟨fun pins s σ H Q I h => ?_⟩
  obtain ⟨f, sp, hs, hc, ht⟩ := h
  refine wpAny_Call_Name_kw (thn ((pe_var (pos := p) (i := i) hN hv hd hcd).run pins s σ H (fun v H1 => v = .ref f ∧ H1 = H) I ⟨.ref f, hs, rfl, rfl⟩) fun u s1 ⟨v, H1, I1, r1, q1⟩ => ?_)
  obtain ⟨ev, eH⟩ := q1
  subst ev
  rw [eH] at I1
  obtain rfl : u = Value.ref f := r1
  obtain ⟨k, fd, ps, F, hr, hk, hb⟩ := hC f sp hc
  refine PySem.W.callWith_K (h₀ := X.base) I1.ok.mod.kin hk (thn (ha.run pos pins s1 σ H _ I1 ht) fun us s2 ⟨vs, H2, I2, r, q⟩ => ⟨I2.kIn, ?_⟩) he hpl
  exact run_fn (dvs := []) (ds := []) F hr hb .nil pass0 I2 r (by rw [List.append_nil]; exact q)
/-- all but the tables stays, the tables are told -/
def Sm (T : List (Addr × Str)) (H H' : Hp) : Prop := ExtN H H' ∧ (Tabs T H → Tabs T H')
theorem Sm.refl {T : List (Addr × Str)} (H : Hp) : Sm T H H := ⟨ExtN.refl H, fun h => h⟩
theorem Sm.trans {T : List (Addr × Str)} {H H1 H2 : Hp} (a : Sm T H H1) (b : Sm T H1 H2) : Sm T H H2 := ⟨a.1.trans b.1, fun h => b.2 (a.2 h)⟩
def tLamC (T : List (Addr × Str)) (q : Str) (spc : CP → Sp) (C : CP) (kb : Nat) (tb : TE) (t : TA) : TE := fun σ H Q => Tabs T H ∧ ∀ (f c' : Addr) (H1 : Hp), Sm T H H1 → H1 c' = some (CodeO c' q) → t σ H1 fun vs H2 =>
  ∀ C' : CP, (∀ k g sp, C k g sp → C' k g sp) → (∀ k sp, kb + 1 ≤ k → (∀ ws H3 Q3, sp ws H3 Q3 E0 → spLam c' q σ tb ws H3 Q3 E0) → C' k f sp) → spc C' (.ref f :: vs) H2 Q E0
/-- x(lambda par: body, e, ..) -/
theorem pe_lamC {T : List (Addr × Str)} {x par : Str} {g c P : Addr} {kg kb : Nat} {fd : FuncData} {ps : List Str} {spc : CP → Sp} {C : CP} {params : Arguments} {body : Expr} {scope : Scope} {tb : TE} {t : TA} {es : List Expr} {p lpos pos : Pos}
    (G : FnOkC X.prog X.w X.K X.mg X.base kg g fd ps spc) (hr : Room kg X.A) (hg : Gl X x) (hm : X.mg x = some (.ref g)) (hk : PySem.W.keepIn X.K (.ref g) = true) (hb : L2.Binds X.K fd ps [])
    (TB : TabB X.base X.mg c P) (hcode : X.env.code = .ref c) (hmT : (P, X.env.qual ++ "<lambda>") ∈ T) (hu : ∀ p ∈ T, p.1 = P → p.2 = X.env.qual ++ "<lambda>")
    (L : LamP X.env.scope scope par) (hpar : par ∉ X.N) (hex : X.ex = []) (hdef : defaultsOf params X.env = ([], []))
    (hbind : ∀ (q : Str) (cl : List (Str × Addr)) (pm cv ctv u : Value), bindArgs (PySem.W.kla_fn "<lambda>" q params body scope cl pm cv ctv) ⟨[u], []⟩ = pure [(par, u)])
    (hC : ∀ k f sp, C k f sp → Kn X k f sp)
    (hbody : ∀ (A : Around) (outer : List Env) (s1 : Shared) (H1 : Hp) (f c' : Addr), (∀ k f sp, C k f sp → Kn (lamCxP X A outer s1 H1 scope f c' par).nox k f sp) → Room kb (A.deeper (lamEnv X scope s1.heap.objs.size f c')) → PE (lamCxP X A outer s1 H1 scope f c' par).nox body tb)
    (ha : PA X es t) (hdb : (x == ("__debug__" : Str)) = false := by decide) (hpl : (backTo pos (starEach es X.env)).any (·.1) = false := by rfl) :
    PE X (.Call (.Name x p) (.Lambda params body scope lpos :: es) [] pos) (tLamC T (X.env.qual ++ "<lambda>") spc C kb tb t) := by
  refine ⟨fun pins s σ H Q I h => ?_⟩
  obtain ⟨hT, h⟩ := h
  refine wpAny_Call_Name_kw (ld_glob I hg hm ?_ hdb)
  refine PySem.W.callWith_K (h₀ := X.base) I.ok.mod.kin hk ?_ (by rfl) hpl
  show wpAny _ _ (spliced ((false, eval (.Lambda params body scope lpos) X.env) :: backTo pos (starEach es X.env))) _ _ s
  refine Calls.spliced_cons (lam_make2 (E := X.xe) I TB hcode hmT hu hT hdef (L.has I.ok) fun f c' pm' ctv H1 s' I1 eN T1 hf hfn hfr hco => ?_)
  have nfL : f ≠ X.env.locals := fun z => by
    obtain ⟨m, ⟨o, es, ep, ho, hd, _⟩, _⟩ := I1.loc
    rw [← z, hf] at ho
    cases ho
    cases hd
  have nfs : f ∉ X.fs := fun z => hfr (by
    rcases I1.ok.stk with e | ⟨e, hfm⟩
    · rw [e]; exact z
    · rw [e]
      unfold frs
      rw [List.filterMap_cons, hfm]
      exact List.mem_cons_of_mem _ z)
  have I2 : Inv X ((f, PySem.W.kla_obj "<lambda>" (X.env.qual ++ "<lambda>") params body scope (cloFrom X.env.cells scope.names []) pm' c' ctv) :: pins) σ H1 s' := I1.pins_of fun q hq => by
    rcases List.mem_cons.mp hq with e | hq
    · rw [e]
      exact ⟨hf, hfn, nfL, nfs, fun v z => by cases z⟩
    · exact I1.pin q (List.mem_append_right _ hq)
  refine thn (ha.run pos _ s' σ H1 _ I2 (h f c' H1 ⟨eN, fun _ => T1⟩ hco)) fun us s2 ⟨vs, H2, I3, r, q⟩ => ⟨I3.kIn, ?_⟩
  obtain ⟨pf, pn, _, _, _⟩ := I3.pin _ (List.mem_append_right _ (List.mem_cons_self (a := (f, PySem.W.kla_obj "<lambda>" (X.env.qual ++ "<lambda>") params body scope (cloFrom X.env.cells scope.names []) pm' c' ctv))))
  have I4 : Inv X pins σ H2 s2 := I3.pins_of fun q hq => I3.pin q (List.mem_append_right _ (List.mem_cons_of_mem _ hq))
  have cal := lam_cal (C := C) (f := f) (c' := c') (kb := kb) (tb := tb) I4 L hpar hex pf pn hfr hbind hC fun A outer s1 H1 hk hr => hbody A outer s1 H1 f c' hk hr
  have hsp := q (Cal X.prog X.w X.K X.mg X.base X.stack H2 s2) (fun k g sp z => (hC k g sp z).later (later_of I4 hex)) (fun k sp hk z => cal.imp hk z)
  have r2 : Vals (.ref f :: vs) (.ref f :: us) := .cons rfl r
  have hl : (Value.ref f :: us).length = ps.length := by rw [← r2.length]; exact G.len _ _ _ _ _ hsp
  have hbi := hb s2 (.ref f :: us) I4.kIn (by rw [List.append_nil]; exact hl)
  rw [List.append_nil] at hbi
  refine wpAny_call (codeAny_mono (G.run X.A X.stack s2 H2 ⟨.ref f :: us, []⟩ (.ref f :: us) (.ref f :: vs) Q hr I4.env0 hbi r2 hsp) fun r s' hq => ?_)
  cases r with
  | error e => exact (show False from hq).elim
  | ok fl =>
    cases fl with
    | ret u => exact I4.after hq
    | next => exact False.elim hq
    | brk => exact False.elim hq
    | cont => exact False.elim hq
end
theorem Sm.of {T : List (Addr × Str)} {H H' : Hp} (a : Same H H') : Sm T H H' := ⟨fun b o e _ => a b o e, fun h => h.ext a⟩
theorem Sm.at {T : List (Addr × Str)} {H H' : Hp} {a : Addr} {o : HO} (s : Sm T H H') (h : H a = some o) (n : ∀ ps, o ≠ .tbl ps := by intro ps z; cases z) : H' a = some o := s.1 a o h n
theorem Sm.new {T : List (Addr × Str)} {H H' : Hp} {r : Addr} {o : HO} (s : Sm T H H') (h : H' r = none) : Sm T H (upd H' r o) := s.trans (.of fun q u e => by rw [upd_ne (ne_of_none e h)]; exact e)
theorem Sm.mut {T : List (Addr × Str)} {H H' : Hp} {r : Addr} {o u : HO} (s : Sm T H H') (hn : H r = none) (h : H' r = some u) (hu : ∀ ps, u ≠ .tbl ps := by intro ps z; cases z) (hc : ∀ c q, u ≠ CodeO c q := by intro c q z; cases z) : Sm T H (upd H' r o) := by
  refine ⟨fun b w e n => ?_, fun t p hp => ?_⟩
  · rw [upd_ne (ne_of_none e hn)]
    exact s.1 b w e n
  · obtain ⟨ps, a1, a2, a3⟩ := s.2 t p hp
    refine ⟨ps, by rw [upd_ne (fun z => by rw [z, h] at a1; cases a1; exact hu ps rfl)]; exact a1, a2, fun pos cv e => ?_⟩
    obtain ⟨c, e1, e2⟩ := a3 pos cv e
    exact ⟨c, e1, by rw [upd_ne (fun z => by rw [z, h] at e2; exact hc _ _ (Option.some.inj e2))]; exact e2⟩
theorem Sm.seqT {K : PySem.W.Frag} {T : List (Addr × Str)} {H H' : Hp} {a : Addr} {xs : List V} (s : Sm T H H') (h : SqL K H a xs) : SqL K H' a xs := by
  rcases h with (h | ⟨o, h⟩) | h
  · exact .inl (.inl (s.at h))
  · exact .inl (.inr ⟨o, s.at h⟩)
  · exact .inr h
theorem tabIn_of {K : PySem.W.Frag} {x : Str} {f c P : Addr} {oc o1 : Value} {od o2 : Option Addr} {fd : FuncData} {sl o3 : Array (Option Value)} {vs : Array Value} (a : PySem.W.nsIn K mainGlobals x = some (some (.ref f))) (l : K.lookup f = some ⟨oc, od, .func fd, sl⟩) (hc : fd.code = .ref c)
    (lc : K.lookup c = some ⟨o1, o2, .fields vs, o3⟩) (hv : vs[11]? = some (.ref P)) : PySem.W.tabIn K x = some (c, P) := by
  unfold PySem.W.tabIn
  rw [a]
  simp only [l, hc, lc, hv]
theorem no_tab {K : PySem.W.Frag} {h : Heap} {P : Addr} (X : K.In h) (hP : h.get? P = some { cls := .none, data := .fields #[] }) (hK : PySem.W.noTabs K = true) : K.lookup P = none := by
  cases q : K.lookup P with
  | none => rfl
  | some o =>
    have e := X _ _ q
    rw [hP] at e
    cases e
    have h2 := List.all_eq_true.mp hK (P, _) (PySem.W.mem_of_lookupK q)
    exact absurd (show false = true from h2) Bool.false_ne_true
theorem tab_uniq : ∀ {l : List (Addr × Str)}, (l.map (·.1)).Nodup → ∀ {P : Addr} {s : Str}, (P, s) ∈ l → ∀ p ∈ l, p.1 = P → p.2 = s
  | [], _, _, _, h => by cases h
  | q :: r, nd, P, s, h => fun p hp e => by
    rw [List.map_cons, List.nodup_cons] at nd
    rcases List.mem_cons.mp h with h | h
    · rcases List.mem_cons.mp hp with hp | hp
      · rw [hp, ← h]
      · exact absurd (List.mem_map.mpr ⟨p, hp, by rw [e, ← h]⟩) nd.1
    · rcases List.mem_cons.mp hp with hp | hp
      · exact absurd (List.mem_map.mpr ⟨_, h, by rw [← e, hp]⟩) nd.1
      · exact tab_uniq nd.2 h p hp e
/-- the end, with tables -/
theorem walk_tabs {l : PySem.W.OpenLaw} {n k : Nat} {q : Program} {loose : List Str} {XP : (Str → Option Value) → Heap → Prop} {YP : World → Heap → Prop} {d : DefRec} {K : Params → PySem.W.Frag} {CX : World → CXT} {x : Str}
    (hn : l.most = some n) (hn2 : n ≤ sizeLine) (hdf : d.params.defaults = []) (hr : Room k callerA) (hY : ∀ (w : World) (h : Heap), YP w h → (K w.params).In h)
    (F : ∀ (w : World) (mg : Str → Option Value) (fa : Addr) (h : Heap), (∀ (y : Str) (c P : Addr), ((recsOf q).find? (fun e => e.name == y)).isSome = true → PySem.W.tabIn (K w.params) y = some (c, P) → PySem.W.CodeHd h c P ∧ h.get? P = some { cls := .none, data := .fields #[] }) →
      (K w.params).In h → h.Ns mainGlobals mg → mg d.name = some (.ref fa) → LawAtS l w (K w.params) (CX w) k n x mg fa h)
    (hCX : ∀ (w : World) (H : Hp) (s : Shared) (e : Value) (s' : Shared), CX w [] H s (fun _ _ _ => False) e s' → False) :
    PySem.W.WalkO q loose XP YP l.row.toRowW d [] (fun f vs => PySem.call f vs) := by
  refine Att.attach_callB hn hdf fun w s₀ s₁ mg mb fa o pm cd doc a vs ns G Y ho hd hcd hmg hobj hints hlen hbits hg => ?_
  have KX := hY w _ Y
  obtain ⟨fd, cs, sp, hT, nT, C, hb, hsp, hF⟩ := F w mg fa _ (fun y c P hr ht => by
    obtain ⟨d', hd'⟩ := Option.isSome_iff_exists.mp hr
    exact PySem.W.tab_of G.T KX hd' ht) KX G.T.g hmg
  exact law_callTs KX G.T.g G.T.b G.T.builtins G.T.nolimit hg hT nT C G.T.bmain hobj hints (Nat.le_trans hlen hn2) hr hF hb (fun H hH hS => hsp H a ns hlen hbits hH hS) fun H e s' => hCX w H s₁ e s'
end Fw
namespace Fw
/-! ### sums, counts -/
def sZ (f : Nat → Int) : Nat → Int
  | 0 => 0
  | n + 1 => sZ f n + f n
theorem sZ_congr {f g : Nat → Int} : ∀ {n : Nat}, (∀ i, i < n → f i = g i) → sZ f n = sZ g n
  | 0, _ => rfl
  | n + 1, h => by
    show sZ f n + f n = sZ g n + g n
    rw [sZ_congr (n := n) fun i hi => h i (by omega), h n (by omega)]
theorem sZ_add (f g : Nat → Int) : ∀ n : Nat, sZ (fun i => f i + g i) n = sZ f n + sZ g n
  | 0 => rfl
  | n + 1 => by
    show sZ _ n + (f n + g n) = (sZ f n + f n) + (sZ g n + g n)
    rw [sZ_add f g n]; omega
theorem sZ_sub (f g : Nat → Int) : ∀ n : Nat, sZ (fun i => f i - g i) n = sZ f n - sZ g n
  | 0 => rfl
  | n + 1 => by
    show sZ _ n + (f n - g n) = (sZ f n + f n) - (sZ g n + g n)
    rw [sZ_sub f g n]; omega
theorem sZ_zero : ∀ n : Nat, sZ (fun _ => 0) n = 0
  | 0 => rfl
  | n + 1 => by
    show sZ _ n + 0 = 0
    rw [sZ_zero n]; rfl
theorem sZ_const (c : Int) : ∀ n : Nat, sZ (fun _ => c) n = n * c
  | 0 => by simp [sZ]
  | n + 1 => by
    show sZ _ n + c = _
    rw [sZ_const c n, Int.natCast_succ, Int.add_mul, Int.one_mul]
theorem sZ_mul (c : Int) (f : Nat → Int) : ∀ n : Nat, sZ (fun i => c * f i) n = c * sZ f n
  | 0 => by simp [sZ]
  | n + 1 => by
    show sZ _ n + c * f n = c * (sZ f n + f n)
    rw [sZ_mul c f n, Int.mul_add]
theorem sZ_head (f : Nat → Int) : ∀ n : Nat, sZ f (n + 1) = f 0 + sZ (fun i => f (i + 1)) n
  | 0 => by simp [sZ]
  | n + 1 => by
    show sZ f (n + 1) + f (n + 1) = f 0 + (sZ (fun i => f (i + 1)) n + f (n + 1))
    rw [sZ_head f n]; omega
theorem sZ_rev (f : Nat → Int) : ∀ n : Nat, sZ (fun i => f (n - 1 - i)) n = sZ f n
  | 0 => rfl
  | n + 1 => by
    rw [sZ_head]
    show f (n + 1 - 1 - 0) + _ = sZ f n + f n
    have e : sZ (fun i => f (n + 1 - 1 - (i + 1))) n = sZ (fun i => f (n - 1 - i)) n := sZ_congr fun i _ => by
      show f _ = f _
      congr 1; omega
    rw [e, sZ_rev f n, Nat.add_sub_cancel, Nat.sub_zero]; omega
theorem sZ_swap (f : Nat → Nat → Int) (m : Nat) : ∀ n : Nat, sZ (fun i => sZ (fun j => f i j) m) n = sZ (fun j => sZ (fun i => f i j) n) m
  | 0 => by
    show 0 = sZ (fun _ => 0) m
    rw [sZ_zero]
  | n + 1 => by
    show sZ _ n + sZ _ m = _
    rw [sZ_swap f m n, ← sZ_add]
    rfl
theorem sZ_split (f : Nat → Int) (n : Nat) : ∀ m : Nat, sZ f (n + m) = sZ f n + sZ (fun i => f (n + i)) m
  | 0 => by show sZ f n = sZ f n + 0; omega
  | m + 1 => by
    show sZ f (n + m) + f (n + m) = sZ f n + (sZ _ m + f (n + m))
    rw [sZ_split f n m]; omega
theorem sZ_nonneg {f : Nat → Int} : ∀ {n : Nat}, (∀ i, i < n → 0 ≤ f i) → 0 ≤ sZ f n
  | 0, _ => Int.le_refl 0
  | n + 1, h => by
    have a := sZ_nonneg (f := f) (n := n) fun i hi => h i (by omega)
    have b := h n (by omega)
    show 0 ≤ sZ f n + f n
    omega
/-- n (n - 1) / 2 -/
theorem sZ_id : ∀ n : Nat, sZ (fun i => (i : Int)) n = (n : Int) * ((n : Int) - 1) / 2
  | 0 => by simp [sZ]
  | n + 1 => by
    show sZ _ n + (n : Int) = _
    rw [sZ_id n]
    have e : ((n + 1 : Nat) : Int) * (((n + 1 : Nat) : Int) - 1) = (n : Int) * ((n : Int) - 1) + 2 * n := by
      rw [Int.natCast_succ, show (n : Int) + 1 - 1 = n by omega, Int.add_mul, Int.mul_sub]
      omega
    rw [e, Int.mul_comm 2 (n : Int), Int.add_mul_ediv_right _ _ (by decide)]
/-! ### sums of quotients -/
def QS (a b m : Int) (n : Nat) : Int := sZ (fun i => (a * i + b) / m) n
theorem QS_red (a b : Int) {m : Int} (hm : 0 < m) (n : Nat) : QS a b m n = (n : Int) * ((n : Int) - 1) / 2 * (a / m) + (n : Int) * (b / m) + QS (a % m) (b % m) m n := by
  unfold QS
  have e : sZ (fun i => (a * (i : Int) + b) / m) n = sZ (fun i => ((a / m) * (i : Int) + b / m) + (a % m * (i : Int) + b % m) / m) n := sZ_congr fun i _ => by
    have ea := Int.emod_add_mul_ediv a m
    have eb := Int.emod_add_mul_ediv b m
    have z : a * (i : Int) + b = (a % m * (i : Int) + b % m) + m * ((a / m) * (i : Int) + b / m) := by
      have h1 : a * (i : Int) = (a % m + m * (a / m)) * (i : Int) := by rw [ea]
      rw [h1, Int.add_mul, Int.mul_add, Int.mul_assoc]
      omega
    show (a * (i : Int) + b) / m = _
    rw [z, Int.add_mul_ediv_left _ _ (Int.ne_of_gt hm)]
    omega
  rw [e, sZ_add, sZ_add, sZ_mul, sZ_const, sZ_id, Int.mul_comm (a / m)]
/-- how often (j + 1) m ≤ y -/
theorem sZ_le {m y : Int} (hm : 0 < m) (hy : 0 ≤ y) : ∀ n : Nat, y / m ≤ n → sZ (fun j => if ((j : Int) + 1) * m ≤ y then 1 else 0) n = y / m
  | 0, h => by
    have := Int.ediv_nonneg hy (Int.le_of_lt hm)
    show 0 = y / m
    omega
  | n + 1, h => by
    have iff : ((n : Int) + 1) * m ≤ y ↔ (n : Int) + 1 ≤ y / m := (Int.le_ediv_iff_mul_le hm).symm
    show sZ _ n + (if ((n : Int) + 1) * m ≤ y then 1 else 0) = y / m
    by_cases c : (n : Int) + 1 ≤ y / m
    · have e : y / m = (n : Int) + 1 := by omega
      rw [if_pos (iff.mpr c), e]
      have all : sZ (fun j => if ((j : Int) + 1) * m ≤ y then 1 else 0) n = sZ (fun _ => 1) n := sZ_congr fun j hj => by
        have : ((j : Int) + 1) * m ≤ y := (Int.le_ediv_iff_mul_le hm).mp (by omega)
        rw [if_pos this]
      rw [all, sZ_const]; omega
    · rw [if_neg fun z => c (iff.mp z), sZ_le hm hy n (by omega)]; omega
/-- the points below a line, row by row -/
theorem QS_turn {a b m : Int} (ha : 0 < a) (ham : a < m) (hb : 0 ≤ b) (hbm : b < m) (n : Nat) {N : Nat} (hN : (N : Int) = (a * n + b) / m) : QS a b m n = QS m ((a * n + b) % m) a N := by
  have hm : 0 < m := by omega
  unfold QS
  have hai : ∀ i : Nat, 0 ≤ a * (i : Int) := fun i => Int.mul_nonneg (Int.le_of_lt ha) (Int.natCast_nonneg i)
  have e1 : sZ (fun i => (a * (i : Int) + b) / m) n = sZ (fun i => sZ (fun j => if ((j : Int) + 1) * m ≤ a * (i : Int) + b then 1 else 0) N) n := sZ_congr fun i hi => by
    refine (sZ_le hm (by have := hai i; omega) N ?_).symm
    rw [hN]
    refine Int.ediv_le_ediv hm ?_
    have : a * (i : Int) ≤ a * (n : Int) := Int.mul_le_mul_of_nonneg_left (by omega) (Int.le_of_lt ha)
    omega
  rw [e1, sZ_swap]
  have e2 : sZ (fun j => sZ (fun i => if ((j : Int) + 1) * m ≤ a * (i : Int) + b then 1 else 0) n) N = sZ (fun j => (a * n + b - ((j : Int) + 1) * m) / a) N := sZ_congr fun j hj => by
    rw [← sZ_rev]
    have hjm : ((j : Int) + 1) * m ≤ a * n + b := (Int.le_ediv_iff_mul_le hm).mp (by omega)
    have hm1 : m ≤ ((j : Int) + 1) * m := by
      have : 1 * m ≤ ((j : Int) + 1) * m := Int.mul_le_mul_of_nonneg_right (by omega) (Int.le_of_lt hm)
      omega
    refine Eq.trans (sZ_congr fun i hi => ?_) (sZ_le ha (y := a * n + b - ((j : Int) + 1) * m) (by omega) n ?_)
    · have e : a * ((n - 1 - i : Nat) : Int) = a * n - ((i : Int) + 1) * a := by
        rw [show ((n - 1 - i : Nat) : Int) = (n : Int) - ((i : Int) + 1) by omega, Int.mul_sub, Int.mul_comm a ((i : Int) + 1)]
      show (if ((j : Int) + 1) * m ≤ a * ((n - 1 - i : Nat) : Int) + b then (1 : Int) else 0) = _
      rw [e]
      by_cases c : ((i : Int) + 1) * a ≤ a * n + b - ((j : Int) + 1) * m
      · rw [if_pos c, if_pos (by omega)]
      · rw [if_neg c, if_neg (by omega)]
    · have : (a * n + b - ((j : Int) + 1) * m) / a ≤ (a * n) / a := Int.ediv_le_ediv ha (by omega)
      rw [Int.mul_ediv_cancel_left _ (Int.ne_of_gt ha)] at this
      exact this
  rw [e2, ← sZ_rev]
  refine sZ_congr fun t ht => ?_
  have er := Int.emod_add_mul_ediv (a * n + b) m
  show (a * n + b - (((N - 1 - t : Nat) : Int) + 1) * m) / a = (m * t + (a * n + b) % m) / a
  congr 1
  rw [show ((N - 1 - t : Nat) : Int) + 1 = (N : Int) - t by omega, Int.sub_mul, hN, Int.mul_comm _ m, Int.mul_comm _ m]
  omega
theorem QS_zero {a b m : Int} (ha : 0 ≤ a) (hb : 0 ≤ b) (n : Nat) (h : a * n + b < m) : QS a b m n = 0 := by
  unfold QS
  have e : sZ (fun i => (a * (i : Int) + b) / m) n = sZ (fun _ => 0) n := sZ_congr fun i hi => by
    have h1 : a * (i : Int) ≤ a * (n : Int) := Int.mul_le_mul_of_nonneg_left (by omega) ha
    exact Int.ediv_eq_zero_of_lt (by have := Int.mul_nonneg ha (Int.natCast_nonneg i); omega) (by omega)
  rw [e, sZ_zero]
/-! ### how many x from first on -/
def cN (p : Int → Bool) (first : Int) (n : Nat) : Int := sZ (fun i => if p (first + i) = true then 1 else 0) n
def tot (p : Int → Bool) (first last : Int) : Int := cN p first (last - first + 1).toNat
theorem tot_nonneg (p : Int → Bool) (first last : Int) : 0 ≤ tot p first last := sZ_nonneg fun i _ => by
  show 0 ≤ (if p (first + i) = true then (1 : Int) else 0)
  split <;> decide
theorem tot_none {p : Int → Bool} {first last : Int} (h : last < first) : tot p first last = 0 := by
  unfold tot
  rw [show (last - first + 1).toNat = 0 by omega]
  rfl
theorem tot_step (p : Int → Bool) {first last : Int} (h : first ≤ last) : tot p first last = tot p first (last - 1) + (if p last = true then 1 else 0) := by
  unfold tot
  rw [show (last - first + 1).toNat = (last - 1 - first + 1).toNat + 1 by omega]
  show cN p first _ + (if p (first + (((last - 1 - first + 1).toNat : Nat) : Int)) = true then 1 else 0) = _
  rw [show first + (((last - 1 - first + 1).toNat : Nat) : Int) = last by omega]
theorem tot_split (p : Int → Bool) {first mid last : Int} (h1 : first - 1 ≤ mid) (h2 : mid ≤ last) : tot p first last = tot p first mid + tot p (mid + 1) last := by
  unfold tot cN
  rw [show (last - first + 1).toNat = (mid - first + 1).toNat + (last - (mid + 1) + 1).toNat by omega, sZ_split]
  congr 1
  refine sZ_congr fun i _ => ?_
  rw [show first + (((mid - first + 1).toNat + i : Nat) : Int) = mid + 1 + i by omega]
theorem tot_mono (p : Int → Bool) {first m n : Int} (h : m ≤ n) : tot p first m ≤ tot p first n := by
  by_cases c : first - 1 ≤ m
  · rw [tot_split p c h]
    have := tot_nonneg p (m + 1) n
    omega
  · rw [tot_none (p := p) (show m < first by omega)]
    exact tot_nonneg p first n
theorem tot_one (p : Int → Bool) (x : Int) : tot p x x = if p x = true then 1 else 0 := by
  rw [tot_step p (Int.le_refl x), tot_none (show x - 1 < x by omega)]; omega
theorem tot_congr {p q : Int → Bool} {first last : Int} (h : ∀ x, first ≤ x → x ≤ last → p x = q x) : tot p first last = tot q first last := by
  unfold tot cN
  refine sZ_congr fun i hi => ?_
  rw [h (first + i) (by omega) (by omega)]
theorem tot_pos {p : Int → Bool} {first last x : Int} (h1 : first ≤ x) (h2 : x ≤ last) (hp : p x = true) : 0 < tot p first last := by
  have a := tot_mono p (first := first) h2
  rw [tot_step p h1, if_pos hp] at a
  have := tot_nonneg p first (x - 1)
  omega
theorem tot_zero_iff {p : Int → Bool} {first last : Int} : tot p first last = 0 ↔ ∀ x, first ≤ x → x ≤ last → p x = false := by
  constructor
  · intro h x h1 h2
    cases e : p x with
    | false => rfl
    | true => have := tot_pos h1 h2 e; omega
  · intro h
    rw [tot_congr (q := fun _ => false) h]
    unfold tot cN
    rw [show (fun i : Nat => if (fun _ : Int => false) (first + i) = true then (1 : Int) else 0) = fun _ => 0 from rfl, sZ_zero]
theorem tot_le (p : Int → Bool) {first last : Int} (h : first ≤ last + 1) : tot p first last ≤ last - first + 1 := by
  have key : ∀ n : Nat, cN p first n ≤ n := fun n => by
    induction n with
    | zero => exact Int.le_refl 0
    | succ n ih =>
      show cN p first n + (if p (first + n) = true then 1 else 0) ≤ _
      split <;> omega
  have := key (last - first + 1).toNat
  unfold tot
  omega
theorem tot_all_iff {p : Int → Bool} {first last : Int} (h : first ≤ last + 1) : tot p first last = last - first + 1 ↔ ∀ x, first ≤ x → x ≤ last → p x = true := by
  have neg : tot p first last + tot (fun x => !p x) first last = last - first + 1 := by
    unfold tot cN
    rw [← sZ_add, sZ_congr (g := fun _ => 1) fun i _ => (by show ((if p (first + i) = true then (1 : Int) else 0) + if (!p (first + i)) = true then 1 else 0) = 1; cases p (first + i) <;> rfl), sZ_const]
    omega
  constructor
  · intro e x h1 h2
    have := tot_zero_iff.mp (show tot (fun x => !p x) first last = 0 by omega) x h1 h2
    cases q : p x with
    | true => rfl
    | false => rw [q] at this; cases this
  · intro e
    have : tot (fun x => !p x) first last = 0 := tot_zero_iff.mpr fun x h1 h2 => by
      show (!p x) = false
      rw [e x h1 h2]; rfl
    omega
theorem tot_not {p : Int → Bool} {first last : Int} (h : first ≤ last + 1) : tot (fun x => !p x) first last = last - first + 1 - tot p first last := by
  have neg : tot p first last + tot (fun x => !p x) first last = last - first + 1 := by
    unfold tot cN
    rw [← sZ_add, sZ_congr (g := fun _ => 1) fun i _ => (by show ((if p (first + i) = true then (1 : Int) else 0) + if (!p (first + i)) = true then 1 else 0) = 1; cases p (first + i) <;> rfl), sZ_const]
    omega
  omega
/-- moving along -/
theorem tot_shift (p : Int → Bool) (first last d : Int) : tot (fun x => p (x + d)) first last = tot p (first + d) (last + d) := by
  unfold tot cN
  rw [show (last + d - (first + d) + 1).toNat = (last - first + 1).toNat by omega]
  refine sZ_congr fun i _ => ?_
  show (if p (first + (i : Int) + d) = true then (1 : Int) else 0) = _
  rw [show first + (i : Int) + d = first + d + i by omega]
/-- turning round -/
theorem tot_turn (p : Int → Bool) (first last : Int) : tot (fun x => p (-x)) first last = tot p (-last) (-first) := by
  unfold tot cN
  rw [show (-first - -last + 1).toNat = (last - first + 1).toNat by omega, ← sZ_rev]
  refine sZ_congr fun i hi => ?_
  show (if p (-(first + (((last - first + 1).toNat - 1 - i : Nat) : Int))) = true then (1 : Int) else 0) = _
  rw [show -(first + (((last - first + 1).toNat - 1 - i : Nat) : Int)) = -last + i by omega]
/-! ### the results of a line within bounds -/
/-- of the integers that are equal to y modulo m, one is from lo to hi -/
def inR (m lo hi y : Int) : Bool := decide (lo ≤ hi ∧ (y - lo) % m ≤ hi - lo)
theorem inR_quot {m lo hi : Int} (hm : 0 < m) (h1 : lo ≤ hi) (h2 : hi - lo < m) (y : Int) : (y - lo) / m - (y - hi - 1) / m = if inR m lo hi y = true then 1 else 0 := by
  have d1 := Int.emod_add_mul_ediv (y - lo) m
  have r0 := Int.emod_nonneg (y - lo) (Int.ne_of_gt hm)
  have r1 := Int.emod_lt_of_pos (y - lo) hm
  unfold inR
  by_cases c : (y - lo) % m ≤ hi - lo
  · rw [if_pos (decide_eq_true ⟨h1, c⟩)]
    have e : y - hi - 1 = ((y - lo) % m + (m - (hi - lo) - 1)) + m * ((y - lo) / m - 1) := by
      rw [Int.mul_sub, Int.mul_one]; omega
    have z := Int.ediv_eq_zero_of_lt (a := (y - lo) % m + (m - (hi - lo) - 1)) (b := m) (by omega) (by omega)
    rw [e, Int.add_mul_ediv_left _ _ (Int.ne_of_gt hm), z]
    omega
  · rw [if_neg (by rw [decide_eq_true_eq]; exact fun z => c z.2)]
    have e : y - hi - 1 = ((y - lo) % m - (hi - lo) - 1) + m * ((y - lo) / m) := by omega
    have z := Int.ediv_eq_zero_of_lt (a := (y - lo) % m - (hi - lo) - 1) (b := m) (by omega) (by omega)
    rw [e, Int.add_mul_ediv_left _ _ (Int.ne_of_gt hm), z]
    omega
/-- what quotient_total tells -/
def QT (a b m first last : Int) : Int := sZ (fun i => (a * (first + i) + b) / m) (last - first + 1).toNat
theorem QT_QS (a b m first last : Int) : QT a b m first last = QS a (b + a * first) m (last - first + 1).toNat := by
  unfold QT QS
  refine sZ_congr fun i _ => ?_
  rw [Int.mul_add]
  congr 1; omega
theorem QT_between {a b m first last lo hi : Int} (hm : 0 < m) (h1 : lo ≤ hi) (h2 : hi - lo < m) : QT a (b - lo) m first last - QT a (b - hi - 1) m first last = tot (fun x => inR m lo hi (a * x + b)) first last := by
  unfold QT tot cN
  rw [← sZ_sub]
  refine sZ_congr fun i _ => ?_
  rw [← inR_quot hm h1 h2]
  rw [show a * (first + (i : Int)) + (b - lo) = a * (first + (i : Int)) + b - lo by omega, show a * (first + (i : Int)) + (b - hi - 1) = a * (first + (i : Int)) + b - hi - 1 by omega]
theorem inR_none {m lo hi : Int} (h : hi < lo) (y : Int) : inR m lo hi y = false := decide_eq_false fun z => by omega
theorem tot_never {p : Int → Bool} (h : ∀ x, p x = false) (first last : Int) : tot p first last = 0 := tot_zero_iff.mpr fun x _ _ => h x
end Fw
namespace Fw
/-! ### the wanted ones, in a row -/
def wl (p : Int → Bool) (f : Int) (n : Nat) : List Int := ((List.range n).map fun i : Nat => f + (i : Int)).filter p
theorem wl_succ (p : Int → Bool) (f : Int) (n : Nat) : wl p f (n + 1) = wl p f n ++ (if p (f + n) = true then [f + (n : Int)] else []) := by
  unfold wl
  rw [List.range_succ, List.map_append, List.filter_append, List.map_singleton]
  congr 1
  cases h : p (f + (n : Int)) with
  | true => rw [List.filter_cons_of_pos h, if_pos rfl]; rfl
  | false => rw [List.filter_cons_of_neg (by rw [h]; exact Bool.false_ne_true), if_neg Bool.false_ne_true]; rfl
theorem wl_len (p : Int → Bool) (f : Int) : ∀ n : Nat, ((wl p f n).length : Int) = cN p f n
  | 0 => rfl
  | n + 1 => by
    rw [wl_succ, List.length_append]
    show _ = cN p f n + (if p (f + n) = true then 1 else 0)
    rw [← wl_len p f n]
    split <;> simp
theorem wl_tot {p : Int → Bool} {f l : Int} {n : Nat} (h : l - f + 1 = n) : ((wl p f n).length : Int) = tot p f l := by
  rw [wl_len]
  unfold tot
  rw [show (l - f + 1).toNat = n by omega]
theorem wl_mem {p : Int → Bool} {f : Int} {n : Nat} {x : Int} : x ∈ wl p f n ↔ f ≤ x ∧ x < f + n ∧ p x = true := by
  unfold wl
  rw [List.mem_filter, List.mem_map]
  constructor
  · rintro ⟨⟨i, hi, rfl⟩, h⟩
    have := List.mem_range.mp hi
    exact ⟨by omega, by omega, h⟩
  · rintro ⟨h1, h2, h3⟩
    exact ⟨⟨(x - f).toNat, List.mem_range.mpr (by omega), by omega⟩, h3⟩
/-- number k has k ahead -/
theorem wl_get {p : Int → Bool} {f : Int} : ∀ {n k : Nat} {x : Int}, (wl p f n)[k]? = some x → f ≤ x ∧ x < f + n ∧ p x = true ∧ tot p f (x - 1) = k
  | 0, k, x, h => by simp [wl] at h
  | n + 1, k, x, h => by
    rw [wl_succ] at h
    by_cases c : k < (wl p f n).length
    · rw [List.getElem?_append_left c] at h
      obtain ⟨a, b, d, e⟩ := wl_get h
      exact ⟨a, by omega, d, e⟩
    · rw [List.getElem?_append_right (by omega)] at h
      by_cases hp : p (f + n) = true
      · rw [if_pos hp] at h
        have e0 : k - (wl p f n).length = 0 := by
          have := (List.getElem?_eq_some_iff.mp h).1
          simpa using this
        rw [e0] at h
        have ex : f + (n : Int) = x := by simpa using h
        subst ex
        refine ⟨by omega, by omega, hp, ?_⟩
        rw [← wl_tot (n := n) (by omega)]
        omega
      · rw [if_neg hp] at h
        simp at h
theorem at_unique {p : Int → Bool} {f x y j : Int} (x1 : f ≤ x) (px : p x = true) (xj : tot p f (x - 1) = j) (y1 : f ≤ y) (py : p y = true) (yj : tot p f (y - 1) = j) : x = y := by
  rcases Int.lt_trichotomy x y with h | h | h
  · have := tot_mono p (first := f) (show x ≤ y - 1 by omega)
    rw [tot_step p x1, if_pos px] at this
    omega
  · exact h
  · have := tot_mono p (first := f) (show y ≤ x - 1 by omega)
    rw [tot_step p y1, if_pos py] at this
    omega
theorem wl_at {p : Int → Bool} {f : Int} {n k : Nat} {x y : Int} (h : (wl p f n)[k]? = some x) (y1 : f ≤ y) (py : p y = true) (yj : tot p f (y - 1) = k) : y = x := by
  obtain ⟨a, _, c, d⟩ := wl_get h
  exact at_unique y1 py yj a c d
theorem wl_nil {p : Int → Bool} {f l : Int} {n : Nat} (h : l - f + 1 = n) : wl p f n = [] ↔ tot p f l = 0 := by
  rw [← wl_tot h, ← List.length_eq_zero_iff]; omega
end Fw
namespace Fw
open PySem PySem.Spec PyProof.Rows L2
/-! ### ranges of any ints -/
theorem turn_long {P : Program} {w : World} {K : PySem.W.Frag} {tg : Expr} (it : Addr) (lo : Int) (n : Nat) : Turn P w K tg (Itr lo n) [it] it (fun i h => IsLongIter h it (lo + (i : Nat) * 1) ((n : Int) - (i : Nat)) 1) where
  mem := by simp
  obj := fun i h st b hb => by
    have e : b = it := by simpa using hb
    subst e
    exact ⟨_, st, fun v z => by
      have z' : Data.fields _ = Data.cell v := z
      cases z'⟩
  keep := fun i h h' st k => k it (by simp) _ st
  item := by
    intro X hP hw hK hc i pins s σ H E I hf st hg
    subst hP hw hK
    obtain ⟨f0, f1, f2, f3, f4, f5⟩ := hf it (by simp)
    have W := Walks.longrange (prog := X.prog) (w := X.w) (I.ok.hd hc) it lo 1 n
    refine W.item i s _ _ hg st fun v h' tk hv st' kk => ?_
    obtain ⟨t, rfl⟩ := hv
    have I1 : Inv X pins σ H { s with heap := h', toks := tk } := I.turned (fun b o hb e => kk b o (by simpa using hb) e) f0 f1 f3 f4 f5
    refine ⟨_, rfl, go_of (s := { s with heap := h', toks := tk }) (n := "longrange_iterator") st' rfl rfl (by decide) ⟨.int (lo + i), H, I1, ⟨t, ?_⟩, ⟨rfl, rfl⟩, st', fun b hb => (hf b hb).1⟩⟩
    rw [Int.mul_one]
  done := by
    intro X hP hw hK hc i pins s σ H E I hf st hg
    subst hP hw hK
    obtain ⟨f0, f1, f2, f3, f4, f5⟩ := hf it (by simp)
    exact wpAny_pyNext_long_end (I.ok.hd hc) st (by have : n ≤ i := hg; omega) fun h' eb => ⟨rfl, I.turned (t' := s.toks) (fun b o hb e => eb b o hb e) f0 f1 f3 f4 f5⟩
  self := fun _ _ _ _ _ st h => wpAny_pyIter_longiter st h
section
variable {X : Cx} {tg : Expr}
theorem range_itL {pins : List (Addr × Obj)} {σ : L2.St} {H : Hp} {s : Shared} {R : It → Hp → Prop} {E : Value → Shared → Prop} {lo hi : Int} {t u v : Tok} {tk : Nat} (I : Inv X pins σ H s)
    (q : R (Itr lo (hi - lo).toNat) H) : wpAny (model X.prog X.w) X.A (pyIter (.ref s.heap.objs.size)) (PIE X pins σ tg R) E { s with heap := s.heap.push { cls := .type "range", data := .fields #[.int lo t, .int hi u, .int 1 v] }, toks := tk } := by
  have I1 : Inv X pins σ H { s with heap := s.heap.push { cls := .type "range", data := .fields #[.int lo t, .int hi u, .int 1 v] }, toks := tk } := I.kept fun b o e => Heap.get?_push_of_some _ e
  have e1 : lo + ((0 : Nat) : Int) * 1 = lo := by simp
  have e2 : (((hi - lo).toNat : Nat) : Int) - ((0 : Nat) : Int) = Builtin.Range.rangeSize lo hi 1 := by rw [rangeSize_one]; split <;> omega
  cases hsm : Builtin.Range.small lo hi 1 with
  | true =>
    refine wpAny_pyIter_range (IsRange.new ..) hsm ?_
    refine ⟨(s.heap.push { cls := .type "range", data := .fields #[.int lo t, .int hi u, .int 1 v] }).objs.size, [(s.heap.push { cls := .type "range", data := .fields #[.int lo t, .int hi u, .int 1 v] }).objs.size], _, _, H, rfl,
      I1.kept (t' := tk) fun b o e => Heap.get?_push_of_some _ e, turn_range _ lo (hi - lo).toNat, ?_, fun b hb => ?_, q⟩
    · show IsRangeIter _ _ (lo + ((0 : Nat) : Int) * 1) ((((hi - lo).toNat : Nat) : Int) - ((0 : Nat) : Int)) 1
      rw [e1, e2]
      exact Heap.get?_push_size _ rfl
    · have e : b = (s.heap.push { cls := .type "range", data := .fields #[.int lo t, .int hi u, .int 1 v] }).objs.size := by simpa using hb
      subst e
      exact I1.fpOk (Nat.le_refl _) (I1.hok.fresh (Nat.le_refl _))
  | false =>
    refine wpAny_pyIter_longrange (IsRange.new ..) hsm ?_
    refine ⟨(s.heap.push { cls := .type "range", data := .fields #[.int lo t, .int hi u, .int 1 v] }).objs.size, [(s.heap.push { cls := .type "range", data := .fields #[.int lo t, .int hi u, .int 1 v] }).objs.size], _, _, H, rfl,
      I1.kept (t' := tk) fun b o e => Heap.get?_push_of_some _ e, turn_long _ lo (hi - lo).toNat, ?_, fun b hb => ?_, q⟩
    · show IsLongIter _ _ (lo + ((0 : Nat) : Int) * 1) ((((hi - lo).toNat : Nat) : Int) - ((0 : Nat) : Int)) 1
      rw [e1, e2]
      exact Heap.get?_push_size _ rfl
    · have e : b = (s.heap.push { cls := .type "range", data := .fields #[.int lo t, .int hi u, .int 1 v] }).objs.size := by simpa using hb
      subst e
      exact I1.fpOk (Nat.le_refl _) (I1.hok.fresh (Nat.le_refl _))
def iRngL (ta : TA) : TI := fun σ H R => ta σ H fun vs H1 => ∃ i j : Int, vs = [.int i, .int j] ∧ R (Itr i (j - i).toNat) H1
theorem pi_rangeL {a b : Expr} {ta : TA} {p pos : Pos} (hg : Gl X "range") (hm : X.mg "range" = none) (ha : PA X [a, b] ta) (hs : starEach [a, b] X.env = [(false, eval a X.env), (false, eval b X.env)] := by rfl) (hs2 : starEach [b] X.env = [(false, eval b X.env)] := by rfl) :
    PI X tg (.Call (.Name "range" p) [a, b] [] pos) (iRngL ta) := by
  refine ⟨fun pins s σ H R I h => ?_⟩
  refine Call_ (ld_blt I hg hm boot_range (PyProof.Rows.callWith_type1 (thn (ha.run pos pins s σ H _ I h) fun us s1 ⟨vs, H1, I1, r1, q1⟩ => ?_) (by rw [hs, hs2]) (by rw [hs2]; rfl)))
  obtain ⟨i, j, e, q⟩ := q1
  subst e
  cases r1 with
  | cons r rr =>
    cases rr with
    | cons r' rr =>
      cases rr
      obtain ⟨t, rfl⟩ := r
      obtain ⟨t', rfl⟩ := r'
      exact call_range_2 (range_itL I1 q)
end
end Fw
namespace Fw
/-! ### walks around a circle -/
structure Wk where
  (s t m e k r : Int)
def hn (s t p : Int) : Int := if s ≤ p + t then p + t - s else p + t
def hc (w : Wk) (p : Int) : Int := w.e + (if p < w.m then w.k else 0) + (if w.s ≤ p + w.t then w.r else 0)
def hP (w : Wk) : Nat → Int → Int
  | 0, p => p
  | n + 1, p => hn w.s w.t (hP w n p)
def hC (w : Wk) : Nat → Int → Int
  | 0, _ => 0
  | n + 1, p => hC w n p + hc w (hP w n p)
theorem hP_add (w : Wk) (m : Nat) (p : Int) : ∀ n : Nat, hP w (m + n) p = hP w n (hP w m p)
  | 0 => rfl
  | n + 1 => by
    show hn w.s w.t (hP w (m + n) p) = hn w.s w.t (hP w n (hP w m p))
    rw [hP_add w m p n]
theorem hC_add (w : Wk) (m : Nat) (p : Int) : ∀ n : Nat, hC w (m + n) p = hC w m p + hC w n (hP w m p)
  | 0 => by show hC w m p = hC w m p + 0; omega
  | n + 1 => by
    show hC w (m + n) p + hc w (hP w (m + n) p) = hC w m p + (hC w n (hP w m p) + hc w (hP w n (hP w m p)))
    rw [hC_add w m p n, hP_add w m p n]; omega
structure WF (w : Wk) : Prop where
  s0 : 0 < w.s
  t0 : 0 ≤ w.t
  ts : w.t < w.s
  m0 : 0 ≤ w.m
  ms : w.m ≤ w.s
  nn : ∀ p, 0 ≤ p → p < w.s → 0 ≤ hc w p
theorem hP_rng {w : Wk} (h : WF w) {p : Int} (p0 : 0 ≤ p) (p1 : p < w.s) : ∀ n : Nat, 0 ≤ hP w n p ∧ hP w n p < w.s
  | 0 => ⟨p0, p1⟩
  | n + 1 => by
    obtain ⟨a, b⟩ := hP_rng h p0 p1 n
    have t0 := h.t0
    have ts := h.ts
    show 0 ≤ hn w.s w.t (hP w n p) ∧ hn w.s w.t (hP w n p) < w.s
    unfold hn
    split <;> omega
theorem hC_nn {w : Wk} (h : WF w) {p : Int} (p0 : 0 ≤ p) (p1 : p < w.s) : ∀ n : Nat, 0 ≤ hC w n p
  | 0 => Int.le_refl _
  | n + 1 => by
    have a := hC_nn h p0 p1 n
    obtain ⟨b, c⟩ := hP_rng h p0 p1 n
    have := h.nn _ b c
    show 0 ≤ hC w n p + hc w (hP w n p)
    omega
theorem hC_mono {w : Wk} (h : WF w) {p : Int} (p0 : 0 ≤ p) (p1 : p < w.s) {m n : Nat} (hmn : m ≤ n) : hC w m p ≤ hC w n p := by
  obtain ⟨k, rfl⟩ : ∃ k, n = m + k := ⟨n - m, by omega⟩
  rw [hC_add]
  obtain ⟨a, b⟩ := hP_rng h p0 p1 m
  have := hC_nn h a b k
  omega
/-- n steps are done within the budget b, one more is not; g is left -/
def hT (w : Wk) (p b : Int) (n : Nat) (g : Int) : Prop := hC w n p + g = b ∧ 0 ≤ g ∧ g < hc w (hP w n p)
theorem hT_lt {w : Wk} (h : WF w) {p b g : Int} {n N : Nat} (p0 : 0 ≤ p) (p1 : p < w.s) (t : hT w p b n g) (hN : b < hC w N p) : n < N := by
  refine Nat.lt_of_not_le fun c => ?_
  have := hC_mono h p0 p1 c
  have := t.1
  have := t.2.1
  omega
theorem hT_ge {w : Wk} (h : WF w) {p b g : Int} {n N : Nat} (p0 : 0 ≤ p) (p1 : p < w.s) (t : hT w p b n g) (hN : hC w N p ≤ b) : N ≤ n := by
  refine Nat.le_of_not_lt fun c => ?_
  have h1 := hC_mono h p0 p1 (show n + 1 ≤ N from c)
  have h2 : hC w (n + 1) p = hC w n p + hc w (hP w n p) := rfl
  have := t.1
  have := t.2.2
  omega
/-! ceilings -/
theorem hceil {b t m i : Int} (ht : 0 < t) : b + i * t < m ↔ i < -((b - m) / t) := by
  have e := Int.ediv_lt_iff_lt_mul (a := b - m) (b := -i) ht
  rw [Int.neg_mul] at e
  constructor
  · intro h
    have := e.mpr (by omega)
    omega
  · intro h
    have := e.mp (by omega)
    omega
def Wk.mst (w : Wk) (b : Int) : Int := max 0 (-((b - w.m) / w.t))
def Wk.most (w : Wk) (b : Int) : Int := -((b - w.s) / w.t) - 1
def Wk.cost (w : Wk) (b n : Int) : Int := n * w.e + min n (w.mst b) * w.k
theorem mst_iff {w : Wk} (ht : 0 < w.t) {b i : Int} (hi : 0 ≤ i) : i < w.mst b ↔ b + i * w.t < w.m := by
  rw [hceil ht]; unfold Wk.mst; omega
theorem most_iff {w : Wk} (ht : 0 < w.t) {b i : Int} : i ≤ w.most b ↔ b + i * w.t < w.s := by
  rw [hceil ht]; unfold Wk.most; omega
/-- within a lap -/
theorem lap_in {w : Wk} (h : WF w) (ht : 0 < w.t) {b : Int} (b0 : 0 ≤ b) : ∀ n : Nat, (n : Int) ≤ w.most b → hP w n b = b + n * w.t ∧ hC w n b = w.cost b n
  | 0, _ => by
    refine ⟨?_, ?_⟩
    · show b = b + (0 : Nat) * w.t
      rw [show ((0 : Nat) : Int) = 0 from rfl, Int.zero_mul]; omega
    · show (0 : Int) = w.cost b (0 : Nat)
      unfold Wk.cost
      have : 0 ≤ w.mst b := by unfold Wk.mst; omega
      rw [show ((0 : Nat) : Int) = 0 from rfl, Int.zero_mul, show min 0 (w.mst b) = 0 by omega, Int.zero_mul]; rfl
  | n + 1, hn' => by
    obtain ⟨e1, e2⟩ := lap_in h ht b0 n (by omega)
    have a1 := (most_iff (w := w) ht).mp hn'
    have e3 : ((n + 1 : Nat) : Int) * w.t = n * w.t + w.t := by rw [Int.natCast_succ, Int.add_mul, Int.one_mul]
    have m1 := mst_iff (w := w) ht (b := b) (i := (n : Int)) (by omega)
    constructor
    · show hn w.s w.t (hP w n b) = _
      unfold hn
      rw [e1, if_neg (by omega), e3]; omega
    · show hC w n b + hc w (hP w n b) = _
      rw [e2, e1]
      unfold hc Wk.cost
      rw [if_neg (show ¬ w.s ≤ b + n * w.t + w.t by omega)]
      have e4 : ((n + 1 : Nat) : Int) * w.e = n * w.e + w.e := by rw [Int.natCast_succ, Int.add_mul, Int.one_mul]
      by_cases c : b + n * w.t < w.m
      · have c2 := m1.mpr c
        rw [if_pos c, show min (n : Int) (w.mst b) = n by omega, show min ((n + 1 : Nat) : Int) (w.mst b) = (n : Int) + 1 by omega, e4, Int.add_mul, Int.one_mul]; omega
      · have c2 := fun z => c (m1.mp z)
        rw [if_neg c, show min (n : Int) (w.mst b) = w.mst b by omega, show min ((n + 1 : Nat) : Int) (w.mst b) = w.mst b by omega, e4]; omega
def Wk.lng (w : Wk) : Int := -(-w.s / w.t)
def Wk.laps (w : Wk) : Wk := ⟨w.t, w.lng * w.t - w.s, w.m % w.t, w.lng * w.e + w.m / w.t * w.k + w.r, w.k, -w.e⟩
theorem lng_b {w : Wk} (ht : 0 < w.t) : w.s ≤ w.lng * w.t ∧ w.lng * w.t < w.s + w.t := by
  have e := Int.mul_ediv_add_emod (-w.s) w.t
  have r0 := Int.emod_nonneg (-w.s) (Int.ne_of_gt ht)
  have r1 := Int.emod_lt_of_pos (-w.s) ht
  unfold Wk.lng
  rw [Int.neg_mul, Int.mul_comm]
  omega
theorem mst_val {w : Wk} (h : WF w) (ht : 0 < w.t) {b : Int} (b0 : 0 ≤ b) (b1 : b < w.t) : w.mst b = w.m / w.t + (if b < w.m % w.t then 1 else 0) := by
  have e := Int.mul_ediv_add_emod w.m w.t
  have r0 := Int.emod_nonneg w.m (Int.ne_of_gt ht)
  have r1 := Int.emod_lt_of_pos w.m ht
  have q0 : 0 ≤ w.m / w.t := Int.ediv_nonneg h.m0 (Int.le_of_lt ht)
  have key : ∀ i : Int, 0 ≤ i → (i < w.mst b ↔ i < w.m / w.t + (if b < w.m % w.t then 1 else 0)) := fun i i0 => by
    rw [mst_iff ht i0]
    rw [Int.mul_comm i]
    rw [Int.mul_comm] at e
    rw [Int.mul_comm w.t]
    constructor
    · intro z
      by_cases c : i < w.m / w.t
      · split <;> omega
      · have := Int.mul_le_mul_of_nonneg_right (show w.m / w.t ≤ i by omega) (Int.le_of_lt ht)
        by_cases c2 : i = w.m / w.t
        · rw [c2] at z
          rw [if_pos (by omega)]; omega
        · have := Int.mul_le_mul_of_nonneg_right (show w.m / w.t + 1 ≤ i by omega) (Int.le_of_lt ht)
          rw [Int.add_mul, Int.one_mul] at this
          omega
    · intro z
      by_cases c : i < w.m / w.t
      · have := Int.mul_le_mul_of_nonneg_right (show i + 1 ≤ w.m / w.t by omega) (Int.le_of_lt ht)
        rw [Int.add_mul, Int.one_mul] at this
        omega
      · split at z
        · have c2 : i = w.m / w.t := by omega
          rw [c2]; omega
        · omega
  have n0 : 0 ≤ w.mst b := by unfold Wk.mst; omega
  have n1 : 0 ≤ w.m / w.t + (if b < w.m % w.t then (1 : Int) else 0) := by split <;> omega
  generalize w.m / w.t + (if b < w.m % w.t then (1 : Int) else 0) = z at *
  rcases Int.lt_trichotomy (w.mst b) z with c | c | c
  · have := (key _ n0).mpr c; omega
  · exact c
  · have := (key _ n1).mp c; omega
/-- a whole lap is a step of the walk of laps -/
theorem lap_one {w : Wk} (h : WF w) (ht : 0 < w.t) {b : Int} (b0 : 0 ≤ b) (b1 : b < w.t) : ∃ L : Nat, (L : Int) = w.most b + 1 ∧ 1 ≤ L ∧ hP w L b = hn w.laps.s w.laps.t b ∧ hC w L b = hc w.laps b ∧ b + L * w.t - w.s = hn w.laps.s w.laps.t b := by
  have ts := h.ts
  obtain ⟨l1, l2⟩ := lng_b (w := w) ht
  have mo0 : 0 ≤ w.most b := (most_iff (w := w) ht).mpr (by rw [Int.zero_mul]; omega)
  obtain ⟨n, hn'⟩ := Int.eq_ofNat_of_zero_le mo0
  obtain ⟨e1, e2⟩ := lap_in h ht b0 n (by omega)
  have a1 := (most_iff (w := w) ht (b := b) (i := (n : Int))).mp (by omega)
  have a2 : ¬ b + ((n : Int) + 1) * w.t < w.s := fun z => by
    have := (most_iff (w := w) ht).mpr z
    omega
  rw [Int.add_mul, Int.one_mul] at a2
  have e3 : ((n + 1 : Nat) : Int) * w.t = n * w.t + w.t := by rw [Int.natCast_succ, Int.add_mul, Int.one_mul]
  have pos : b + (n * w.t + w.t) - w.s = hn w.laps.s w.laps.t b := by
    show _ = hn w.t (w.lng * w.t - w.s) b
    unfold hn
    -- n + 1 is lng or one less
    have c1 : (n : Int) + 1 ≤ w.lng := by
      refine Int.not_lt.mp fun z => ?_
      have := Int.mul_le_mul_of_nonneg_right (show w.lng ≤ (n : Int) by omega) (Int.le_of_lt ht)
      omega
    have c2 : w.lng ≤ (n : Int) + 2 := by
      refine Int.not_lt.mp fun z => ?_
      have := Int.mul_le_mul_of_nonneg_right (show (n : Int) + 3 ≤ w.lng by omega) (Int.le_of_lt ht)
      rw [Int.add_mul] at this
      omega
    by_cases c : w.lng = (n : Int) + 1
    · have : w.lng * w.t = n * w.t + w.t := by rw [c, Int.add_mul, Int.one_mul]
      rw [if_neg (by omega)]; omega
    · have c3 : w.lng = (n : Int) + 2 := by omega
      have : w.lng * w.t = n * w.t + 2 * w.t := by rw [c3, Int.add_mul]
      rw [if_pos (by omega)]; omega
  refine ⟨n + 1, by omega, by omega, ?_, ?_, by rw [e3]; exact pos⟩
  · show hn w.s w.t (hP w n b) = _
    rw [← pos, e1]
    unfold hn
    rw [if_pos (by omega)]; omega
  · show hC w n b + hc w (hP w n b) = _
    rw [e2, e1]
    have mv := mst_val h ht b0 b1
    have mm : ∀ i : Int, 0 ≤ i → (i < w.mst b ↔ b + i * w.t < w.m) := fun i hi => mst_iff ht hi
    have mn := mm (n : Int) (by omega)
    have ml : w.mst b ≤ (n : Int) + 1 := by
      refine Int.not_lt.mp fun z => ?_
      have := (mm ((n : Int) + 1) (by omega)).mp z
      rw [Int.add_mul, Int.one_mul] at this
      have := h.ms
      omega
    have lhs : w.cost b n + hc w (b + n * w.t) = (n + 1) * w.e + w.mst b * w.k + w.r := by
      unfold Wk.cost hc
      rw [if_pos (show w.s ≤ b + n * w.t + w.t by omega), Int.add_mul, Int.one_mul]
      by_cases c : b + n * w.t < w.m
      · have := mn.mpr c
        rw [if_pos c, show min (n : Int) (w.mst b) = n by omega, show w.mst b = (n : Int) + 1 by omega, Int.add_mul, Int.one_mul]; omega
      · have := fun z => c (mn.mp z)
        rw [if_neg c, show min (n : Int) (w.mst b) = w.mst b by omega]; omega
    rw [lhs, mv]
    show _ = (w.lng * w.e + w.m / w.t * w.k + w.r) + (if b < w.m % w.t then w.k else 0) + (if w.t ≤ b + (w.lng * w.t - w.s) then -w.e else 0)
    have en : ((n : Int) + 1) * w.e = w.lng * w.e + (if w.t ≤ b + (w.lng * w.t - w.s) then -w.e else 0) := by
      have p2 := pos
      change _ = hn w.t (w.lng * w.t - w.s) b at p2
      unfold hn at p2
      split at p2
      · rename_i c
        rw [if_pos c]
        have : (w.lng - ((n : Int) + 1) - 1) * w.t = 0 := by
          rw [Int.sub_mul, Int.sub_mul, Int.add_mul, Int.one_mul]; omega
        have : w.lng - ((n : Int) + 1) - 1 = 0 := by
          rcases Int.mul_eq_zero.mp this with z | z
          · exact z
          · omega
        rw [show w.lng = (n : Int) + 1 + 1 by omega, Int.add_mul ((n : Int) + 1), Int.one_mul]; omega
      · rename_i c
        rw [if_neg c]
        have : (w.lng - ((n : Int) + 1)) * w.t = 0 := by
          rw [Int.sub_mul, Int.add_mul, Int.one_mul]; omega
        have : w.lng - ((n : Int) + 1) = 0 := by
          rcases Int.mul_eq_zero.mp this with z | z
          · exact z
          · omega
        rw [show w.lng = (n : Int) + 1 by omega]; omega
    rw [en, Int.add_mul]
    by_cases c : b < w.m % w.t
    · rw [if_pos c, if_pos c, Int.one_mul]; omega
    · rw [if_neg c, if_neg c, Int.zero_mul]; omega
theorem laps_wf {w : Wk} (h : WF w) (ht : 0 < w.t) : WF w.laps := by
  obtain ⟨l1, l2⟩ := lng_b (w := w) ht
  refine ⟨ht, by show 0 ≤ w.lng * w.t - w.s; omega, by show w.lng * w.t - w.s < w.t; omega, Int.emod_nonneg _ (Int.ne_of_gt ht), Int.le_of_lt (Int.emod_lt_of_pos _ ht), fun p p0 p1 => ?_⟩
  obtain ⟨L, _, _, _, e, _⟩ := lap_one h ht p0 p1
  rw [← e]
  exact hC_nn h p0 (by have := h.ts; have : p < w.t := p1; omega) L
/-- many laps -/
theorem lap_many {w : Wk} (h : WF w) (ht : 0 < w.t) {b : Int} (b0 : 0 ≤ b) (b1 : b < w.t) : ∀ N : Nat, ∃ S : Nat, N ≤ S ∧ hP w S b = hP w.laps N b ∧ hC w S b = hC w.laps N b ∧ b + S * w.t - N * w.s = hP w.laps N b
  | 0 => ⟨0, Nat.le_refl _, rfl, rfl, by
    show b + (0 : Nat) * w.t - (0 : Nat) * w.s = b
    rw [show ((0 : Nat) : Int) = 0 from rfl, Int.zero_mul, Int.zero_mul]; omega⟩
  | N + 1 => by
    obtain ⟨S, hS, e1, e2, e3⟩ := lap_many h ht b0 b1 N
    obtain ⟨r0, r1⟩ := hP_rng (laps_wf h ht) b0 (show b < w.laps.s from b1) N
    obtain ⟨L, _, hL, f1, f2, f3⟩ := lap_one h ht r0 r1
    refine ⟨S + L, by omega, ?_, ?_, ?_⟩
    · rw [hP_add, e1, f1]; rfl
    · rw [hC_add, e1, e2, f2]; rfl
    · show _ = hn w.laps.s w.laps.t (hP w.laps N b)
      rw [← f3, ← e3, Int.natCast_add, Int.add_mul, Int.natCast_succ, Int.add_mul, Int.one_mul]; omega
/-! mirrored -/
def Wk.mir (w : Wk) : Wk := ⟨w.s, w.s - w.t, w.s - w.m, w.e + w.k + w.r, -w.k, -w.r⟩
theorem mir_hc {w : Wk} (h : WF w) {p : Int} (p0 : 0 ≤ p) (p1 : p < w.s) : hc w.mir (w.s - 1 - p) = hc w p := by
  show (w.e + w.k + w.r) + (if w.s - 1 - p < w.s - w.m then -w.k else 0) + (if w.s ≤ w.s - 1 - p + (w.s - w.t) then -w.r else 0) = w.e + (if p < w.m then w.k else 0) + (if w.s ≤ p + w.t then w.r else 0)
  have ts := h.ts
  by_cases c1 : p < w.m
  · rw [if_neg (show ¬ w.s - 1 - p < w.s - w.m by omega), if_pos c1]
    by_cases c2 : w.s ≤ p + w.t
    · rw [if_neg (show ¬ w.s ≤ w.s - 1 - p + (w.s - w.t) by omega), if_pos c2]; omega
    · rw [if_pos (show w.s ≤ w.s - 1 - p + (w.s - w.t) by omega), if_neg c2]; omega
  · rw [if_pos (show w.s - 1 - p < w.s - w.m by omega), if_neg c1]
    by_cases c2 : w.s ≤ p + w.t
    · rw [if_neg (show ¬ w.s ≤ w.s - 1 - p + (w.s - w.t) by omega), if_pos c2]; omega
    · rw [if_pos (show w.s ≤ w.s - 1 - p + (w.s - w.t) by omega), if_neg c2]; omega
theorem mir_wf {w : Wk} (h : WF w) (ht : 0 < w.t) : WF w.mir := by
  have ts := h.ts
  have m0 := h.m0
  have ms := h.ms
  refine ⟨h.s0, by show 0 ≤ w.s - w.t; omega, by show w.s - w.t < w.s; omega, by show 0 ≤ w.s - w.m; omega, by show w.s - w.m ≤ w.s; omega, fun p p0 p1 => ?_⟩
  have p1 : p < w.s := p1
  have e := mir_hc h (p := w.s - 1 - p) (by omega) (by omega)
  rw [show w.s - 1 - (w.s - 1 - p) = p by omega] at e
  rw [e]
  exact h.nn _ (by omega) (by omega)
theorem mir_hP {w : Wk} (h : WF w) {p : Int} (p0 : 0 ≤ p) (p1 : p < w.s) : ∀ n : Nat, hP w.mir n (w.s - 1 - p) = w.s - 1 - hP w n p ∧ hC w.mir n (w.s - 1 - p) = hC w n p
  | 0 => ⟨rfl, rfl⟩
  | n + 1 => by
    obtain ⟨e1, e2⟩ := mir_hP h p0 p1 n
    obtain ⟨r0, r1⟩ := hP_rng h p0 p1 n
    constructor
    · show hn w.s (w.s - w.t) (hP w.mir n (w.s - 1 - p)) = w.s - 1 - hn w.s w.t (hP w n p)
      rw [e1]
      unfold hn
      by_cases c : w.s ≤ hP w n p + w.t
      · rw [if_pos c, if_neg (by omega)]; omega
      · rw [if_neg c, if_pos (by omega)]; omega
    · show hC w.mir n (w.s - 1 - p) + hc w.mir (hP w.mir n (w.s - 1 - p)) = hC w n p + hc w (hP w n p)
      rw [e2, e1, mir_hc h r0 r1]
theorem mir_hT {w : Wk} (h : WF w) {p b g : Int} {n : Nat} (p0 : 0 ≤ p) (p1 : p < w.s) (t : hT w.mir (w.s - 1 - p) b n g) : hT w p b n g := by
  obtain ⟨e1, e2⟩ := mir_hP h p0 p1 n
  obtain ⟨r0, r1⟩ := hP_rng h p0 p1 n
  obtain ⟨t1, t2, t3⟩ := t
  rw [e2] at t1
  rw [e1, mir_hc h r0 r1] at t3
  exact ⟨t1, t2, t3⟩
/-! as many steps of a lap as a budget allows -/
def Wk.sfor (w : Wk) (b g : Int) : Int :=
  if min (w.most b) (w.mst b) * (w.e + w.k) > g then g / (w.e + w.k)
  else if (w.most b - min (w.most b) (w.mst b)) * w.e > g - min (w.most b) (w.mst b) * (w.e + w.k) then min (w.most b) (w.mst b) + (g - min (w.most b) (w.mst b) * (w.e + w.k)) / w.e
  else w.most b
theorem sfor_ok {w : Wk} (h : WF w) (ht : 0 < w.t) {b g : Int} (b0 : 0 ≤ b) (b1 : b < w.t) (g0 : 0 ≤ g) : ∃ n : Nat, w.sfor b g = (n : Int) ∧ (n : Int) ≤ w.most b ∧ w.cost b n ≤ g ∧ ((n : Int) < w.most b → g < w.cost b ((n : Int) + 1)) := by
  have ts := h.ts
  have mo0 : 0 ≤ w.most b := (most_iff (w := w) ht).mpr (by rw [Int.zero_mul]; omega)
  have ms0 : 0 ≤ w.mst b := by unfold Wk.mst; omega
  -- what a step costs
  have stp : ∀ i : Int, 0 ≤ i → i < w.most b → 0 ≤ w.e + (if i < w.mst b then w.k else 0) := fun i i0 i1 => by
    have c1 := (most_iff (w := w) ht (b := b) (i := i + 1)).mp (by omega)
    rw [Int.add_mul, Int.one_mul] at c1
    have c2 := Int.mul_nonneg i0 (Int.le_of_lt ht)
    have e := h.nn (b + i * w.t) (by omega) (by omega)
    have c3 := mst_iff (w := w) ht (b := b) i0
    unfold hc at e
    rw [if_neg (show ¬ w.s ≤ b + i * w.t + w.t by omega)] at e
    by_cases c : i < w.mst b
    · rw [if_pos c]; rw [if_pos (c3.mp c)] at e; omega
    · rw [if_neg c]; rw [if_neg (fun z => c (c3.mpr z))] at e; omega
  unfold Wk.sfor
  obtain ⟨n0, hn0⟩ : ∃ n0, n0 = min (w.most b) (w.mst b) := ⟨_, rfl⟩
  rw [← hn0]
  have e1 : 0 ≤ n0 ∧ n0 ≤ w.most b ∧ n0 ≤ w.mst b := by omega
  have cost1 : ∀ n : Int, n ≤ n0 → w.cost b n = n * (w.e + w.k) := fun n z => by
    unfold Wk.cost
    rw [show min n (w.mst b) = n by omega, Int.mul_add]
  have cost2 : ∀ n : Int, n0 ≤ n → n ≤ w.most b → w.cost b n = n0 * (w.e + w.k) + (n - n0) * w.e := fun n z1 z2 => by
    unfold Wk.cost
    have : min n (w.mst b) = n0 := by omega
    rw [this, Int.mul_add, Int.sub_mul]; omega
  by_cases c1 : n0 * (w.e + w.k) > g
  · rw [if_pos c1]
    have n0p : 0 < n0 := by
      refine Int.not_le.mp fun z => ?_
      have : n0 = 0 := by omega
      rw [this, Int.zero_mul] at c1; omega
    have ek : 0 < w.e + w.k := by
      refine Int.not_le.mp fun z => ?_
      have := Int.mul_nonneg (show 0 ≤ n0 by omega) (show 0 ≤ -(w.e + w.k) by omega)
      rw [Int.mul_neg] at this; omega
    have q0 := Int.ediv_nonneg g0 (Int.le_of_lt ek)
    have e := Int.mul_ediv_add_emod g (w.e + w.k)
    have r0 := Int.emod_nonneg g (Int.ne_of_gt ek)
    have r1 := Int.emod_lt_of_pos g ek
    obtain ⟨n, hn'⟩ := Int.eq_ofNat_of_zero_le q0
    have lt : g / (w.e + w.k) < n0 := (Int.ediv_lt_iff_lt_mul ek).mpr c1
    rw [Int.mul_comm] at e
    refine ⟨n, hn', by omega, ?_, fun _ => ?_⟩
    · rw [cost1 _ (by omega), ← hn']; omega
    · rw [cost1 _ (by omega), ← hn', Int.add_mul, Int.one_mul]; omega
  · rw [if_neg c1]
    by_cases c2 : (w.most b - n0) * w.e > g - n0 * (w.e + w.k)
    · rw [if_pos c2]
      have lt : n0 < w.most b := by
        refine Int.not_le.mp fun z => ?_
        rw [show w.most b - n0 = 0 by omega, Int.zero_mul] at c2; omega
      have ep : 0 < w.e := by
        refine Int.not_le.mp fun z => ?_
        have := Int.mul_nonneg (show 0 ≤ w.most b - n0 by omega) (show 0 ≤ -w.e by omega)
        rw [Int.mul_neg] at this; omega
      obtain ⟨rest, hr⟩ : ∃ rest, rest = g - n0 * (w.e + w.k) := ⟨_, rfl⟩
      rw [← hr] at c2 ⊢
      have q0 := Int.ediv_nonneg (show 0 ≤ rest by omega) (Int.le_of_lt ep)
      have e := Int.mul_ediv_add_emod rest w.e
      have r0 := Int.emod_nonneg rest (Int.ne_of_gt ep)
      have r1 := Int.emod_lt_of_pos rest ep
      have lt2 : rest / w.e < w.most b - n0 := (Int.ediv_lt_iff_lt_mul ep).mpr c2
      obtain ⟨n, hn'⟩ := Int.eq_ofNat_of_zero_le (show 0 ≤ n0 + rest / w.e by omega)
      rw [Int.mul_comm] at e
      refine ⟨n, hn', by omega, ?_, fun _ => ?_⟩
      · rw [cost2 _ (by omega) (by omega), show (n : Int) - n0 = rest / w.e by omega]; omega
      · rw [cost2 _ (by omega) (by omega), show (n : Int) + 1 - n0 = rest / w.e + 1 by omega, Int.add_mul, Int.one_mul]; omega
    · rw [if_neg c2]
      obtain ⟨n, hn'⟩ := Int.eq_ofNat_of_zero_le mo0
      refine ⟨n, hn', by omega, ?_, fun z => by omega⟩
      rw [cost2 _ (by omega) (by omega), ← hn']; omega
/-- from laps back to steps -/
def Wk.steps (w : Wk) (p N : Int) : Int := -(-(N * w.s - p) / w.t)
theorem back_ok {w : Wk} (h : WF w) (ht : 0 < w.t) {p b g : Int} {N : Nat} (p0 : 0 ≤ p) (p1 : p < w.t) (t : hT w.laps p b N g) :
    ∃ S n : Nat, w.steps p N = (S : Int) ∧ 0 ≤ S * w.t - (N * w.s - p) ∧ S * w.t - (N * w.s - p) < w.t ∧ w.sfor (S * w.t - (N * w.s - p)) g = (n : Int) ∧ hT w p b (S + n) (g - w.cost (S * w.t - (N * w.s - p)) n) := by
  obtain ⟨S, hS, e1, e2, e3⟩ := lap_many h ht p0 p1 N
  obtain ⟨r0, r1⟩ := hP_rng (laps_wf h ht) p0 (show p < w.laps.s from p1) N
  have r1 : hP w.laps N p < w.t := r1
  have eb : S * w.t - (N * w.s - p) = hP w.laps N p := by omega
  have eS : w.steps p N = (S : Int) := by
    unfold Wk.steps
    have : -(N * w.s - p) = hP w.laps N p + w.t * (-(S : Int)) := by rw [Int.mul_neg, Int.mul_comm w.t]; omega
    rw [this, Int.add_mul_ediv_left _ _ (Int.ne_of_gt ht), Int.ediv_eq_zero_of_lt r0 r1]; omega
  obtain ⟨t1, t2, t3⟩ := t
  obtain ⟨n, n1, n2, n3, n4⟩ := sfor_ok h ht r0 r1 t2
  obtain ⟨i1, i2⟩ := lap_in h ht r0 n n2
  obtain ⟨L, hL, _, _, f2, _⟩ := lap_one h ht r0 r1
  refine ⟨S, n, eS, by omega, by omega, by rw [eb]; exact n1, ?_⟩
  rw [eb]
  refine ⟨?_, by omega, ?_⟩
  · rw [hC_add, e1, e2, i2]; omega
  · rw [hP_add, e1]
    by_cases c : (n : Int) < w.most (hP w.laps N p)
    · obtain ⟨_, j2⟩ := lap_in h ht r0 (n + 1) (by omega)
      have : hC w (n + 1) (hP w.laps N p) = hC w n (hP w.laps N p) + hc w (hP w n (hP w.laps N p)) := rfl
      have := n4 c
      rw [show ((n : Int) + 1) = ((n + 1 : Nat) : Int) by omega] at this
      omega
    · have eL : L = n + 1 := by omega
      rw [eL] at f2
      have : hC w (n + 1) (hP w.laps N p) = hC w n (hP w.laps N p) + hc w (hP w n (hP w.laps N p)) := rfl
      omega
/-- the walk that began where the lap of its first place does -/
theorem ahead_ok {w : Wk} (h : WF w) (ht : 0 < w.t) {p : Int} (p0 : 0 ≤ p) (p1 : p < w.s) : ∃ A : Nat, p / w.t = (A : Int) ∧ hP w A (p % w.t) = p ∧ hC w A (p % w.t) = w.cost (p % w.t) A := by
  have e := Int.mul_ediv_add_emod p w.t
  have r0 := Int.emod_nonneg p (Int.ne_of_gt ht)
  obtain ⟨A, hA⟩ := Int.eq_ofNat_of_zero_le (Int.ediv_nonneg p0 (Int.le_of_lt ht))
  rw [hA, Int.mul_comm] at e
  obtain ⟨e1, e2⟩ := lap_in h ht r0 A ((most_iff ht).mpr (by omega))
  exact ⟨A, hA, by rw [e1]; omega, e2⟩
theorem ahead_hT {w : Wk} (h : WF w) {q p b g : Int} {A X : Nat} (q0 : 0 ≤ q) (q1 : q < w.s) (b0 : 0 ≤ b) (e1 : hP w A q = p) (t : hT w q (b + hC w A q) X g) : A ≤ X ∧ hT w p b (X - A) g := by
  have ax := hT_ge h q0 q1 t (show hC w A q ≤ b + hC w A q by omega)
  obtain ⟨t1, t2, t3⟩ := t
  obtain ⟨k, rfl⟩ : ∃ k, X = A + k := ⟨X - A, by omega⟩
  rw [hC_add, e1] at t1
  rw [hP_add, e1] at t3
  rw [Nat.add_sub_cancel_left]
  exact ⟨ax, by omega, t2, t3⟩
/-- where no place changes -/
theorem base_hT {w : Wk} (h : WF w) (ht : w.t = 0) {p b : Int} {N : Nat} (p0 : 0 ≤ p) (p1 : p < w.s) (b0 : 0 ≤ b) (hN : b < hC w N p) : 0 < w.e + (if p < w.m then w.k else 0) ∧ ∃ n : Nat, b / (w.e + (if p < w.m then w.k else 0)) = (n : Int) ∧ hT w p b n (b % (w.e + (if p < w.m then w.k else 0))) := by
  have eP : ∀ n, hP w n p = p := fun n => by
    induction n with
    | zero => rfl
    | succ n ih =>
      show hn w.s w.t (hP w n p) = p
      rw [ih]
      unfold hn
      rw [if_neg (by omega), ht]; omega
  have ec : hc w p = w.e + (if p < w.m then w.k else 0) := by
    unfold hc
    rw [if_neg (show ¬ w.s ≤ p + w.t by omega)]; omega
  have eC : ∀ n : Nat, hC w n p = n * hc w p := fun n => by
    induction n with
    | zero => show (0 : Int) = (0 : Nat) * hc w p; rw [show ((0 : Nat) : Int) = 0 from rfl, Int.zero_mul]
    | succ n ih =>
      show hC w n p + hc w (hP w n p) = _
      rw [ih, eP, Int.natCast_succ, Int.add_mul, Int.one_mul]
  have c0 : 0 < hc w p := by
    refine Int.not_le.mp fun z => ?_
    rw [eC] at hN
    have := Int.mul_nonneg (show (0 : Int) ≤ N by omega) (show 0 ≤ -hc w p by omega)
    rw [Int.mul_neg] at this; omega
  rw [← ec]
  refine ⟨c0, ?_⟩
  have e := Int.mul_ediv_add_emod b (hc w p)
  obtain ⟨n, hn'⟩ := Int.eq_ofNat_of_zero_le (Int.ediv_nonneg b0 (Int.le_of_lt c0))
  rw [hn', Int.mul_comm] at e
  refine ⟨n, hn', ?_, Int.emod_nonneg _ (Int.ne_of_gt c0), ?_⟩
  · rw [eC]; exact e
  · rw [eP]; exact Int.emod_lt_of_pos _ c0
/-! how great all that is -/
structure WB (w : Wk) : Prop where
  s1 : w.s ≤ 2 ^ 129
  ex : ∃ E : Int, 0 ≤ E ∧ (-E ≤ w.e ∧ w.e ≤ E) ∧ (-E ≤ w.k ∧ w.k ≤ E) ∧ (-E ≤ w.r ∧ w.r ≤ E) ∧ E * w.s ^ 5 ≤ 2 ^ 700
theorem wb_top {s t m : Int} (s0 : 0 < s) (s1 : s ≤ 2 ^ 129) : WB ⟨s, t, m, 0, 1, 0⟩ := by
  refine ⟨s1, 1, by decide, ⟨by show -1 ≤ (0 : Int); decide, by show (0 : Int) ≤ 1; decide⟩, ⟨by show -1 ≤ (1 : Int); decide, Int.le_refl _⟩, ⟨by show -1 ≤ (0 : Int); decide, by show (0 : Int) ≤ 1; decide⟩, ?_⟩
  show 1 * s ^ 5 ≤ 2 ^ 700
  rw [Int.one_mul]
  have h : s.toNat ^ 5 ≤ (2 ^ 129) ^ 5 := Nat.pow_le_pow_left (by omega) 5
  have h2 : (2 ^ 129) ^ 5 ≤ 2 ^ 700 := by decide +kernel
  have e : s = (s.toNat : Int) := by omega
  rw [e]
  have h3 := Nat.le_trans h h2
  exact_mod_cast h3
theorem wb_mul {E a b : Int} (h : -E ≤ a ∧ a ≤ E) (b0 : 0 ≤ b) : -(b * E) ≤ b * a ∧ b * a ≤ b * E := by
  have h1 := Int.mul_le_mul_of_nonneg_left h.1 b0
  have h2 := Int.mul_le_mul_of_nonneg_left h.2 b0
  rw [Int.mul_neg] at h1
  exact ⟨h1, h2⟩
/-- the walk whose laps are taken: this one, or mirrored -/
def Wk.low (w : Wk) : Wk := if w.s < 2 * w.t then w.mir else w
theorem low_facts {w : Wk} (h : WF w) (ht : 0 < w.t) : WF w.low ∧ 0 < w.low.t ∧ 2 * w.low.t ≤ w.s ∧ w.low.s = w.s := by
  have ts := h.ts
  unfold Wk.low
  split
  · exact ⟨mir_wf h ht, by show 0 < w.s - w.t; omega, by show 2 * (w.s - w.t) ≤ w.s; omega, rfl⟩
  · exact ⟨h, ht, by omega, rfl⟩
theorem low_ex {w : Wk} (b : WB w) : ∃ E : Int, 0 ≤ E ∧ (-(3 * E) ≤ w.low.e ∧ w.low.e ≤ 3 * E) ∧ (-(3 * E) ≤ w.low.k ∧ w.low.k ≤ 3 * E) ∧ (-(3 * E) ≤ w.low.r ∧ w.low.r ≤ 3 * E) ∧ E * w.s ^ 5 ≤ 2 ^ 700 := by
  obtain ⟨_, E, e0, ee, ek, er, c⟩ := b
  refine ⟨E, e0, ?_, ?_, ?_, c⟩
  all_goals
    unfold Wk.low
    split
  · show -(3 * E) ≤ w.e + w.k + w.r ∧ w.e + w.k + w.r ≤ 3 * E; omega
  · omega
  · show -(3 * E) ≤ -w.k ∧ -w.k ≤ 3 * E; omega
  · omega
  · show -(3 * E) ≤ -w.r ∧ -w.r ≤ 3 * E; omega
  · omega
theorem wb_laps {w : Wk} (h : WF w) (ht : 0 < w.t) (b : WB w) : WB w.low.laps := by
  obtain ⟨hl, tl, t2, es⟩ := low_facts h ht
  obtain ⟨E, e0, ee, ek, er, c⟩ := low_ex b
  obtain ⟨l1, l2⟩ := lng_b (w := w.low) tl
  have s0 := h.s0
  have m0 := hl.m0
  have ms := hl.ms
  rw [es] at l1 l2 ms
  have q0 : 0 ≤ w.low.m / w.low.t := Int.ediv_nonneg m0 (Int.le_of_lt tl)
  have q1 : w.low.m / w.low.t * w.low.t ≤ w.low.m := Int.ediv_mul_le _ (Int.ne_of_gt tl)
  have n0 : 0 ≤ w.low.lng := by
    refine Int.not_lt.mp fun z => ?_
    have := Int.mul_le_mul_of_nonneg_right (show w.low.lng ≤ 0 by omega) (Int.le_of_lt tl)
    rw [Int.zero_mul] at this; omega
  have f1 := wb_mul ee n0
  have f2 := wb_mul ek q0
  have s1 := b.s1
  obtain ⟨M, hM⟩ : ∃ M, M = w.low.lng + w.low.m / w.low.t + 1 := ⟨_, rfl⟩
  have sum : M * (3 * E) = w.low.lng * (3 * E) + w.low.m / w.low.t * (3 * E) + 3 * E := by rw [hM, Int.add_mul, Int.add_mul, Int.one_mul]
  have M1 : 1 ≤ M := by omega
  have M3 : 3 * E ≤ M * (3 * E) := by
    have := Int.mul_le_mul_of_nonneg_right M1 (show 0 ≤ 3 * E by omega)
    rw [Int.one_mul] at this; exact this
  refine ⟨by show w.low.t ≤ 2 ^ 129; omega, M * (3 * E), Int.mul_nonneg (by omega) (by omega), ?_, ?_, ?_, ?_⟩
  · show -(M * (3 * E)) ≤ w.low.lng * w.low.e + w.low.m / w.low.t * w.low.k + w.low.r ∧ w.low.lng * w.low.e + w.low.m / w.low.t * w.low.k + w.low.r ≤ M * (3 * E)
    omega
  · show -(M * (3 * E)) ≤ w.low.k ∧ w.low.k ≤ M * (3 * E)
    omega
  · show -(M * (3 * E)) ≤ -w.low.e ∧ -w.low.e ≤ M * (3 * E)
    omega
  · show M * (3 * E) * w.low.t ^ 5 ≤ 2 ^ 700
    refine Int.le_trans ?_ c
    have Mt : M * w.low.t ≤ 3 * w.s := by
      rw [hM, Int.add_mul, Int.add_mul, Int.one_mul]; omega
    have t4 : 9 * w.low.t ^ 4 ≤ w.s ^ 4 := by
      have h1 : (2 * w.low.t.toNat) ^ 4 ≤ w.s.toNat ^ 4 := Nat.pow_le_pow_left (by omega) 4
      have e1 : w.low.t = (w.low.t.toNat : Int) := by omega
      have e2 : w.s = (w.s.toNat : Int) := by omega
      rw [Nat.mul_pow] at h1
      have h2 : 9 * w.low.t.toNat ^ 4 ≤ w.s.toNat ^ 4 := by
        have : 2 ^ 4 * w.low.t.toNat ^ 4 = 16 * w.low.t.toNat ^ 4 := rfl
        omega
      rw [e1, e2]
      exact_mod_cast h2
    have p4 : 0 ≤ w.low.t ^ 4 := Int.pow_nonneg (Int.le_of_lt tl)
    have g1 : M * (3 * E) * w.low.t ^ 5 = (M * w.low.t) * (3 * E * w.low.t ^ 4) := by
      rw [show (5 : Nat) = 4 + 1 from rfl, Int.pow_succ]
      rw [Int.mul_assoc M, Int.mul_assoc M, ← Int.mul_assoc (3 * E), Int.mul_comm (3 * E * w.low.t ^ 4) w.low.t]
    have g2 := Int.mul_le_mul_of_nonneg_right Mt (show 0 ≤ 3 * E * w.low.t ^ 4 from Int.mul_nonneg (by omega) p4)
    have g3 : 3 * w.s * (3 * E * w.low.t ^ 4) = (E * w.s) * (9 * w.low.t ^ 4) := by
      rw [show 3 * w.s * (3 * E * w.low.t ^ 4) = 3 * (w.s * (3 * E * w.low.t ^ 4)) by rw [Int.mul_assoc], show 3 * E * w.low.t ^ 4 = 3 * (E * w.low.t ^ 4) by rw [Int.mul_assoc], Int.mul_left_comm w.s 3, Int.mul_left_comm (E * w.s) 9, Int.mul_comm E w.s, Int.mul_assoc w.s E]
      omega
    have g4 := Int.mul_le_mul_of_nonneg_left t4 (show 0 ≤ E * w.s from Int.mul_nonneg e0 (Int.le_of_lt s0))
    have g5 : E * w.s * w.s ^ 4 = E * w.s ^ 5 := by
      have p5 : w.s ^ 5 = w.s ^ 4 * w.s := Int.pow_succ _ _
      rw [p5, Int.mul_comm (w.s ^ 4) w.s, Int.mul_assoc]
    omega
theorem wb_E {w : Wk} (h : WF w) (b : WB w) : ∃ E : Int, 0 ≤ E ∧ (-E ≤ w.e ∧ w.e ≤ E) ∧ (-E ≤ w.k ∧ w.k ≤ E) ∧ (-E ≤ w.r ∧ w.r ≤ E) ∧ E ≤ 2 ^ 700 ∧ E * w.s ≤ 2 ^ 700 := by
  obtain ⟨_, E, e0, ee, ek, er, c⟩ := b
  have s0 := h.s0
  have one : ∀ n : Nat, 1 ≤ w.s ^ n := fun n => by
    have := Int.pow_pos (m := n) s0; omega
  refine ⟨E, e0, ee, ek, er, ?_, ?_⟩
  · have := Int.mul_le_mul_of_nonneg_left (one 5) e0
    rw [Int.mul_one] at this; omega
  · have g5 : E * w.s * w.s ^ 4 = E * w.s ^ 5 := by
      have p5 : w.s ^ 5 = w.s ^ 4 * w.s := Int.pow_succ _ _
      rw [p5, Int.mul_comm (w.s ^ 4) w.s, Int.mul_assoc]
    have := Int.mul_le_mul_of_nonneg_left (one 4) (show 0 ≤ E * w.s from Int.mul_nonneg e0 (Int.le_of_lt s0))
    rw [Int.mul_one] at this; omega
end Fw
namespace Fw
open PySem L2
def rDivC : List V → Hp → VK → Prop := fun xs H Q => ∃ i j, xs = [.int i, .int j] ∧ CDivP i j ∧ ∀ p, H p = none → Q (.ref p) (upd H p (.tup [.int (i / j), .int (i % j)]))
def rmax2C : List V → Hp → VK → Prop := fun xs H Q => ∃ i j : Int, xs = [.int i, .int j] ∧ Q (.int (if j > i then j else i)) H
def rmin2C : List V → Hp → VK → Prop := fun xs H Q => ∃ i j : Int, xs = [.int i, .int j] ∧ Q (.int (if j < i then j else i)) H
section
variable {σ : L2.St} {H : Hp} {Q : VK} {D : Ends} {te : TE}
theorem w_aug {i : Nat} {x : V} {g : Int → Int → Int} (hx : σ[i]? = some (some x)) (q : te σ H fun y H1 => ∃ u v : Int, x = .int u ∧ y = .int v ∧ D.nx (σ.set i (some (.int (g u v)))) H1) : tAug i te (ipI g) D σ H := ⟨x, hx, q⟩
theorem w_augR {i : Nat} {x : V} {r : R2} (hx : σ[i]? = some (some x)) (q : te σ H fun y H1 => r x y H1 fun z H2 => D.nx (σ.set i (some z)) H2) : tAug i te r D σ H := ⟨x, hx, q⟩
theorem w_ipi {u v : Int} {P : Int → Int → Prop} (q : P u v) : ∃ a b : Int, V.int u = .int a ∧ V.int v = .int b ∧ P a b := ⟨u, v, rfl, rfl, q⟩
theorem w_max2 {i j : Int} (q : Q (.int (max i j)) H) : rmax2C [.int i, .int j] H Q := ⟨i, j, rfl, by
  have e : (if j > i then j else i) = max i j := by split <;> omega
  rw [e]; exact q⟩
theorem w_min2 {i j : Int} (q : Q (.int (min i j)) H) : rmin2C [.int i, .int j] H Q := ⟨i, j, rfl, by
  have e : (if j < i then j else i) = min i j := by split <;> omega
  rw [e]; exact q⟩
theorem w_lenT {K : PySem.W.Frag} {p : Addr} {ys : List V} (h : H p = some (.tup ys)) (q : Q (.int (ys.length : Int)) H) : rLenS K [.ref p] H Q := ⟨p, ys, rfl, .inr (SqT.of h), q⟩
theorem w_stJ {c : Prop} [Decidable c] {ta tb : TS} (R : L2.St → Hp → Prop) (h1 : c → ∀ D' : Ends, (∀ σ' H', R σ' H' → D'.nx σ' H') → ta D' σ H) (h2 : ¬ c → ∀ D' : Ends, (∀ σ' H', R σ' H' → D'.nx σ' H') → tb D' σ H) (q : ∀ σ' H', R σ' H' → D.nx σ' H') : if decide c = true then ta D σ H else tb D σ H := w_dec (fun z => h1 z D q) (fun z => h2 z D q)
theorem w_bm {K : PySem.W.Frag} {T : String} {r : V → List V → Hp → VK → Prop} {to : TE} {t : TA} (q : to σ H fun x H1 => tyV K T x H1 ∧ t σ H1 fun xs H2 => r x xs H2 Q) : tBM K T r to t σ H Q := q
theorem w_ifJ {tt : TT} {ta tb : TE} (R : V → Hp → Prop) (h1 : ∀ Q : VK, (∀ x H', R x H' → Q x H') → tIf tt ta tb σ H Q) (q : ∀ x H', R x H' → Q x H') : tIf tt ta tb σ H Q := h1 Q q
/-- whatever an expression's value is, as far as R tells of it -/
theorem w_any (R : V → Hp → Prop) (h1 : ∀ Q : VK, (∀ x H', R x H' → Q x H') → te σ H Q) (q : ∀ x H', R x H' → Q x H') : te σ H Q := h1 Q q
theorem w_tst {tt : TT} {Q : Bool → Hp → Prop} (R : Bool → Hp → Prop) (h : ∀ Q : Bool → Hp → Prop, (∀ b H', R b H' → Q b H') → tt σ H Q) (q : ∀ b H', R b H' → Q b H') : tt σ H Q := h Q q
/-- c and tt, as a test that comes out false -/
theorem w_decJ {c : Prop} [Decidable c] {tt : TT} {Q : Bool → Hp → Prop} (R : Hp → Prop) (h1 : c → ∀ Q : Bool → Hp → Prop, (∀ H', R H' → Q false H') → tt σ H Q) (h2 : ¬ c → R H) (q : ∀ H', R H' → Q false H') : if decide c = true then tt σ H Q else Q false H := w_dec (fun z => h1 z Q q) (fun z => q H (h2 z))
end
section
variable {K : PySem.W.Frag} {σ : L2.St} {H : Hp} {Q : VK} {D : Ends} {te : TE}
theorem w_itT {tl : TE} {R : It → Hp → Prop} (q : tl σ H fun x H1 => ∃ a, x = .ref a ∧ (∃ xs, SqT K H1 a xs) ∧ R (Itt K a) H1) : iTup K tl σ H R := q
theorem w_itE {ta : TA} {R : It → Hp → Prop} (q : ta σ H fun vs H1 => ∃ a xs, vs = [.ref a] ∧ SqL K H1 a xs ∧ R (Ite K a) H1) : iEnum K ta σ H R := q
theorem w_minL {a : Addr} {ns : List Int} (h : SqL K H a (ns.map V.int)) (n : 0 < ns.length) (q : ∀ m, m ∈ ns → (∀ y, y ∈ ns → m ≤ y) → Q (.int m) H) : rMin K [.ref a] H Q := ⟨a, ns, rfl, h, n, q⟩
theorem w_truL {p : Addr} {xs : List V} {P : Bool → Prop} (h : SqL K H p xs) (q : P (!xs.isEmpty)) : ∃ k, TruV K (.ref p) H k ∧ P k := ⟨_, .inl ⟨xs, h, rfl⟩, q⟩
theorem w_notinL {p : Addr} {x : V} {xs : List V} (h : SqL K H p xs) (f1 : flatV x = true) (f2 : xs.all flatV = true) (q : Q (.bl (!inV x xs)) H) : rIn K true x (.ref p) H Q := ⟨p, xs, rfl, .inl h, f1, f2, q⟩
theorem w_inL {p : Addr} {x : V} {xs : List V} (h : SqL K H p xs) (f1 : flatV x = true) (f2 : xs.all flatV = true) (q : Q (.bl (inV x xs)) H) : rIn K false x (.ref p) H Q := ⟨p, xs, rfl, .inl h, f1, f2, q⟩
theorem w_eqDg {x y : V} {d e : PyData} (hx : Dp K H x d) (hy : Dp K H y e) (sd : SeqAt.shaped d = true) (se : SeqAt.shaped e = true) (q : Q (.bl (PyData.eqv d e)) H) : rEqD K x y H Q := ⟨d, e, hx, hy, sd, se, q⟩
theorem w_neDg {x y : V} {d e : PyData} (hx : Dp K H x d) (hy : Dp K H y e) (sd : SeqAt.shaped d = true) (se : SeqAt.shaped e = true) (q : Q (.bl (!PyData.eqv d e)) H) : rNeD K x y H Q := ⟨d, e, hx, hy, sd, se, q⟩
end
theorem flat_ints (is : List Int) : (is.map V.int).all flatV = true := by
  induction is with
  | nil => rfl
  | cons x r ih => rw [List.map_cons, List.all_cons, ih]; rfl
theorem inV_ints (i : Int) (is : List Int) : inV (.int i) (is.map V.int) = decide (i ∈ is) := by
  unfold inV
  induction is with
  | nil => simp
  | cons x r ih =>
    rw [List.map_cons, List.any_cons, ih]
    by_cases h : i = x
    · subst h
      rw [show eqV (V.int i) (V.int i) = true by simp [eqV]]; simp
    · have e1 : eqV (V.int x) (V.int i) = false := by simp [eqV]; exact fun z => h z.symm
      have e2 : eqV (V.int i) (V.int x) = false := by simp [eqV]; exact h
      first | rw [e1] | rw [e2]
      simp [h]
theorem w_rng2 {σ : L2.St} {H : Hp} {ta : TA} {R : It → Hp → Prop} (q : ta σ H fun vs H1 => ∃ i j : Int, vs = [.int i, .int j] ∧ (-(2 ^ 62) ≤ i ∧ i < 2 ^ 62 ∧ -(2 ^ 62) ≤ j ∧ j < 2 ^ 62) ∧ R (Itr i (j - i).toNat) H1) : iRng2 ta σ H R := q
theorem w_neOg {H : Hp} {Q : VK} {x y : V} (hx : x = .non ∨ ∃ i, x = .int i) (hy : y = .non ∨ ∃ i, y = .int i) (q : Q (.bl (!decide (x = y))) H) : rNe x y H Q := ⟨by
  rcases hx with rfl | ⟨i, rfl⟩ <;> rcases hy with rfl | ⟨j, rfl⟩ <;> rfl, q⟩
theorem w_itZ {K : PySem.W.Frag} {σ : L2.St} {H : Hp} {ta : TA} {R : It → Hp → Prop} (q : ta σ H fun vs H1 => ∃ a b xs ys, vs = [.ref a, .ref b] ∧ SqL K H1 a xs ∧ SqL K H1 b ys ∧ R (Itz K a b) H1) : iZip K ta σ H R := q
theorem w_srt {K : PySem.W.Frag} {H : Hp} {Q : VK} {a : Addr} {ns : List Int} (h : SqL K H a (ns.map V.int)) (q : ∀ (ns' : List Int) (p : Addr), ns'.Perm ns → ns'.Pairwise (· ≤ ·) → H p = none → Q (.ref p) (upd H p (.lst (ns'.map V.int)))) : rSortedI K [.ref a] H Q := ⟨a, ns, rfl, h, q⟩
theorem w_isNr {H : Hp} {Q : VK} {r : Addr} (q : Q (.bl false) H) : rIsNn (.ref r) .non H Q := ⟨rfl, q⟩
theorem w_boolJ {b : Bool} {tt : TT} {σ : L2.St} {H : Hp} {Q : Bool → Hp → Prop} (R : Hp → Prop) (h1 : b = true → ∀ Q : Bool → Hp → Prop, (∀ H', R H' → Q false H') → tt σ H Q) (h2 : b = false → R H) (q : ∀ H', R H' → Q false H') : if b = true then tt σ H Q else Q false H := by
  cases b with
  | true => exact iteT (h1 rfl Q q)
  | false => exact iteF (q H (h2 rfl))
theorem w_par3 {i j l : Nat} {t : TA} {D : Ends} {σ : L2.St} {H : Hp} (q : t σ H fun vs H1 => ∃ u v w, vs = [u, v, w] ∧ D.nx (((σ.set i (some u)).set j (some v)).set l (some w)) H1) : tPar3 i j l t D σ H := q
theorem w_itR {K : PySem.W.Frag} {σ : L2.St} {H : Hp} {ta : TA} {R : It → Hp → Prop} (q : ta σ H fun vs H1 => ∃ a xs, vs = [.ref a] ∧ SqL K H1 a xs ∧ R (Itv K a xs.length) H1) : iRev K ta σ H R := q
theorem w_methA {C : Addr} {m : Str} {sp : Sp} {E : XK} {ta : TE} {t : TA} {σ : L2.St} {H : Hp} {Q : VK} (q : ta σ H fun x H1 => ∃ a dx fs, x = .ref a ∧ H1 a = some (.ins C dx fs) ∧ fs.lookup m = none ∧ t σ H1 fun vs H2 => sp (x :: (vs ++ [])) H2 Q E) : tMeth C m sp [] E ta t σ H Q := q
end Fw
namespace Fw
open PySem PySem.Spec PyProof.Rows L2 LamX
/-! ### the lambda's names -/
structure LamP2 (sc scope : Scope) (pa pb : Str) : Prop where
  kind : scope.kind = .function
  co : scope.isCoroutine = false
  gen : scope.isGenerator = false
  own : ∀ y ∈ scope.names, y.2 ≠ .cell ∧ (y.2 = .local → y.1 = pa ∨ y.1 = pb)
  par : scope.names.lookup pa = some .local
  parb : scope.names.lookup pb = some .local
  ne : pa ≠ pb
  free : ∀ y ∈ scope.names, y.2 = .free → sc.names.lookup y.1 = some .cell ∨ sc.names.lookup y.1 = some .free
def lamPB2 (sc scope : Scope) (pa pb : Str) : Bool :=
  decide (scope.kind = .function) && !scope.isCoroutine && !scope.isGenerator && decide (scope.names.lookup pa = some .local) && decide (scope.names.lookup pb = some .local) && decide (pa ≠ pb) && scope.names.all fun y => !decide (y.2 = .cell) && (!decide (y.2 = .local) || (decide (y.1 = pa) || decide (y.1 = pb))) && (!decide (y.2 = .free) || decide (sc.names.lookup y.1 = some .cell) || decide (sc.names.lookup y.1 = some .free))
theorem lamP2_by {sc scope : Scope} {pa pb : Str} (h : lamPB2 sc scope pa pb = true) : LamP2 sc scope pa pb := by
  unfold lamPB2 at h
  simp only [Bool.and_eq_true, Bool.or_eq_true, Bool.not_eq_true', decide_eq_true_eq, decide_eq_false_iff_not, List.all_eq_true] at h
  obtain ⟨⟨⟨⟨⟨⟨h1, h2⟩, h3⟩, h5⟩, h6⟩, h7⟩, h4⟩ := h
  refine ⟨h1, h2, h3, fun y hy => ⟨(h4 y hy).1.1, fun e => ?_⟩, h5, h6, h7, fun y hy e => ?_⟩
  · rcases (h4 y hy).1.2 with z | z
    · exact absurd e z
    · exact z
  · rcases (h4 y hy).2 with (z | z) | z
    · exact absurd e z
    · exact .inl z
    · exact .inr z
theorem LamP2.has {X : Cx} {scope : Scope} {pa pb : Str} (L : LamP2 X.env.scope scope pa pb) (ok : X.Ok) : ∀ y ∈ scope.names, y.2 = .free → ∃ c, X.env.cells.lookup y.1 = some c := fun y hy e => by
  rcases L.free y hy e with k | k
  · exact ok.has _ (.inl k)
  · exact ok.has _ (.inr k)
/-- the context of the lambda's body, entered at s from the frames outer: X's names and the parameter -/
def lamCxP2 (X : Cx) (A : Around) (outer : List Env) (s : Shared) (H : Hp) (scope : Scope) (f c' : Addr) (pa pb : Str) : Cx where
  prog := X.prog
  w := X.w
  K := X.K
  mg := X.mg
  base := X.base
  A := A.deeper (lamEnv X scope s.heap.objs.size f c')
  N := X.N ++ [pa, pb]
  s_0 := s
  H_0 := H
  env := lamEnv X scope s.heap.objs.size f c'
  outer := outer
  stack := lamEnv X scope s.heap.objs.size f c' :: outer
  ex := []
  fn := fun _ => false
  calm := true
  pn := []
  xe := fun e s' => wpAny (model X.prog X.w) (A.deeper (lamEnv X scope s.heap.objs.size f c')) (leaving (lamEnv X scope s.heap.objs.size f c') e) (fun _ s'' => L2.CX0 outer H s E0 e s'') (fun e' s'' => L2.CX0 outer H s E0 e' s'') s'
section
variable {X : Cx} {pins : List (Addr × Obj)} {σ : L2.St} {H HZ : Hp} {s s1 : Shared}
theorem lam_startP2 {A : Around} {outer : List Env} {scope : Scope} {f c' : Addr} {h₁ : Heap} {tk : Nat} {pa pb : Str} {v v2 : V} {u u2 : Value} (I : Inv X pins σ H s) (L : LamP2 X.env.scope scope pa pb) (hpar : pa ∉ X.N) (hpbr : pb ∉ X.N) (rv : RelV v u) (rv2 : RelV v2 u2)
    (e0 : Env0 X.prog X.w X.K X.mg X.base A outer s1 HZ) (hd : A.handled = none)
    (un : Un (frs X.stack) [] H HZ s.heap s1.heap) (hns : h₁.Ns s1.heap.objs.size fun y => ([(pa, u), (pb, u2)] : List (Str × Value)).reverse.lookup y) (kp : ∀ b o, s1.heap.get? b = some o → h₁.get? b = some o) :
    Inv (lamCxP2 X A outer s1 HZ scope f c' pa pb) [] (σ ++ [some v, some v2]) HZ { s1 with heap := h₁, toks := tk } := by
  have hfree := L.has I.ok
  have cm : ∀ {y c}, (cloFrom X.env.cells scope.names []).lookup y = some c → X.env.cells.lookup y = some c := fun {y c} e => by
    rcases cloFrom_mem (PySem.mem_of_lookup e) with hm | ⟨h1, h2⟩
    · cases hm
    · obtain ⟨c1, hc⟩ := hfree _ h1 rfl
      have hc : X.env.cells.lookup y = some c1 := hc
      have e2 : c = c1 := by
        rw [h2, hc] <;> rfl
      rw [e2]
      exact hc
  have look : ∀ {y}, scope.names.lookup y = some .free → ∃ c, (cloFrom X.env.cells scope.names []).lookup y = some c := fun {y} hl => by
    have hy : (y, NameKind.free) ∈ scope.names := PySem.mem_of_lookup hl
    exact mem_lookup (cloFrom_has (cells := X.env.cells) (acc := []) hy)
  have cellK : ∀ {c : Addr} {v : Option Value}, H c = none → s.heap.IsCell c v → h₁.IsCell c v := fun {c v} n ⟨o, ho, hd⟩ => by
    obtain ⟨sl, q⟩ := un.any ho n (by simp)
    exact ⟨_, kp _ _ q, hd⟩
  have noA : ∀ b : Addr, b ∉ (lamCxP2 X A outer s1 HZ scope f c' pa pb).ex := fun b z => absurd (show b ∈ ([] : List Addr) from z) (by simp)
  refine ⟨⟨e0.mod, L.kind, rfl, rfl, Nat.le_refl _, fun y z c e1 e2 => I.ok.inj y z c (cm e1) (cm e2), fun y hy => ?_, fun y c z _ => ?_, fun _ => hd, Around.frames_deeper e0.frames, .inr ⟨rfl, rfl⟩, fun b z => absurd z (noA b), e0.bs, e0.bsz, fun b _ _ => noA b,
      fun b z => absurd z (noA b), e0.funs, e0.frf⟩,
    rfl, e0.bare, Un.kept kp, ⟨_, hns, fun i y v' e1 e2 e3 => ?_⟩, fun y c e => ?_, e0.hok.fresh (Nat.le_refl _), fun y c e => ?_, fun q hq => absurd (show q ∈ ([] : List (Addr × Obj)) ++ [] from hq) (by simp), e0.hok.kept kp, ?_⟩
  · have hy : scope.names.lookup y = some .cell ∨ scope.names.lookup y = some .free := hy
    rcases hy with hy | hy
    · exact absurd rfl (L.own _ (PySem.mem_of_lookup hy)).1
    · exact look hy
  · have z : false = true := z
    cases z
  · have e3 : Vis scope y := e3
    have e1 : (X.N ++ [pa, pb])[i]? = some y := e1
    by_cases hi : i < X.N.length
    · rw [List.getElem?_append_left hi] at e1
      rw [List.getElem?_append_left (by rw [I.len]; exact hi)] at e2
      have ny : ¬ (y = pa ∨ y = pb) := fun z => z.elim (fun z => hpar (by rw [← z]; exact List.mem_of_getElem? e1)) (fun z => hpbr (by rw [← z]; exact List.mem_of_getElem? e1))
      rcases e3 with k | k | k
      · exact absurd ((L.own _ (PySem.mem_of_lookup k)).2 rfl) ny
      · exact absurd rfl (L.own _ (PySem.mem_of_lookup k)).1
      · obtain ⟨m, hn, hl⟩ := I.loc
        have hvis : Vis X.env.scope y := (L.free _ (PySem.mem_of_lookup k) rfl).elim (fun k => .inr (.inl k)) (fun k => .inr (.inr k))
        obtain ⟨w', r, q⟩ := hl i y v' e1 e2 hvis
        obtain ⟨c2, h2⟩ := look k
        refine ⟨w', r, .inr ⟨.inr k, c2, h2, ?_⟩⟩
        have c1 := cm h2
        rcases q with ⟨k', _⟩ | ⟨_, c3, e', z⟩
        · have k' : X.env.scope.names.lookup y = some .local := k'
          rcases L.free _ (PySem.mem_of_lookup k) rfl with k2 | k2 <;> rw [show X.env.scope.names.lookup y = _ from k2] at k' <;> cases k'
        · rw [c1] at e'
          cases e'
          exact cellK (I.freeC y _ c1) z
    · have hi' : i = X.N.length ∨ i = X.N.length + 1 := by
        have := (List.getElem?_eq_some_iff.mp e1).1
        rw [List.length_append] at this
        have : i < X.N.length + 2 := this
        omega
      rcases hi' with rfl | rfl
      · rw [List.getElem?_append_right (Nat.le_refl _), Nat.sub_self] at e1
        rw [← I.len, List.getElem?_append_right (Nat.le_refl _), Nat.sub_self] at e2
        cases e1
        cases e2
        refine ⟨u, rv, .inl ⟨L.par, ?_⟩⟩
        show ([(pb, u2), (pa, u)] : List (Str × Value)).lookup pa = some u
        rw [List.lookup, show (pa == pb) = false from by simpa using L.ne]
        simp [List.lookup]
      · rw [List.getElem?_append_right (by omega), show X.N.length + 1 - X.N.length = 1 by omega] at e1
        rw [← I.len, List.getElem?_append_right (by omega), show σ.length + 1 - σ.length = 1 by omega] at e2
        cases e1
        cases e2
        refine ⟨u2, rv2, .inl ⟨L.parb, ?_⟩⟩
        show ([(pb, u2), (pa, u)] : List (Str × Value)).lookup pb = some u2
        simp [List.lookup]
  · obtain ⟨w', z⟩ := I.cell y c (cm e)
    exact ⟨w', cellK (I.freeC y c (cm e)) z⟩
  · obtain ⟨v, o, ho, hd⟩ := I.cell y c (cm e)
    exact un.free c o ho (I.freeC y c (cm e)) (by simp)
  · show (σ ++ [some v, some v2]).length = (X.N ++ [pa, pb]).length
    rw [List.length_append, List.length_append, I.len]
    rfl
/-- the promise of a lambda: its code object, its body's reading -/
def spLam2 (c' : Addr) (q : Str) (σ : L2.St) (tb : TE) : Sp := fun vs H Q _ => ∃ v v2, vs = [v, v2] ∧ H c' = some (CodeO c' q) ∧ tb (σ ++ [some v, some v2]) H Q
theorem lam_cal2 {C : CP} {scope : Scope} {pa pb : Str} {params : Arguments} {body : Expr} {pm ctv : Value} {f c' : Addr} {kb : Nat} {tb : TE} (I : Inv X pins σ H s) (L : LamP2 X.env.scope scope pa pb) (hpar : pa ∉ X.N) (hpbr : pb ∉ X.N) (hex : X.ex = [])
    (hf : s.heap.get? f = some (PySem.W.kla_obj "<lambda>" (X.env.qual ++ "<lambda>") params body scope (cloFrom X.env.cells scope.names []) pm c' ctv)) (hfn : H f = none) (hfr : f ∉ frs X.stack)
    (hbind : ∀ (q : Str) (cl : List (Str × Addr)) (pm cv ctv u u2 : Value), bindArgs (PySem.W.kla_fn "<lambda>" q params body scope cl pm cv ctv) ⟨[u, u2], []⟩ = pure [(pa, u), (pb, u2)])
    (hC : ∀ k f sp, C k f sp → Kn X k f sp)
    (hbody : ∀ (A : Around) (outer : List Env) (s1 : Shared) (H1 : Hp), (∀ k f sp, C k f sp → Kn (lamCxP2 X A outer s1 H1 scope f c' pa pb).nox k f sp) → Room kb (A.deeper (lamEnv X scope s1.heap.objs.size f c')) → PE (lamCxP2 X A outer s1 H1 scope f c' pa pb).nox body tb) :
    Cal X.prog X.w X.K X.mg X.base X.stack H s (kb + 1) f (spLam2 c' (X.env.qual ++ "<lambda>") σ tb) := by
  have at1 : ∀ (outer : List Env) (s1 : Shared) (H1 : Hp), Later X.stack H s outer H1 s1 → s1.heap.get? f = some (PySem.W.kla_obj "<lambda>" (X.env.qual ++ "<lambda>") params body scope (cloFrom X.env.cells scope.names []) pm c' ctv) :=
    fun outer s1 H1 l => l.un.keep f _ hf hfn hfr (by simp)
  refine ⟨fun outer s1 H1 l => ⟨_, _, _, _, at1 outer s1 H1 l⟩, fun A outer s1 HZ us vs Q hr e0 l r h => ?_⟩
  obtain ⟨v, v2, rfl, hc, ht⟩ := h
  obtain ⟨u, u2, rfl, rv, rv2⟩ : ∃ u u2, us = [u, u2] ∧ RelV v u ∧ RelV v2 u2 := by
    cases r with
    | cons r1 r2 => cases r2 with | cons r3 r4 => cases r4 with | nil => exact ⟨_, _, rfl, r1, r3⟩
  have of1 := at1 outer s1 HZ l
  obtain ⟨⟨oc, ws, t, hoc, hdc, hvc⟩, _, _⟩ := e0.hok c' _ hc
  have lim : s1.heap.NoLimit := e0.mod.nolimit.keeps fun b o e => (e0.bs b o e).1
  refine PySem.W.kla_callFunE hr.depth of1 rfl L.co L.gen rfl ⟨c', oc, ws, t, rfl, hoc, hdc, hvc⟩ ?_
  rw [hbind]
  refine wpAny_pure (wpAny_newFunctionEnv (fun y hy => (L.own y hy).1) (fun y hy => ?_) (fun h₁ hns hsb => ⟨lim.fresh _ hsb, ?_⟩) L.kind)
  · have e : y = (pa, u) ∨ y = (pb, u2) := by simpa using hy
    rcases e with e | e <;> rw [e]
    · exact L.par
    · exact L.parb
  show codeAny _ _ (.expr body (lamEnv X scope s1.heap.objs.size f c')) _ _
  have kp : ∀ b o, s1.heap.get? b = some o → h₁.get? b = some o := fun b o e => hsb.extBut b o (Nat.ne_of_lt (Heap.lt_size e)) (Heap.get?_push_of_some _ e)
  have J : Inv (lamCxP2 X A outer s1 HZ scope f c' pa pb) [] (σ ++ [some v, some v2]) HZ { s1 with heap := h₁, toks := s1.toks + ([(pa, u), (pb, u2)] : List (Str × Value)).length } := lam_startP2 I L hpar hpbr rv rv2 e0 hr.hd l.un hns kp
  have hb := hbody A outer s1 HZ (fun k f sp c => (hC k f sp c).later ((later_of I hex).trans l)) (hr.deeper _)
  refine PySem.W.kla_codeExpr (wpAny_mono (hb.nox.run [] _ _ HZ Q J ht) (fun v s' hq => ?_) fun e s' hq => hq)
  obtain ⟨w', H', J', rv', q⟩ := hq
  exact ⟨w', H', J'.os, J'.bare, J'.base, J'.hok, rv', q⟩
def tLamC2 (T : List (Addr × Str)) (q : Str) (spc : CP → Sp) (C : CP) (kb : Nat) (tb : TE) (t : TA) : TE := fun σ H Q => Tabs T H ∧ ∀ (f c' : Addr) (H1 : Hp), Sm T H H1 → H1 c' = some (CodeO c' q) → t σ H1 fun vs H2 =>
  ∀ C' : CP, (∀ k g sp, C k g sp → C' k g sp) → (∀ k sp, kb + 1 ≤ k → (∀ ws H3 Q3, sp ws H3 Q3 E0 → spLam2 c' q σ tb ws H3 Q3 E0) → C' k f sp) → spc C' (.ref f :: vs) H2 Q E0
/-- x(lambda par: body, e, ..) -/
theorem pe_lamC2 {T : List (Addr × Str)} {x pa pb : Str} {g c P : Addr} {kg kb : Nat} {fd : FuncData} {ps : List Str} {spc : CP → Sp} {C : CP} {params : Arguments} {body : Expr} {scope : Scope} {tb : TE} {t : TA} {es : List Expr} {p lpos pos : Pos}
    (G : FnOkC X.prog X.w X.K X.mg X.base kg g fd ps spc) (hr : Room kg X.A) (hg : Gl X x) (hm : X.mg x = some (.ref g)) (hk : PySem.W.keepIn X.K (.ref g) = true) (hb : L2.Binds X.K fd ps [])
    (TB : TabB X.base X.mg c P) (hcode : X.env.code = .ref c) (hmT : (P, X.env.qual ++ "<lambda>") ∈ T) (hu : ∀ p ∈ T, p.1 = P → p.2 = X.env.qual ++ "<lambda>")
    (L : LamP2 X.env.scope scope pa pb) (hpar : pa ∉ X.N) (hpbr : pb ∉ X.N) (hex : X.ex = []) (hdef : defaultsOf params X.env = ([], []))
    (hbind : ∀ (q : Str) (cl : List (Str × Addr)) (pm cv ctv u u2 : Value), bindArgs (PySem.W.kla_fn "<lambda>" q params body scope cl pm cv ctv) ⟨[u, u2], []⟩ = pure [(pa, u), (pb, u2)])
    (hC : ∀ k f sp, C k f sp → Kn X k f sp)
    (hbody : ∀ (A : Around) (outer : List Env) (s1 : Shared) (H1 : Hp) (f c' : Addr), (∀ k f sp, C k f sp → Kn (lamCxP2 X A outer s1 H1 scope f c' pa pb).nox k f sp) → Room kb (A.deeper (lamEnv X scope s1.heap.objs.size f c')) → PE (lamCxP2 X A outer s1 H1 scope f c' pa pb).nox body tb)
    (ha : PA X es t) (hdb : (x == ("__debug__" : Str)) = false := by decide) (hpl : (backTo pos (starEach es X.env)).any (·.1) = false := by rfl) :
    PE X (.Call (.Name x p) (.Lambda params body scope lpos :: es) [] pos) (tLamC2 T (X.env.qual ++ "<lambda>") spc C kb tb t) := by
  refine ⟨fun pins s σ H Q I h => ?_⟩
  obtain ⟨hT, h⟩ := h
  refine wpAny_Call_Name_kw (ld_glob I hg hm ?_ hdb)
  refine PySem.W.callWith_K (h₀ := X.base) I.ok.mod.kin hk ?_ (by rfl) hpl
  show wpAny _ _ (spliced ((false, eval (.Lambda params body scope lpos) X.env) :: backTo pos (starEach es X.env))) _ _ s
  refine Calls.spliced_cons (lam_make2 (E := X.xe) I TB hcode hmT hu hT hdef (L.has I.ok) fun f c' pm' ctv H1 s' I1 eN T1 hf hfn hfr hco => ?_)
  have nfL : f ≠ X.env.locals := fun z => by
    obtain ⟨m, ⟨o, es, ep, ho, hd, _⟩, _⟩ := I1.loc
    rw [← z, hf] at ho
    cases ho
    cases hd
  have nfs : f ∉ X.fs := fun z => hfr (by
    rcases I1.ok.stk with e | ⟨e, hfm⟩
    · rw [e]; exact z
    · rw [e]
      unfold frs
      rw [List.filterMap_cons, hfm]
      exact List.mem_cons_of_mem _ z)
  have I2 : Inv X ((f, PySem.W.kla_obj "<lambda>" (X.env.qual ++ "<lambda>") params body scope (cloFrom X.env.cells scope.names []) pm' c' ctv) :: pins) σ H1 s' := I1.pins_of fun q hq => by
    rcases List.mem_cons.mp hq with e | hq
    · rw [e]
      exact ⟨hf, hfn, nfL, nfs, fun v z => by cases z⟩
    · exact I1.pin q (List.mem_append_right _ hq)
  refine thn (ha.run pos _ s' σ H1 _ I2 (h f c' H1 ⟨eN, fun _ => T1⟩ hco)) fun us s2 ⟨vs, H2, I3, r, q⟩ => ⟨I3.kIn, ?_⟩
  obtain ⟨pf, pn, _, _, _⟩ := I3.pin _ (List.mem_append_right _ (List.mem_cons_self (a := (f, PySem.W.kla_obj "<lambda>" (X.env.qual ++ "<lambda>") params body scope (cloFrom X.env.cells scope.names []) pm' c' ctv))))
  have I4 : Inv X pins σ H2 s2 := I3.pins_of fun q hq => I3.pin q (List.mem_append_right _ (List.mem_cons_of_mem _ hq))
  have cal := lam_cal2 (C := C) (f := f) (c' := c') (kb := kb) (tb := tb) I4 L hpar hpbr hex pf pn hfr hbind hC fun A outer s1 H1 hk hr => hbody A outer s1 H1 f c' hk hr
  have hsp := q (Cal X.prog X.w X.K X.mg X.base X.stack H2 s2) (fun k g sp z => (hC k g sp z).later (later_of I4 hex)) (fun k sp hk z => cal.imp hk z)
  have r2 : Vals (.ref f :: vs) (.ref f :: us) := .cons rfl r
  have hl : (Value.ref f :: us).length = ps.length := by rw [← r2.length]; exact G.len _ _ _ _ _ hsp
  have hbi := hb s2 (.ref f :: us) I4.kIn (by rw [List.append_nil]; exact hl)
  rw [List.append_nil] at hbi
  refine wpAny_call (codeAny_mono (G.run X.A X.stack s2 H2 ⟨.ref f :: us, []⟩ (.ref f :: us) (.ref f :: vs) Q hr I4.env0 hbi r2 hsp) fun r s' hq => ?_)
  cases r with
  | error e => exact (show False from hq).elim
  | ok fl =>
    cases fl with
    | ret u => exact I4.after hq
    | next => exact False.elim hq
    | brk => exact False.elim hq
    | cont => exact False.elim hq
end
theorem lit_nil {P : Params} : PySem.W.KeysLit P [] := trivial
theorem lit_cons {P : Params} {e : DictEntry} {r : List DictEntry} {x : Str} {t : Tok} (h1 : e.key = .str x t) (h2 : e.hash = PyData.keyHash P x) (h : PySem.W.KeysLit P r) : PySem.W.KeysLit P (e :: r) := ⟨⟨x, t, h1, h2⟩, h⟩
end Fw
namespace Fw
open PySem PySem.Spec PyProof.Rows L2 LamX
/-- x(e, ..), x a def that may be handed what can be called; what is known here is handed on -/
def tCallC (spc : CP → Sp) (C : CP) (t : TA) : TE := fun σ H Q => t σ H fun vs H1 => ∀ C' : CP, (∀ k f sp sp', C k f sp → (∀ vs H Q, sp' vs H Q E0 → sp vs H Q E0) → C' k f sp') → spc C' vs H1 Q E0
theorem pe_callC {X : Cx} {x : Str} {g : Addr} {kg : Nat} {fd : FuncData} {ps : List Str} {spc : CP → Sp} {C : CP} {t : TA} {e : Expr} {es : List Expr} {p pos : Pos}
    (hC : ∀ k f sp, C k f sp → Kn X k f sp) (G : FnOkC X.prog X.w X.K X.mg X.base kg g fd ps spc) (hr : Room kg X.A) (hg : Gl X x) (hm : X.mg x = some (.ref g)) (hk : PySem.W.keepIn X.K (.ref g) = true) (hb : L2.Binds X.K fd ps []) (hex : X.ex = []) (ha : PA X (e :: es) t)
    (hdb : (x == ("__debug__" : Str)) = false := by decide) (he : starEach (e :: es) X.env = (false, eval e X.env) :: starEach es X.env := by rfl) (hpl : (backTo pos (starEach es X.env)).any (·.1) = false := by rfl) :
    PE X (.Call (.Name x p) (e :: es) [] pos) (tCallC spc C t) := by
  refine ⟨fun pins s σ H Q I h => ?_⟩
  refine wpAny_Call_Name_kw (ld_glob I hg hm ?_ hdb)
  refine PySem.W.callWith_K (h₀ := X.base) I.ok.mod.kin hk (thn (ha.run pos pins s σ H _ I h) fun us s1 ⟨vs, H1, I1, r, q⟩ => ⟨I1.kIn, ?_⟩) he hpl
  have hsp := q (Cal X.prog X.w X.K X.mg X.base X.stack H1 s1) fun k f sp sp' z hi => ((hC k f sp z).later (later_of I1 hex)).imp (Nat.le_refl k) hi
  have hl : us.length = ps.length := by rw [← r.length]; exact G.len _ _ _ _ _ hsp
  have hbi := hb s1 us I1.kIn (by rw [List.append_nil]; exact hl)
  rw [List.append_nil] at hbi
  refine wpAny_call (codeAny_mono (G.run X.A X.stack s1 H1 ⟨us, []⟩ us vs Q hr I1.env0 hbi r hsp) fun r s' hq => ?_)
  cases r with
  | error e => exact (show False from hq).elim
  | ok fl =>
    cases fl with
    | ret u => exact I1.after hq
    | next => exact False.elim hq
    | brk => exact False.elim hq
    | cont => exact False.elim hq
theorem w_callC {spc : CP → Sp} {C : CP} {t : TA} {σ : L2.St} {H : Hp} {Q : VK} (q : t σ H fun vs H1 => ∀ C' : CP, (∀ k f sp sp', C k f sp → (∀ vs H Q, sp' vs H Q E0 → sp vs H Q E0) → C' k f sp') → spc C' vs H1 Q E0) : tCallC spc C t σ H Q := q
end Fw
namespace Fw
open L2
open PySem PySem.Spec PyProof.Rows PySem.W
theorem minOf_le (p : Int × Int) (ps : List (Int × Int)) : ∀ y ∈ p :: ps, SrtO.lexB y (minOf p ps) = false := by
  unfold minOf
  induction ps generalizing p with
  | nil =>
    intro y hy
    rw [List.mem_singleton.mp hy]
    refine SrtO.lexB_no.mpr ?_
    show ¬(p.1 < p.1 ∨ (p.1 = p.1 ∧ p.2 < p.2))
    omega
  | cons q ps ih =>
    intro y hy
    rw [List.foldl_cons]
    have i := ih (if DatumOrd.lt q p = true then q else p)
    have l1 : SrtO.lexB p (if DatumOrd.lt q p = true then q else p) = false ∧ SrtO.lexB q (if DatumOrd.lt q p = true then q else p) = false := by
      by_cases h : DatumOrd.lt q p = true
      · have h' : SrtO.lexB q p = true := h
        have := SrtO.lexB_iff.mp h'
        rw [if_pos h]
        refine ⟨SrtO.lexB_no.mpr ?_, SrtO.lexB_no.mpr ?_⟩ <;> omega
      · have h' : SrtO.lexB q p = false := by
          cases e : SrtO.lexB q p
          · rfl
          · exact absurd e h
        rw [if_neg h]
        exact ⟨SrtO.lexB_no.mpr (by omega), h'⟩
    generalize (if DatumOrd.lt q p = true then q else p) = c at i l1 ⊢
    have i0 := SrtO.lexB_no.mp (i c List.mem_cons_self)
    rcases List.mem_cons.mp hy with e | hy
    · rw [e]
      have a := SrtO.lexB_no.mp l1.1
      have b := SrtO.lexB_no.mp (i c List.mem_cons_self)
      refine SrtO.lexB_no.mpr ?_
      omega
    rcases List.mem_cons.mp hy with e | hy
    · rw [e]
      have a := SrtO.lexB_no.mp l1.2
      refine SrtO.lexB_no.mpr ?_
      omega
    · exact i y (List.mem_cons_of_mem _ hy)
section
variable {X : Cx}
/-- min(xs), xs a list of pairs of ints (k says which): one of them, none before it -/
def rMinP (K : PySem.W.Frag) : List V → Hp → VK → Prop := fun vs H Q => ∃ (a : Addr) (xs : List V) (k : V → Int × Int), vs = [V.ref a] ∧ SqL K H a xs ∧ xs ≠ [] ∧ (∀ x ∈ xs, ∃ t, x = V.ref t ∧ H t = some (.tup [.int (k x).1, .int (k x).2])) ∧
  ∀ m, m ∈ xs → (∀ y ∈ xs, ltP k y m = false) → Q m H
abbrev dP (p : Int × Int) : PyData := .tuple [.int p.1, .int p.2]
theorem dp_pairs {K : PySem.W.Frag} {H : Hp} (k : V → Int × Int) : ∀ (xs : List V), (∀ x ∈ xs, ∃ t, x = V.ref t ∧ H t = some (.tup [.int (k x).1, .int (k x).2])) → DpAll K H xs (xs.map fun x => dP (k x))
  | [], _ => .nil
  | x :: xs, h => by
    obtain ⟨t, e, ht⟩ := h x List.mem_cons_self
    have go : ∀ z : Int × Int, H t = some (.tup [.int z.1, .int z.2]) → Dp K H (V.ref t) (dP z) := fun z ht => ?_
    · refine .cons ?_ (dp_pairs k xs fun y hy => h y (List.mem_cons_of_mem _ hy))
      have := go _ ht
      rw [← e] at this
      exact this
    exact .tup (SqT.of ht) (.cons (.int _) (.cons (.int _) .nil))
theorem dp_one {K : PySem.W.Frag} {H : Hp} (k : V → Int × Int) {xs : List V} (h : ∀ x ∈ xs, ∃ t, x = V.ref t ∧ H t = some (.tup [.int (k x).1, .int (k x).2])) {x : V} (m : x ∈ xs) : Dp K H x (dP (k x)) := by
  obtain ⟨t, e, ht⟩ := h x m
  have go : ∀ z : Int × Int, H t = some (.tup [.int z.1, .int z.2]) → Dp K H (V.ref t) (dP z) := fun z ht => .tup (SqT.of ht) (.cons (.int _) (.cons (.int _) .nil))
  have := go _ ht
  rw [← e] at this
  exact this
theorem vals_at : ∀ {vs : List V} {us : List Value}, Vals vs us → ∀ {i : Nat} {u : Value}, us.toArray[i]? = some u → ∃ v, vs[i]? = some v ∧ RelV v u := fun {vs us} r {i u} h => by
  have h' : us[i]? = some u := by simpa using h
  clear h
  induction r generalizing i with
  | nil => simp at h'
  | cons r1 _ ih =>
    cases i with
    | zero =>
      obtain rfl := Option.some.inj h'
      exact ⟨_, rfl, r1⟩
    | succ i => exact ih h'
theorem cr_minP (hu : X.A.units + 64 < cLine) (hc : X.calm = true) : CallR X (.builtin "min") (rMinP X.K) := by
  intro pins s σ H vs us Q I r h
  obtain ⟨a, xs, k, rfl, hs, hne, hx, q⟩ := h
  obtain ⟨its, rv, hl, _⟩ := I.list hs
  rw [Vals.ref1 r]
  have hd := dp_pairs (K := X.K) k xs hx
  obtain ⟨as, hr⟩ := Dp.readsAll I _ _ its hd rv
  obtain ⟨x0, xt, rfl⟩ : ∃ x0 xt, xs = x0 :: xt := by
    cases xs with
    | nil => exact absurd rfl hne
    | cons x0 xt => exact ⟨x0, xt, rfl⟩
  have hh : HoldAll s.heap its.toArray.toList (k x0 :: xt.map k) := ⟨as, by
    rw [List.map_cons, List.map_map]
    exact hr⟩
  refine min_list_datum (α := Int × Int) (I.ok.hd hc) hl.isList hh (by show X.A.units + 1 + (max 0 0 + 1) < cLine; omega) fun i v h' tk hi hm hk => ?_
  obtain ⟨v', hv', rv'⟩ := vals_at rv hi
  have hmem : v' ∈ x0 :: xt := List.mem_of_getElem? hv'
  obtain ⟨as1, r1⟩ := hm
  obtain ⟨as2, r2⟩ := Dp.reads I _ v' v (dp_one k hx hmem) rv'
  have e := alike_unique _ _ v as1 as2 (DatumOrd.alike (α := Int × Int) _ (k v')) r1 (reads_keeps hk r2)
  have e' : minOf (k x0) (xt.map k) = k v' := by
    injection e with e
    injection e with a b
    injection b with b _
    injection a with a
    injection b with b
    exact Prod.ext a b
  refine ⟨v', H, I.kept hk, rv', q v' hmem fun y hy => ?_⟩
  have := minOf_le (k x0) (xt.map k) (k y) (by
    rw [← List.map_cons]
    exact List.mem_map.mpr ⟨y, hy, rfl⟩)
  rw [e'] at this
  exact this
end
theorem pe_fldK {X : Cx} {e : Expr} {f : Str} {pos : Pos} {ta : TE} {K : PySem.W.Frag} (hK : X.K = K) (he : PE X e ta) (hb : attributeBase e f X.env (eval e X.env) = eval e X.env) : PE X (.Attribute e f pos) (tFld K ta f) := by
  subst hK
  exact pe_fld he hb
def rLstOf (K : PySem.W.Frag) : List V → Hp → VK → Prop := fun xs H Q => ∃ p ys, xs = [.ref p] ∧ (SqL K H p ys ∨ SqT K H p ys) ∧ ∀ l, H l = none → Q (.ref l) (upd H l (.lst ys))
theorem w_lstOf {K : PySem.W.Frag} {H : Hp} {Q : VK} {a : Addr} {xs : List V} (h : H a = some (.lst xs)) (q : ∀ l, H l = none → Q (.ref l) (upd H l (.lst xs))) : rLstOf K [.ref a] H Q := ⟨a, xs, rfl, .inl (SqL.of h), q⟩
theorem w_revL {H : Hp} {Q : VK} {l : Addr} {xs : List V} (h : H l = some (.lst xs)) (q : Q .non (upd H l (.lst xs.reverse))) : rReverse (.ref l) [] H Q := ⟨l, xs, rfl, rfl, h, q⟩
/-- the pair of ints that a value points at -/
def kOf (H : Hp) : V → Int × Int
  | .ref q => match H q with
    | some (.tup [.int i, .int j]) => (i, j)
    | _ => (0, 0)
  | _ => (0, 0)
theorem kOf_at {H : Hp} {q : Addr} {i j : Int} (h : H q = some (.tup [.int i, .int j])) : kOf H (.ref q) = (i, j) := by
  unfold kOf
  simp only [h]
/-- rs holds just the pairs of which P speaks -/
def PairsOf (H : Hp) (rs : List V) (P : Nat → Int → Prop) : Prop :=
  (∀ r ∈ rs, ∃ (q : Addr) (n : Nat) (y : Int), r = .ref q ∧ H q = some (.tup [.int (n : Int), .int y]) ∧ P n y) ∧ (∀ n y, P n y → ∃ q : Addr, V.ref q ∈ rs ∧ H q = some (.tup [.int (n : Int), .int y]))
/-- v is the first pair of which P speaks, None if it speaks of none -/
def BestOf (H : Hp) (P : Nat → Int → Prop) (v : V) : Prop :=
  (v = .non ∧ ∀ n y, ¬ P n y) ∨ ∃ (q : Addr) (n : Nat) (y : Int), v = .ref q ∧ H q = some (.tup [.int (n : Int), .int y]) ∧ P n y ∧ ∀ m z, P m z → n < m ∨ (n = m ∧ y ≤ z)
theorem BestOf.keep {H H' : Hp} {P : Nat → Int → Prop} {v : V} (h : BestOf H P v) (s : ∀ q n y, H q = some (.tup [.int n, .int y]) → H' q = some (.tup [.int n, .int y])) : BestOf H' P v := by
  rcases h with h | ⟨q, n, y, e, hq, p, m⟩
  · exact .inl h
  · exact .inr ⟨q, n, y, e, s _ _ _ hq, p, m⟩
theorem PairsOf.k {H : Hp} {rs : List V} {P : Nat → Int → Prop} (h : PairsOf H rs P) : ∀ x ∈ rs, ∃ t, x = V.ref t ∧ H t = some (.tup [.int (kOf H x).1, .int (kOf H x).2]) := fun x hx => by
  obtain ⟨q, n, y, rfl, hq, _⟩ := h.1 x hx
  refine ⟨q, rfl, ?_⟩
  rw [kOf_at hq]
  exact hq
theorem PairsOf.best {H : Hp} {rs : List V} {P : Nat → Int → Prop} (h : PairsOf H rs P) {m : V} (hm : m ∈ rs) (hl : ∀ y ∈ rs, ltP (kOf H) y m = false) : BestOf H P m := by
  obtain ⟨q, n, y, rfl, hq, p⟩ := h.1 m hm
  refine .inr ⟨q, n, y, rfl, hq, p, fun i z hz => ?_⟩
  obtain ⟨q2, hr, hq2⟩ := h.2 i z hz
  have a := hl _ hr
  unfold ltP at a
  rw [kOf_at hq, kOf_at hq2] at a
  have := SrtO.lexB_no.mp a
  simp only at this
  omega
theorem PairsOf.none {H : Hp} {P : Nat → Int → Prop} (h : PairsOf H [] P) : BestOf H P .non := .inl ⟨rfl, fun n y p => by
  obtain ⟨q, hr, _⟩ := h.2 n y p
  cases hr⟩
theorem PairsOf.perm {H : Hp} {rs rs' : List V} {P : Nat → Int → Prop} (h : PairsOf H rs P) (p : rs'.Perm rs) : PairsOf H rs' P := ⟨fun r hr => h.1 r (p.mem_iff.mp hr), fun n y z => by
  obtain ⟨q, hr, hq⟩ := h.2 n y z
  exact ⟨q, p.mem_iff.mpr hr, hq⟩⟩
theorem PairsOf.keep {H H' : Hp} {rs : List V} {P : Nat → Int → Prop} (h : PairsOf H rs P) (s : ∀ q n y, H q = some (.tup [.int n, .int y]) → H' q = some (.tup [.int n, .int y])) : PairsOf H' rs P := ⟨fun r hr => by
  obtain ⟨q, n, y, e, hq, p⟩ := h.1 r hr
  exact ⟨q, n, y, e, s _ _ _ hq, p⟩, fun n y z => by
  obtain ⟨q, hr, hq⟩ := h.2 n y z
  exact ⟨q, hr, s _ _ _ hq⟩⟩
theorem PairsOf.head {H : Hp} {rs ys : List V} {P : Nat → Int → Prop} (h : PairsOf H rs P) (s : SrtO.Srtd (ltP (kOf H)) ys) (p : ys.Perm rs) : ∃ v, (ys ++ [V.non])[0]? = some v ∧ BestOf H P v := by
  have h' := h.perm p
  cases ys with
  | nil => exact ⟨.non, rfl, h'.none⟩
  | cons y ys =>
    refine ⟨y, rfl, h'.best List.mem_cons_self fun z hz => ?_⟩
    rcases List.mem_cons.mp hz with e | hz
    · rw [e]
      exact (ltP_swo _).refl _
    · exact SrtO.srtd_head s z hz
theorem w_minP {K : PySem.W.Frag} {H : Hp} {Q : VK} {a : Addr} {rs : List V} {P : Nat → Int → Prop} (h : H a = some (.lst rs)) (p : PairsOf H rs P) (ne : rs ≠ []) (q : ∀ v, BestOf H P v → Q v H) : rMinP K [.ref a] H Q :=
  ⟨a, rs, kOf H, rfl, SqL.of h, ne, p.k, fun m hm hl => q m (p.best hm hl)⟩
theorem w_sortPO {K : PySem.W.Frag} {H : Hp} {Q : VK} {a : Addr} {rs : List V} {P : Nat → Int → Prop} (h : H a = some (.lst rs)) (p : PairsOf H rs P) (q : ∀ ys l, ys.length = rs.length → (∃ v, (ys ++ [V.non])[0]? = some v ∧ BestOf H P v) → H l = none → Q (.ref l) (upd H l (.lst ys))) : rSortedPO K [.ref a] H Q :=
  ⟨a, rs, kOf H, rfl, SqL.of h, p.k, fun ys l s b hl => q ys l b.perm.length_eq (p.head s b.perm) hl⟩
theorem PairsOf.iff {H : Hp} {rs : List V} {P P' : Nat → Int → Prop} (h : PairsOf H rs P) (e : ∀ n y, P n y ↔ P' n y) : PairsOf H rs P' := ⟨fun r hr => by
  obtain ⟨q, n, y, e1, hq, p⟩ := h.1 r hr
  exact ⟨q, n, y, e1, hq, (e _ _).mp p⟩, fun n y z => h.2 n y ((e _ _).mpr z)⟩
theorem PairsOf.add {H : Hp} {rs : List V} {P : Nat → Int → Prop} {q : Addr} {n : Nat} {y : Int} (h : PairsOf H rs P) (hq : H q = some (.tup [.int (n : Int), .int y])) : PairsOf H (rs ++ [.ref q]) (fun m z => P m z ∨ (m = n ∧ z = y)) := ⟨fun r hr => by
  rcases List.mem_append.mp hr with hr | hr
  · obtain ⟨q, n, y, e1, hq, p⟩ := h.1 r hr
    exact ⟨q, n, y, e1, hq, .inl p⟩
  · exact ⟨q, n, y, List.mem_singleton.mp hr, hq, .inr ⟨rfl, rfl⟩⟩, fun m z hz => by
  rcases hz with hz | ⟨e1, e2⟩
  · obtain ⟨q, hr, hq⟩ := h.2 m z hz
    exact ⟨q, List.mem_append.mpr (.inl hr), hq⟩
  · subst e1 e2
    exact ⟨q, List.mem_append.mpr (.inr List.mem_cons_self), hq⟩⟩
theorem get_app {α : Type} {rs : List α} {r0 r : α} {i : Nat} (h : (rs ++ [r0])[i]? = some r) : rs[i]? = some r ∨ (i = rs.length ∧ r = r0) := by
  by_cases lt : i < rs.length
  · rw [List.getElem?_append_left lt] at h
    exact .inl h
  · have l := (List.getElem?_eq_some_iff.mp h).1
    rw [List.length_append, List.length_singleton] at l
    obtain rfl : i = rs.length := by omega
    rw [List.getElem?_append_right (Nat.le_refl _), Nat.sub_self] at h
    exact .inr ⟨rfl, (Option.some.inj h).symm⟩
end Fw
namespace Fw
open L2
open PySem PySem.Spec PyProof.Rows
section
variable {X : Cx} {pins : List (Addr × Obj)} {σ : L2.St} {H : Hp} {s : Shared} {a b : Addr} {kvs : List (List Key × V)} {k : List Key} {A : Around} {E : Value → Shared → Prop}
/-- a key with tuples for keys is taken out -/
theorem d_delT {Q : Unit → Shared → Prop} (hu : A.units + 1 < cLine) (I : Inv X pins σ H s) (e : H a = some (.dT kvs)) (eb : H b = some (.tup (k.map kV))) (l : (valV kvs k).isSome = true)
    (h : ∀ s', Inv X pins σ (upd H a (.dT (dropK kvs k))) s' → Q () s') : wpAny (model X.prog X.w) A (delItem (.ref a) (.ref b)) Q E s := by
  obtain ⟨z, hd, xs, rel, dd⟩ := dt_of I.hok e
  have hz : xs.length ≤ sizeLine := by rw [← Paired.length rel]; exact z
  have rv := rel.val k
  obtain ⟨p, hp⟩ : ∃ p, atKey xs k = some p := by
    cases ea : atKey xs k with
    | some p => exact ⟨p, rfl⟩
    | none =>
      rw [ea] at rv
      obtain ⟨v, ev⟩ := Option.isSome_iff_exists.mp l
      rw [ev] at rv
      exact (show False from rv).elim
  refine wpAny_delItem_heap (knd := tupleKind (mixKind X.prog X.w)) (k := k) (hsz := hz) (tupleKind_room_in1 hu) (key_of I.hok eb) hd dd hp fun h' dd' hs => h _ ?_
  obtain ⟨o, es, ep, hq, h2, h3, h4, _, h5⟩ := dd'
  exact d_write I (by rw [e]; exact True.intro) hs ⟨o, hq⟩ ⟨Nat.le_trans (dropK_le kvs k) z, hd, _, (DX.KT_drop k rel).keeps (fun c ys ec => (by rw [upd_ne (ne_of ec e (fun z => nomatch z))]; exact ec)), o, es, ep, hq, h2, h3, h4, h5⟩
end
section
variable {X : Cx} {o i : Expr} {pos tpos : Pos} {td ty : TE}
/-- del d[t] -/
def sDelT (td ty : TE) : TS := fun D σ H => td σ H fun x H1 => ty σ H1 fun y H2 => ∃ a b kvs k, x = .ref a ∧ H2 a = some (.dT kvs) ∧ y = .ref b ∧ H2 b = some (.tup (k.map kV)) ∧ (valV kvs k).isSome = true ∧ D.nx σ (upd H2 a (.dT (dropK kvs k)))
theorem ps_delT (hu : X.A.units + 1 < cLine) (ho : PE X o td) (hi : PE X i ty) : PS X (.Delete [.Subscript o i tpos] pos) (sDelT td ty) := by
  refine ⟨fun pins s σ H D I h => ?_⟩
  refine wpAny_Delete (wpAny_deleteEach_cons (wpAny_delete_Subscript (thn (ho.run pins s σ H _ I h) fun u s1 ⟨x, H1, I1, rx, q1⟩ => thn (hi.run pins s1 σ H1 _ I1 q1) fun iv s2 ⟨y, H2, I2, ry, a, b, kvs, k, ex, e, ey, eb, l, q2⟩ => ?_)))
  subst ex ey
  cases (show u = Value.ref a from rx)
  cases (show iv = Value.ref b from ry)
  exact d_delT hu I2 e eb l fun s3 I3 => wpAny_deleteEach_nil ⟨σ, _, I3, q2⟩
end
section
variable {X : Cx} {pins : List (Addr × Obj)} {σ : L2.St} {H : Hp} {s : Shared} {a b : Addr} {kvs : List (List Key × V)} {k : List Key} {E : Value → Shared → Prop}
/-- an entry laid by a comprehension, the key a tuple -/
theorem d_layT {v : V} {r : Value} {Q : Unit → Shared → Prop} (hu : X.A.units < cLine) (I : Inv X pins σ H s) (e : H a = some (.dT kvs)) (eb : H b = some (.tup (k.map kV))) (rv : RelV v r) (l : kvs.length < sizeLine)
    (h : ∀ s', Inv X pins σ (upd H a (.dT (putK kvs k v))) s' → Q () s') : wpAny (model X.prog X.w) X.A (dictSet a (.ref b) r) Q E s := by
  obtain ⟨z, hd, xs, rel, dd⟩ := dt_of I.hok e
  have hz : xs.length ≤ sizeLine := by rw [← Paired.length rel]; exact z
  have hl : (putK kvs k v).length ≤ sizeLine := by have := length_putK kvs k v; omega
  refine wpAny_dictSet_heap (knd := tupleKind (mixKind X.prog X.w)) (k := k) (hsz := hz) ?_ (key_of I.hok eb) dd fun h' dd' hs => h _ ?_
  · exact hu
  obtain ⟨q, es, ep, hq, h2, h3, h4, _, h5⟩ := dd'
  refine d_write I (by rw [e]; exact True.intro) hs ⟨q, hq⟩ ⟨hl, hd, _, (rel.put k eb rv).keeps fun c ys ec => ?_, q, es, ep, hq, h2, h3, h4, h5⟩
  rw [upd_ne (ne_of ec e (fun z => nomatch z))]
  exact ec
end
/-! ### {k: v for target in iter}, keys of either sort: the entry is told by DPut -/
section
variable {X : Cx}
/-- an entry of a comprehension's dict, by DPut -/
theorem d_lay {pins : List (Addr × Obj)} {σ : L2.St} {H H' : Hp} {s : Shared} {E : Value → Shared → Prop} {a : Addr} {y v : V} {u r : Value} {Q : Unit → Shared → Prop} (hu : X.A.units < cLine) (I : Inv X pins σ H s) (g : DPut H a y v H') (ry : RelV y u) (rv : RelV v r)
    (h : ∀ s', Inv X pins σ H' s' → Q () s') : wpAny (model X.prog X.w) X.A (dictSet a u r) Q E s := by
  rcases g with ⟨kvs, k, e, ey, l, eH⟩ | ⟨kvs, k, b, e, ey, eb, l, eH⟩
  · subst ey eH
    exact d_dictSet I e l ry rv h
  · subst ey eH
    cases (show u = Value.ref b from ry)
    exact d_layT hu I e eb rv l h
/-- what a turn asks -/
abbrev DcTurn (g : TG) (tt : TT) (tk tv : TE) (vs : List Nat) (σ : L2.St) (D : Addr) (Nx : Hp → Prop) (x : V) (H : Hp) : Prop :=
  g x (wipe σ vs) H fun σ2 H2 => wipe σ2 vs = wipe σ vs ∧ tt σ2 H2 fun b H3 => if b = true then tk σ2 H3 fun y H4 => tv σ2 H4 fun z H5 => ∃ H6, DPut H5 D y z H6 ∧ Nx H6 else Nx H3
def tDcG (o : HO) (wi : TI) (g : TG) (tt : TT) (tk tv : TE) (vs : List Nat) : TE := fun σ H Q => wi σ H fun J H1 => ∀ D, H1 D = none → ∃ W : Nat → Nat → Hp → Prop, (∃ m, W 0 m (upd H1 D o)) ∧ ∀ i m H, W i m H →
  (J.stop i H ∧ Q (.ref D) H) ∨ (J.go i H ∧ ∃ Nx : Hp → Prop, (∀ H', Nx H' → ∃ m', m' < m ∧ W (i + 1) m' H') ∧ ∀ x H', J.yld i H x H' → DcTurn g tt tk tv vs σ D Nx x H')
/-- an object that a new, empty dict may stand for -/
def NewD (o : HO) : Prop := o = .dK [] ∨ o = .dT []
theorem NewD.ok {o : HO} (n : NewD o) {P : Program} {w : World} {H : Hp} (h : Heap) (hb : sysModules < h.objs.size) : ObjOk P w H (h.push { cls := .type "dict", data := .dict #[] }) h.objs.size o := by
  rcases n with rfl | rfl
  · exact dk_empty h hb
  · exact dt_empty h hb
theorem dcG_core {pins : List (Addr × Obj)} {s : Shared} {σ : L2.St} {H : Hp} {Q : VK} {o : HO} {kx vx tg iter : Expr} {ifs : List Expr} {scope : Scope} {own : List (Str × Nat)} {pos pos' : Pos} {wi : TI} {g : TG} {tt : TT} {tk tv : TE} {use : Option (Value → Sem Unit)} {Qf : Value → Shared → Prop}
    (no : NewD o) (hu : X.A.units < cLine) (hc : X.calm = true) (hN : X.N.Nodup) (I : Inv X pins σ H s) (hi : PI X tg iter wi) (ok : BlkOk X.N X.env.scope scope own)
    (hg : ∀ (s : Shared) (H : Hp) (C : Addr) (cl : List (Str × Addr)) (fp : List Addr), PG (X.blk s H scope (compEnvC scope cl C X.env) fp) tg g) (ht : ∀ (s : Shared) (H : Hp) (C : Addr) (cl : List (Str × Addr)) (fp : List Addr), PTs (X.blk s H scope (compEnvC scope cl C X.env) fp) ifs tt)
    (hk : ∀ (s : Shared) (H : Hp) (C : Addr) (cl : List (Str × Addr)) (fp : List Addr), PE (X.blk s H scope (compEnvC scope cl C X.env) fp) kx tk)
    (hv : ∀ (s : Shared) (H : Hp) (C : Addr) (cl : List (Str × Addr)) (fp : List Addr), PE (X.blk s H scope (compEnvC scope cl C X.env) fp) vx tv) (hs : ∀ x, foldedSetIterable iter X.env x = pure x)
    (h : tDcG o wi g tt tk tv (own.map (·.2)) σ H Q) (hR : ∀ D C s' m H', Inv X pins σ H' s' → Q (.ref D) H' → s'.heap.Ns C m → FpOk X pins H' C → compPost (model X.prog X.w) X.A X.xe use Qf (.ref D) C (.ok .next) s') :
    wpAny (model X.prog X.w) X.A (comprehension (.DictComp kx vx [⟨tg, iter, ifs, 0⟩] scope pos) scope X.env pos' newDict false (eval iter X.env) use) Qf X.xe s := by
  have free : ∀ y ∈ scope.names, y.2 = .free → ∃ c, X.env.cells.lookup y.1 = some c := fun y hy e => (ok.free y hy e).elim (fun z => I.ok.has _ (.inl z)) (fun z => I.ok.has _ (.inr z))
  refine wpAny_comprehension_free (use := use) rfl hs (closure_ok free) ok.kind (fun y hy e => by rw [ok.uniq y hy, e]) (thn (hi.run pins s σ H _ I h) fun xv s1 hx => thn hx fun itv s2 h2 => ?_)
  obtain ⟨it, fp, tn, J, H2, rfl, I2, T, st2, f2, q⟩ := h2
  refine wpAny_newObj_type (newEnv_comp ?_)
  obtain ⟨D, hD⟩ : ∃ D, D = s2.heap.objs.size := ⟨_, rfl⟩
  rw [← hD]
  obtain ⟨W, ⟨m0, w0⟩, turn⟩ := q D (I2.hok.fresh (Nat.le_of_eq hD.symm))
  -- behind the empty dict
  have low : ∀ b ∈ fp, b < s2.heap.objs.size := fun b hb => let ⟨_, e, _⟩ := T.obj _ _ st2 b hb; Heap.lt_size e
  obtain ⟨s3, hs3⟩ : ∃ s3 : Shared, s3 = { s2 with heap := s2.heap.push { cls := .type "dict", data := .dict #[] } } := ⟨_, rfl⟩
  obtain ⟨H3, hH3⟩ : ∃ H3, H3 = upd H2 D o := ⟨_, rfl⟩
  have I3 : Inv X pins σ H3 s3 := by
    rw [hs3, hH3]
    exact I2.laid (t' := s2.toks) (fun b o e => Heap.get?_push_of_some _ e) (Nat.le_of_eq hD.symm) (by rw [hD]; exact no.ok s2.heap I2.big)
  have kept3 : ∀ b o, s2.heap.get? b = some o → s3.heap.get? b = some o := fun b o e => by rw [hs3]; exact Heap.get?_push_of_some _ e
  have f3 : ∀ b ∈ fp, FpOk X pins H3 b ∧ b < s3.heap.objs.size := fun b hb => by
    have lt := low b hb
    refine ⟨⟨?_, (f2 b hb).2⟩, by rw [hs3]; show b < (s2.heap.push _).objs.size; rw [Heap.size_push]; exact Nat.lt_succ_of_lt lt⟩
    rw [hH3, upd_ne (by rw [hD]; exact Nat.ne_of_lt lt)]
    exact (f2 b hb).1
  have st3 : tn 0 s3.heap := T.keep _ _ _ st2 fun b _ o e => kept3 b o e
  rw [← hH3] at w0
  -- the block's own context
  have IB := block_start I3 ok hN f3
  rw [show ({ s2 with heap := s2.heap.push { cls := .type "dict", data := .dict #[] } } : Shared) = s3 from hs3.symm]
  generalize hcl : cellsFrom (s3.heap.objs.size + 1) scope.names (cloFrom X.env.cells scope.names []) = cl at IB
  have rg := hg s3 H3 s3.heap.objs.size cl fp
  have rt := ht s3 H3 s3.heap.objs.size cl fp
  have rk := hk s3 H3 s3.heap.objs.size cl fp
  have rv := hv s3 H3 s3.heap.objs.size cl fp
  show codeAny _ _ (.compStart (.DictComp kx vx [⟨tg, iter, ifs, 0⟩] scope pos) 0 (.ref it) (.ref D) (compEnvC scope cl s3.heap.objs.size X.env)) (compPost (model X.prog X.w) X.A X.xe use Qf (.ref D) s3.heap.objs.size) { s3 with heap := pushCells (s3.heap.push { cls := .type "dict", data := .dict #[] }) scope.names }
  generalize hce : compEnvC scope cl s3.heap.objs.size X.env = ce at IB rg rt rk rv ⊢
  have hloc : ce.locals = s3.heap.objs.size := by rw [← hce]; rfl
  obtain ⟨s4, hs4⟩ : ∃ s4 : Shared, s4 = { s3 with heap := pushCells (s3.heap.push { cls := .type "dict", data := .dict #[] }) scope.names } := ⟨_, rfl⟩
  rw [← hs4] at IB ⊢
  have st4 : tn 0 s4.heap := T.keep _ _ _ st3 fun b _ o e => by rw [hs4]; exact pushCells_keeps _ _ _ _ (Heap.get?_push_of_some _ e)
  -- what the turns keep
  let Bl := X.blk s3 H3 scope ce fp
  let Kept : Nat → Shared → Prop := fun n s' => ∃ i H', Inv Bl [] (wipe σ (own.map (·.2))) H' s' ∧ tn i s'.heap ∧ (∀ b ∈ fp, H' b = none) ∧ W i n H'
  have k0 : Kept m0 s4 := ⟨0, H3, IB, st4, fun b hb => (f3 b hb).1.1, w0⟩
  have src : ∀ {σ' : L2.St} {H' : Hp} {s' : Shared}, Inv Bl [] σ' H' s' → (∀ b ∈ fp, H' b = none) → ∀ b ∈ fp, FpOk Bl [] H' b := fun {σ' H' s'} I' hn b hb =>
    ⟨hn b hb, (I'.ok.exf b hb).1, I'.ok.exfs b hb, .inl hb, fun x c e => (I'.ok.exf b hb).2 x c e, fun p hp => by cases hp⟩
  have loop : codeAny (model X.prog X.w) X.A (.compLoop (.DictComp kx vx [⟨tg, iter, ifs, 0⟩] scope pos) 0 (.ref it) (.ref D) ce) (compPost (model X.prog X.w) X.A X.xe use Qf (.ref D) s3.heap.objs.size) s4 := by
    refine compLoop_anyD Kept ?_ m0 k0
    rintro n s5 ⟨i, H5, I5, st5, n5, w5⟩
    rcases turn i n H5 w5 with ⟨stop, qq⟩ | ⟨go, Nx, hNx, step⟩
    · -- the end: back in the def's context
      refine thnF (T.done Bl rfl rfl rfl hc i [] s5 _ H5 (fun _ _ => False) I5 (src I5 n5) st5 stop) fun r s6 ⟨hr, I6⟩ => ?_
      subst hr
      have I7 : Inv X pins σ H5 s6 := I3.call' (ch := fp) I6.os I6.base I6.hok I6.bare fun b hb =>
        let f := (f3 b hb).1
        ⟨f.2.2.2.1, f.2.1, f.2.2.2.2.1, f.2.2.2.2.2⟩
      have z : H5 ce.locals = none := I6.free
      obtain ⟨m, hn, _⟩ := I6.loc
      have hn : s6.heap.Ns ce.locals m := hn
      rw [hloc] at hn z
      exact hR D s3.heap.objs.size s6 m H5 I7 qq hn (I3.fpOk (Nat.le_refl _) z)
    · refine thnF (T.item Bl rfl rfl rfl hc i [] s5 _ H5 (fun _ _ => False) I5 (src I5 n5) st5 go) fun r s6 ⟨u, hr, h6⟩ => ?_
      subst hr
      refine thnF h6 fun _ s7 ⟨x, H7, I7, r7, y7, st7, n7⟩ => ?_
      refine thnF (rg.run _ s7 _ H7 x u _ (I7.pinned (src I7 n7) (T.obj _ _ st7)) r7 (step x H7 y7)) fun _ s8 ⟨σ8, H8, I8, w8, q8⟩ => ?_
      refine thnF (rt.run _ s8 σ8 H8 _ I8 q8) fun b s9 ⟨H9, I9, q9⟩ => ?_
      have len : (wipe σ (own.map (·.2))).length = σ8.length := by rw [← w8, wipe_length]
      have back : ∀ {s' : Shared} {H' : Hp}, Inv Bl ([] ++ pinsAt fp s7.heap) σ8 H' s' → Nx H' → ∃ m, m < n ∧ Kept m s' := fun {s' H'} I' nx => by
        have pin : ∀ b ∈ fp, ∀ o, s7.heap.get? b = some o → s'.heap.get? b = some o ∧ H' b = none := fun b hb o e =>
          let z := I'.pin (b, o) (List.mem_append_right _ (List.mem_append_right _ (mem_pinsAt hb e)))
          ⟨z.1, z.2.1⟩
        obtain ⟨m', lt, w'⟩ := hNx H' nx
        refine ⟨m', lt, i + 1, H', (I'.unpinned (pins := [])).weak len (fun j v e => ?_), T.keep _ _ _ st7 fun b hb o e => (pin b hb o e).1, fun b hb => ?_, w'⟩
        · rw [← w8] at e
          exact (wipe_some e).1
        · obtain ⟨_, e, _⟩ := T.obj _ _ st7 b hb
          exact (pin b hb _ e).2
      cases b with
      | false => exact back I9 q9
      | true =>
        refine thnF (rk.run _ s9 σ8 H9 _ I9 q9) fun z s10 ⟨yk, H10, I10, r10, q10⟩ => ?_
        refine thnF (rv.run _ s10 σ8 H10 _ I10 q10) fun z2 s11 ⟨yv, H11, I11, r11, H12, g, nx⟩ => ?_
        exact d_lay (X := Bl) hu I11 g r10 r11 fun s12 I12 => back I12 nx
  exact codeAny_compStart_dict loop (T.self X.A 0 _ _ _ st4 loop)
theorem pe_dcG {o : HO} {kx vx tg iter : Expr} {ifs : List Expr} {scope : Scope} {own : List (Str × Nat)} {pos : Pos} {wi : TI} {g : TG} {tt : TT} {tk tv : TE} (no : NewD o) (hu : X.A.units < cLine) (hc : X.calm = true) (hN : X.N.Nodup) (hi : PI X tg iter wi) (ok : BlkOk X.N X.env.scope scope own)
    (hg : ∀ (s : Shared) (H : Hp) (C : Addr) (cl : List (Str × Addr)) (fp : List Addr), PG (X.blk s H scope (compEnvC scope cl C X.env) fp) tg g) (ht : ∀ (s : Shared) (H : Hp) (C : Addr) (cl : List (Str × Addr)) (fp : List Addr), PTs (X.blk s H scope (compEnvC scope cl C X.env) fp) ifs tt)
    (hk : ∀ (s : Shared) (H : Hp) (C : Addr) (cl : List (Str × Addr)) (fp : List Addr), PE (X.blk s H scope (compEnvC scope cl C X.env) fp) kx tk)
    (hv : ∀ (s : Shared) (H : Hp) (C : Addr) (cl : List (Str × Addr)) (fp : List Addr), PE (X.blk s H scope (compEnvC scope cl C X.env) fp) vx tv) (hs : ∀ x, foldedSetIterable iter X.env x = pure x := by intro _; rfl) :
    PE X (.DictComp kx vx [⟨tg, iter, ifs, 0⟩] scope pos) (tDcG o wi g tt tk tv (own.map (·.2))) := by
  refine ⟨fun pins s σ H Q I h => ?_⟩
  rw [arm_eval_DictComp]
  refine dcG_core no hu hc hN I hi ok hg ht hk hv hs h fun D C s' m H' I' q hn f => ⟨m, hn, fun h'' sb => ?_⟩
  obtain ⟨f0, f1, _, f3, f4, f5⟩ := f
  exact ⟨.ref D, H', I'.turned (t' := s'.toks) (fun b o hb e => (sb.2 b hb).trans e) f0 f1 f3 f4 f5, rfl, q⟩
theorem sw_trueD {kx vx : Expr} {gs : List Comprehension} {scope : Scope} {pos py : Pos} {y : Str} {l : Nat} {env : Env} (hk : env.scope.kind = .function) (hy : env.scope.names.lookup y = some .local) (hl : (py.line == pos.line) = true)
    (ha : (scope.names.any fun (n, k) => n == y && (k == .local || k == .cell)) = false) : swapsWith (.DictComp kx vx gs scope pos) (some (.Name y py)) l env = pure true := by
  have ky : env.kindOf y = some .local := hy
  have hb : env.blockKind = .function := by unfold Env.blockKind; rw [hk]; rfl
  unfold swapsWith
  simp only [hb, ky, ha, Expr.pos, hl]
  rfl
/-- name = {..} on one line, the name a local -/
theorem ps_setDc {o : HO} {i : Nat} {y : Str} {py : Pos} {kx vx tg iter : Expr} {ifs : List Expr} {scope : Scope} {own : List (Str × Nat)} {pos spos : Pos} {wi : TI} {g : TG} {tt : TT} {tk tv : TE} (no : NewD o) (hu : X.A.units < cLine) (hc : X.calm = true) (hN : X.N.Nodup) (hy : X.N[i]? = some y) (hyl : X.env.scope.names.lookup y = some .local)
    (hsw : swapsWith (.DictComp kx vx [⟨tg, iter, ifs, 0⟩] scope pos) (some (.Name y py)) spos.line X.env = pure true) (hi : PI X tg iter wi) (ok : BlkOk X.N X.env.scope scope own)
    (hg : ∀ (s : Shared) (H : Hp) (C : Addr) (cl : List (Str × Addr)) (fp : List Addr), PG (X.blk s H scope (compEnvC scope cl C X.env) fp) tg g) (ht : ∀ (s : Shared) (H : Hp) (C : Addr) (cl : List (Str × Addr)) (fp : List Addr), PTs (X.blk s H scope (compEnvC scope cl C X.env) fp) ifs tt)
    (hk : ∀ (s : Shared) (H : Hp) (C : Addr) (cl : List (Str × Addr)) (fp : List Addr), PE (X.blk s H scope (compEnvC scope cl C X.env) fp) kx tk)
    (hv : ∀ (s : Shared) (H : Hp) (C : Addr) (cl : List (Str × Addr)) (fp : List Addr), PE (X.blk s H scope (compEnvC scope cl C X.env) fp) vx tv) (hs : ∀ x, foldedSetIterable iter X.env x = pure x := by intro _; rfl) :
    PS X (.Assign [.Name y py] (.DictComp kx vx [⟨tg, iter, ifs, 0⟩] scope pos) spos) (tAsg (tDcG o wi g tt tk tv (own.map (·.2))) (gName i)) := by
  refine ⟨fun pins s σ H D I h => ?_⟩
  rw [exec_Assign_Name_used _ _ _ _ hsw]
  have h : tDcG o wi g tt tk tv (own.map (·.2)) σ H (fun x H1 => gName i x σ H1 D.nx) := h
  refine wpAny_bind (wpAny_standAt (wpAny_bind ?_))
  show wpAny _ X.A (do let _ ← comprehension (.DictComp kx vx [⟨tg, iter, ifs, 0⟩] scope pos) scope X.env (firstIterPos [⟨tg, iter, ifs, 0⟩] pos) newDict false (eval iter X.env) (some (assign (.Name y py) X.env))) _ _ s
  refine wpAny_bind (thn (dcG_core (Qf := fun _ s' => SP X pins D .next s') no hu hc hN I hi ok hg ht hk hv hs h fun L C s' m H' I' q hn f => ?_) fun _ s' hq => wpAny_pure (wpAny_pure hq))
  obtain ⟨a0, a1, _, a3, a4, a5⟩ := f
  show wpAny _ _ (assign (.Name y py) X.env (.ref L)) _ _ _
  refine wpAny_assign_Name (store_ok2 (v := V.ref L) I' hN hy (.inl hyl) rfl (fun s2 I2 ⟨a, sb, ha⟩ => ?_) (.inr hyl))
  have off : C ≠ a := ha.elim (fun z => by rw [z]; exact a1) fun z e => a4 y a z e.symm
  exact ⟨m, hn.sameBut sb off, fun h3 sb3 => ⟨_, H', I2.turned (t' := s2.toks) (fun b o hb e => (sb3.2 b hb).trans e) a0 a1 a3 a4 a5, q⟩⟩
end
/-! ### sorted(d), the keys of d pairs of ints, any number of them -/
section
variable {X : Cx}
theorem row_of {acc : Array Value} {ks : List (List Key × Addr × Value)} (hl : acc.size = ks.length) (h : ∀ (j : Nat) (v : Value), acc[j]? = some v → ∃ x, ks[j]? = some x ∧ v = Value.ref x.2.1) : acc.toList = (ks.map fun x => x.2.1).map Value.ref := by
  refine List.ext_getElem? fun j => ?_
  rw [List.map_map, List.getElem?_map]
  rcases Nat.lt_or_ge j ks.length with lt | ge
  · have e : acc.toList[j]? = some (acc.toList[j]'(by rw [Array.length_toList]; omega)) := List.getElem?_eq_getElem _
    obtain ⟨x, hx, hv⟩ := h j _ (by rw [← Array.getElem?_toList]; exact e)
    rw [e, hx, hv]
    rfl
  · rw [List.getElem?_eq_none (by rw [Array.length_toList]; omega), List.getElem?_eq_none ge]
    rfl
def rSortDT : List V → Hp → VK → Prop := fun vs H Q => ∃ (a : Addr) (kvs : List (List Key × V)), vs = [V.ref a] ∧ H a = some (.dT kvs) ∧ (∀ p ∈ kvs, ∃ i j : Int, p.1 = [Sum.inl i, Sum.inl j]) ∧
  ∀ bs out p, IsKeys H kvs bs → SrtO.Srtd (ltP (kOf H)) out → out.Perm (bs.map V.ref) → H p = none → Q (.ref p) (upd H p (.lst out))
theorem pair_at {H : Hp} {kvs : List (List Key × V)} {bs : List Addr} (h : IsKeys H kvs bs) (hp : ∀ p ∈ kvs, ∃ i j : Int, p.1 = [Sum.inl i, Sum.inl j]) : ∀ b ∈ bs, H b = some (.tup [.int (kOf H (.ref b)).1, .int (kOf H (.ref b)).2]) := by
  unfold IsKeys at h
  induction h with
  | nil => intro b hb; cases hb
  | cons h1 _ ih =>
    intro b hb
    rcases List.mem_cons.mp hb with rfl | hb
    · obtain ⟨i, j, e⟩ := hp _ List.mem_cons_self
      rw [e] at h1
      have h1 : H b = some (.tup [.int i, .int j]) := h1
      rw [kOf_at h1]
      exact h1
    · exact ih (fun p m => hp p (List.mem_cons_of_mem _ m)) b hb
theorem cr_sortedDT (hc : X.calm = true) : CallR X (.builtin "sorted") rSortDT := by
  intro pins s σ H xs us Q I r h
  obtain ⟨a, kvs, rfl, hd, hp, q⟩ := h
  obtain ⟨u, rfl, rx⟩ := r.one
  cases rx
  obtain ⟨z, hs, ks, pr, o, es, ep, ho, hx, hdt, he, hn⟩ := (show ObjOk X.prog X.w H s.heap a (.dT kvs) from I.hok a _ hd)
  have l1 : es.size = ks.length := size_of_entries he
  have l2 : kvs.length = ks.length := Paired.length pr
  have hk := isKeys_of pr
  refine Calls.call_function_entry PyProof.Rows.kind_sorted PyProof.Rows.plain_sorted PyProof.Rows.entry_sorted (PyProof.Rows.args_sorted1 _) ?_
  unfold Builtin.«sorted»
  refine wpAny_bind (m := checkCount "sorted" 1 1 _) (wpAny_pure ?_)
  refine wpAny_bind (PySem.W.kdu_collect (A := X.A.in1) (kdl_raw hs hx hdt) (I.ok.hd hc) ho (by omega) fun h' tk acc kp it => ?_)
  have ea := row_of (by rw [it.1]; exact l1) fun j v hj => by
    obtain ⟨en, hen, hv⟩ := it.2 j v hj
    have qe := entry_at he j
    rw [hen] at qe
    cases hb : ks[j]? with
    | none => rw [hb] at qe; cases qe
    | some x =>
      rw [hb] at qe
      refine ⟨x, rfl, ?_⟩
      rw [hv, show en = entryOfKey (tupleKind (mixKind X.prog X.w)) x from Option.some.inj qe]
      rfl
  generalize hbs : (ks.map fun x => x.2.1) = bs at ea hk
  have lb : bs.length = ks.length := by rw [← hbs, List.length_map]
  have I1 : Inv X pins σ H { s with heap := h', toks := tk } := I.kept kp
  have al : acc.toList.length ≤ sizeLine := by rw [ea, List.length_map]; omega
  refine wpAny_bind (wpAny_newList ?_ al)
  have hoL : (h'.push (seqObj "list" acc.toList.toArray 0)).get? h'.objs.size = some (seqObj "list" acc.toList.toArray 0) := Heap.get?_push_size _ rfl
  show wpAny _ _ _ _ _ { s with heap := h'.push (seqObj "list" acc.toList.toArray 0), toks := tk }
  have hpr : ∀ v ∈ acc.toList, Srt.IsPair (h'.push (seqObj "list" acc.toList.toArray 0)) v (kOf H (backV v)).1 (kOf H (backV v)).2 := fun v hv => by
    rw [ea] at hv
    obtain ⟨b, hb, rfl⟩ := List.mem_map.mp hv
    obtain ⟨_, its2, r2, o2, g1, g2, n2, g3⟩ := I1.hok _ _ (pair_at hk hp b hb)
    obtain ⟨u1, u2, rfl, ⟨t1, rfl⟩, ⟨t2, rfl⟩⟩ := vals2 r2
    exact ⟨b, o2, t1, t2, n2, rfl, Heap.get?_push_of_some _ g1, g2, g3⟩
  refine wpAny_bind (wpAny_holding (wpAny_call_entry PyProof.Rows.slot_list_sort ⟨_, hoL, rfl⟩ PyProof.Rows.entry_list_sort
    (SrtO.list_sort_ord (SrtO.swo_lex fun v => kOf H (backV v)) hoL al (fun h2 => SrtO.pairs_sortableO (s := { s with heap := h'.push (seqObj "list" acc.toList.toArray 0), toks := tk }) (by omega) hpr fun o e => ?_) fun out hso hst => ⟨_, rfl, ?_⟩) (PyProof.Rows.args_list_sort _)))
  · have e' : some o = some (seqObj "list" acc.toList.toArray 0) := e.symm.trans hoL
    cases e'
    intro c
    exact absurd (Value.type.inj c) (by decide)
  obtain ⟨e', he'⟩ := PyProof.Rows.sortedHeap_at (vs := acc.toList) (out := out.toArray) hoL
  have pm : out.Perm (bs.map Value.ref) := by rw [← ea]; exact hst.perm
  have ho3 : ∀ u ∈ out, ∃ a, u = Value.ref a := fun u hu => by
    obtain ⟨b, _, e⟩ := List.mem_map.mp (pm.mem_iff.mp hu)
    exact ⟨b, e.symm⟩
  have hlen : (out.map backV).length ≤ sizeLine := by rw [List.length_map, pm.length_eq, List.length_map]; omega
  refine wpAny_pure ⟨_, rfl, .ref h'.objs.size, upd H h'.objs.size (.lst (out.map backV)), I1.laid (t' := tk) (fun b u e => ?_) (Nat.le_refl _) ⟨hlen, out, _, vals_back ho3, he'⟩, rfl, q bs (out.map backV) _ hk (SrtO.srtd_map hso) ?_ (I1.hok.fresh (Nat.le_refl _))⟩
  · rw [PyProof.Rows.sortedHeap_old (Nat.ne_of_lt (Heap.lt_size e)) (by rw [Heap.size_push]; exact Nat.lt_succ_of_lt (Heap.lt_size e))]
    exact Heap.get?_push_of_some _ e
  · have := pm.map backV
    rw [List.map_map] at this
    exact this
end
def rListDT : List V → Hp → VK → Prop := fun xs H Q => ∃ d kvs, xs = [V.ref d] ∧ Rd H d (.dT kvs) ∧ ∀ p bs, H p = none → IsKeys H kvs bs → Q (.ref p) (upd H p (.lst (bs.map V.ref)))
theorem call_listDT {X : Cx} (hc : X.calm = true) : CallR X (.type "list") rListDT := call_list_dT hc
/-- a dict comprehension over what a Walk tells: Pv by the turn and the heap -/
theorem dg_it {J : It} {n : Nat} {G : Hp → Prop} {Y : Nat → Hp → V → Hp → Prop} (w : Walk J n G Y) {g : TG} {tt : TT} {tk tv : TE} {vs : List Nat} {σ : L2.St} {H1 : Hp} {D : Addr} {o : HO} {Qd : Hp → Prop} (Pv : Nat → Hp → Prop) (h0 : Pv 0 (upd H1 D o)) (hG : ∀ i H, i ≤ n → Pv i H → G H)
    (hs : ∀ i x H H', i < n → Pv i H → Y i H x H' → DcTurn g tt tk tv vs σ D (Pv (i + 1)) x H') (hd : ∀ H, Pv n H → Qd H) :
    ∃ W : Nat → Nat → Hp → Prop, (∃ m, W 0 m (upd H1 D o)) ∧ ∀ i m H, W i m H →
      (J.stop i H ∧ Qd H) ∨ (J.go i H ∧ ∃ Nx : Hp → Prop, (∀ H', Nx H' → ∃ m', m' < m ∧ W (i + 1) m' H') ∧ ∀ x H', J.yld i H x H' → DcTurn g tt tk tv vs σ D Nx x H') := by
  refine ⟨fun i m H => m + i = n ∧ Pv i H, ⟨n, rfl, h0⟩, fun i m H ⟨e, p⟩ => ?_⟩
  have q := hG i H (by omega) p
  rcases Nat.eq_zero_or_pos m with z | z
  · obtain rfl : i = n := by omega
    exact .inl ⟨w.stops H q, hd H p⟩
  · exact .inr ⟨w.goes i H (by omega) q, Pv (i + 1), fun H' p' => ⟨m - 1, by omega, by omega, p'⟩, fun x H' y => hs i x H H' (by omega) p (w.yields i H x H' (by omega) q y)⟩
end Fw
namespace Fw
open L2
open PySem PySem.Spec PyProof.Rows
section
variable {κ : Type} [DecidableEq κ]
def HasK (kvs : List (κ × V)) (k : κ) : Prop := k ∈ kvs.map (·.1)
theorem hasK_val {kvs : List (κ × V)} {k : κ} : (valV kvs k).isSome = true ↔ HasK kvs k := by
  rw [← valV_any]
  unfold HasK
  simp only [List.any_eq_true, decide_eq_true_eq, List.mem_map]
theorem hasK_drop {kvs : List (κ × V)} {k j : κ} : HasK (dropK kvs k) j ↔ j ≠ k ∧ HasK kvs j := by
  unfold HasK dropK
  simp only [List.mem_map, List.mem_filter, decide_eq_true_eq]
  constructor
  · rintro ⟨p, ⟨h1, h2⟩, rfl⟩
    exact ⟨h2, p, h1, rfl⟩
  · rintro ⟨h, p, h1, rfl⟩
    exact ⟨p, ⟨h1, h⟩, rfl⟩
theorem hasK_put {kvs : List (κ × V)} {k j : κ} {v : V} : HasK (putK kvs k v) j ↔ j = k ∨ HasK kvs j := by
  rw [← hasK_val, ← hasK_val, valV_put]
  by_cases h : j = k
  · simp [h]
  · simp [h]
theorem drop_lt {kvs : List (κ × V)} {k : κ} (h : HasK kvs k) : (dropK kvs k).length < kvs.length := by
  obtain ⟨p, hp, rfl⟩ := List.mem_map.mp h
  unfold dropK
  rw [List.length_filter_lt_length_iff_exists]
  exact ⟨p, hp, by simp⟩
theorem nodup_drop {kvs : List (κ × V)} {k : κ} (h : (kvs.map (·.1)).Nodup) : ((dropK kvs k).map (·.1)).Nodup := h.sublist ((List.filter_sublist (l := kvs)).map _)
theorem nodup_put {kvs : List (κ × V)} {k : κ} {v : V} (h : (kvs.map (·.1)).Nodup) : ((putK kvs k v).map (·.1)).Nodup := by
  by_cases e : HasK kvs k
  · have e' := hasK_val.mpr e
    rw [← valV_any] at e'
    unfold putK
    rw [if_pos e', List.map_map]
    rw [show (kvs.map ((fun x : κ × V => x.1) ∘ fun kv => if kv.1 = k then (kv.1, v) else kv)) = kvs.map (·.1) from List.map_congr_left fun p _ => by simp only [Function.comp]; split <;> rfl]
    exact h
  · have e' : valV kvs k = none := by
      cases z : valV kvs k with
      | none => rfl
      | some x => exact absurd (hasK_val.mp (by rw [z]; rfl)) e
    rw [putK_new v e', List.map_append]
    refine List.nodup_append.mpr ⟨h, by simp, fun a ha b hb => ?_⟩
    rw [show b = k by simpa using hb]
    exact fun z => e (by rw [← z]; exact ha)
end
/-- a family's key -/
abbrev fk (f : Int) (e : Nat) : List Key := [Sum.inl f, Sum.inl (e : Int)]
theorem fk_inj {f g : Int} {e d : Nat} (h : fk f e = fk g d) : f = g ∧ e = d := by
  injection h with a b
  injection b with b _
  injection a with a
  injection b with b
  exact ⟨a, by omega⟩
abbrev Fam := Int → Nat → Prop
/-- two halves of one family are put together -/
def mstep (S : Fam) (f : Int) (k : Nat) : Fam := fun g e => (g = f ∧ e + 1 = k) ∨ (S g e ∧ ¬ (e = k ∧ (g = f ∨ g = f + 2 ^ (k - 1))))
/-- T is S with halves put together, one pair after another -/
inductive Mg (bits : Nat) (S : Fam) : Fam → Prop
  | refl : Mg bits S S
  | step {T : Fam} {f : Int} {k : Nat} : Mg bits S T → 1 ≤ k → k ≤ bits → f < 2 ^ (k - 1) → T f k → T (f + 2 ^ (k - 1)) k → Mg bits S (mstep T f k)
/-- no two halves of level k are left -/
def Irr (S : Fam) (k : Nat) : Prop := ∀ f : Int, f < 2 ^ (k - 1) → ¬ (S f k ∧ S (f + 2 ^ (k - 1)) k)
/-- the families of a dict -/
def famD (kvs : List (List Key × V)) : Fam := fun f e => HasK kvs (fk f e)
theorem famD_step {kvs : List (List Key × V)} {f : Int} {k : Nat} {v : V} (hk : 1 ≤ k) : famD (putK (dropK (dropK kvs (fk f k)) (fk (f + 2 ^ (k - 1)) k)) (fk f (k - 1)) v) = mstep (famD kvs) f k := by
  funext g e
  refine propext ?_
  unfold famD mstep
  rw [hasK_put, hasK_drop, hasK_drop]
  constructor
  · rintro (h | ⟨h1, h2, h3⟩)
    · obtain ⟨rfl, rfl⟩ := fk_inj h
      exact .inl ⟨rfl, by omega⟩
    · refine .inr ⟨h3, ?_⟩
      rintro ⟨rfl, rfl | rfl⟩
      · exact h2 rfl
      · exact h1 rfl
  · rintro (⟨rfl, h⟩ | ⟨h1, h2⟩)
    · exact .inl (by rw [show e = k - 1 by omega])
    · refine .inr ⟨fun z => ?_, fun z => ?_, h1⟩
      · obtain ⟨a, b⟩ := fk_inj z
        exact h2 ⟨b, .inr a⟩
      · obtain ⟨a, b⟩ := fk_inj z
        exact h2 ⟨b, .inl a⟩
/-- a dict of families, at most so many -/
structure DictF (kvs : List (List Key × V)) (n : Nat) : Prop where
  len : kvs.length ≤ n
  nd : (kvs.map (·.1)).Nodup
  sh : ∀ x ∈ kvs, ∃ (f : Int) (e : Nat), x.1 = fk f e ∧ 0 ≤ f
theorem DictF.put {kvs : List (List Key × V)} {n : Nat} {f : Int} {e : Nat} {v : V} (d : DictF kvs n) (f0 : 0 ≤ f) : DictF (putK kvs (fk f e) v) (n + 1) where
  len := Nat.le_trans (length_putK _ _ _) (Nat.succ_le_succ d.len)
  nd := nodup_put d.nd
  sh := fun x hx => by
    have : HasK (putK kvs (fk f e) v) x.1 := List.mem_map.mpr ⟨x, hx, rfl⟩
    rcases hasK_put.mp this with h | h
    · exact ⟨f, e, h, f0⟩
    · obtain ⟨y, hy, e1⟩ := List.mem_map.mp h
      rw [← e1]
      exact d.sh y hy
theorem DictF.drop {kvs : List (List Key × V)} {n : Nat} {k : List Key} (d : DictF kvs n) (h : HasK kvs k) : DictF (dropK kvs k) (n - 1) where
  len := by
    have := drop_lt h
    have := d.len
    omega
  nd := nodup_drop d.nd
  sh := fun x hx => d.sh x (List.mem_filter.mp hx).1
theorem DictF.mono {kvs : List (List Key × V)} {n m : Nat} (d : DictF kvs n) (h : n ≤ m) : DictF kvs m := ⟨Nat.le_trans d.len h, d.nd, d.sh⟩
/-- level k, the first j keys of its row seen -/
structure Lev (S0 : Fam) (bits k : Nat) (kv0 kvs : List (List Key × V)) (n j : Nat) : Prop where
  df : DictF kvs n
  mg : Mg bits S0 (famD kvs)
  up : ∀ k', k < k' → k' ≤ bits → Irr (famD kvs) k'
  A : ∀ (j' : Nat) (f : Int) x, j ≤ j' → kv0[j']? = some x → x.1 = fk f k → f < 2 ^ (k - 1) → famD kvs f k
  B : ∀ (j' : Nat) (f : Int) x, j' < j → kv0[j']? = some x → x.1 = fk f k → f < 2 ^ (k - 1) → ¬ (famD kvs f k ∧ famD kvs (f + 2 ^ (k - 1)) k)
  C : ∀ g, famD kvs g k → HasK kv0 (fk g k)
section
variable {S0 : Fam} {bits k : Nat} {kv0 kvs : List (List Key × V)} {n j : Nat}
theorem Lev.start (df : DictF kvs n) (mg : Mg bits S0 (famD kvs)) (up : ∀ k', k < k' → k' ≤ bits → Irr (famD kvs) k') : Lev S0 bits k kvs kvs n 0 :=
  ⟨df, mg, up, fun j' f x _ h e _ => List.mem_map.mpr ⟨x, List.mem_of_getElem? h, e⟩, fun _ _ _ h => absurd h (Nat.not_lt_zero _), fun _ h => h⟩
theorem Lev.skip (l : Lev S0 bits k kv0 kvs n j) {x : List Key × V} {f : Int} {e : Nat} (hx : kv0[j]? = some x) (he : x.1 = fk f e) (no : ¬ (e = k ∧ f < 2 ^ (k - 1) ∧ famD kvs (f + 2 ^ (k - 1)) k)) : Lev S0 bits k kv0 kvs n (j + 1) :=
  ⟨l.df, l.mg, l.up, fun j' g y hj => l.A j' g y (by omega), fun j' g y hj hy ey lt both => by
    by_cases z : j' = j
    · subst z
      rw [hx] at hy
      obtain rfl := Option.some.inj hy
      obtain ⟨rfl, rfl⟩ := fk_inj (he.symm.trans ey)
      exact no ⟨rfl, lt, both.2⟩
    · exact l.B j' g y (by omega) hy ey lt both, l.C⟩
theorem Lev.finish (l : Lev S0 bits k kv0 kvs n kv0.length) : Irr (famD kvs) k := fun f lt both => by
  obtain ⟨x, hx, e⟩ := List.mem_map.mp (l.C f both.1)
  obtain ⟨j', hj⟩ := List.getElem?_of_mem hx
  exact l.B j' f x (List.getElem?_eq_some_iff.mp hj).1 hj e lt both
theorem Lev.merge (l : Lev S0 bits k kv0 kvs n j) (nd : (kv0.map (·.1)).Nodup) (pos : ∀ x ∈ kv0, ∃ (f : Int) (e : Nat), x.1 = fk f e ∧ 0 ≤ f) {x : List Key × V} {f : Int} (hx : kv0[j]? = some x) (he : x.1 = fk f k) (f0 : 0 ≤ f) (lt : f < 2 ^ (k - 1)) (hb : famD kvs (f + 2 ^ (k - 1)) k) (k1 : 1 ≤ k) (k2 : k ≤ bits) (v : V) :
    Lev S0 bits k kv0 (putK (dropK (dropK kvs (fk f k)) (fk (f + 2 ^ (k - 1)) k)) (fk f (k - 1)) v) n (j + 1) := by
  have ha : famD kvs f k := l.A j f x (Nat.le_refl _) hx he lt
  have p2 : (0 : Int) < 2 ^ (k - 1) := Int.pow_pos (by decide)
  have hb' : HasK (dropK kvs (fk f k)) (fk (f + 2 ^ (k - 1)) k) := hasK_drop.mpr ⟨fun z => by have := (fk_inj z).1; omega, hb⟩
  have lev : ∀ g e, k ≤ e → mstep (famD kvs) f k g e → famD kvs g e := fun g e h m => by
    rcases m with ⟨_, h1⟩ | ⟨h1, _⟩
    · omega
    · exact h1
  refine ⟨?_, ?_, ?_, ?_, ?_, ?_⟩
  · have d1 := (l.df.drop ha).drop hb'
    have n2 : 2 ≤ n := by
      have := l.df.len
      have := drop_lt ha
      have := drop_lt hb'
      omega
    exact (d1.put f0).mono (by omega)
  · rw [famD_step k1]
    exact .step l.mg k1 k2 lt ha hb
  · intro k' h1 h2 g lt' both
    rw [famD_step k1] at both
    exact l.up k' h1 h2 g lt' ⟨lev _ _ (by omega) both.1, lev _ _ (by omega) both.2⟩
  · intro j' g y hj hy ey lt'
    rw [famD_step k1]
    refine .inr ⟨l.A j' g y (by omega) hy ey lt', ?_⟩
    rintro ⟨_, rfl | rfl⟩
    · have e1 : (kv0.map (·.1))[j]? = (kv0.map (·.1))[j']? := by rw [List.getElem?_map, List.getElem?_map, hx, hy]; show some x.1 = some y.1; rw [he, ey]
      have := (List.getElem?_inj (by rw [List.length_map]; exact (List.getElem?_eq_some_iff.mp hx).1) nd).mp e1
      omega
    · omega
  · intro j' g y hj hy ey lt' both
    rw [famD_step k1] at both
    by_cases z : j' = j
    · subst z
      rw [hx] at hy
      obtain rfl := Option.some.inj hy
      obtain ⟨rfl, _⟩ := fk_inj (he.symm.trans ey)
      rcases both.1 with ⟨_, h⟩ | ⟨_, h⟩
      · omega
      · exact h ⟨rfl, .inl rfl⟩
    · exact l.B j' g y (by omega) hy ey lt' ⟨lev _ _ (Nat.le_refl _) both.1, lev _ _ (Nat.le_refl _) both.2⟩
  · intro g h
    rw [famD_step k1] at h
    exact l.C g (lev _ _ (Nat.le_refl _) h)
end
/-! ### what putting together keeps -/
/-- x is of one of the families -/
def Cover (S : Fam) (x : Int) : Prop := ∃ f e, S f e ∧ (2 : Int) ^ e ∣ x - f
theorem halves {k : Nat} (h : 1 ≤ k) (x f : Int) : (2 : Int) ^ (k - 1) ∣ x - f ↔ (2 : Int) ^ k ∣ x - f ∨ (2 : Int) ^ k ∣ x - (f + 2 ^ (k - 1)) := by
  have e : (2 : Int) ^ k = 2 ^ (k - 1) * 2 := by
    rw [← Int.pow_succ, show (k - 1).succ = k by omega]
  constructor
  · rintro ⟨c, hc⟩
    rcases Int.emod_two_eq c with z | z
    · refine .inl ⟨c / 2, ?_⟩
      rw [hc, e, Int.mul_assoc]
      congr 1
      omega
    · refine .inr ⟨c / 2, ?_⟩
      rw [show x - (f + 2 ^ (k - 1)) = (x - f) - 2 ^ (k - 1) by omega, hc, e, Int.mul_assoc]
      have : c = 2 * (c / 2) + 1 := by omega
      rw [show (2 : Int) ^ (k - 1) * c - 2 ^ (k - 1) = 2 ^ (k - 1) * (c - 1) by rw [Int.mul_sub, Int.mul_one]]
      congr 1
      omega
  · rintro (⟨c, hc⟩ | ⟨c, hc⟩)
    · exact ⟨2 * c, by rw [hc, e, Int.mul_assoc]⟩
    · refine ⟨2 * c + 1, ?_⟩
      rw [show x - f = (x - (f + 2 ^ (k - 1))) + 2 ^ (k - 1) by omega, hc, e, Int.mul_add, Int.mul_one, Int.mul_assoc]
theorem Mg.cover {bits : Nat} {S T : Fam} (m : Mg bits S T) (x : Int) : Cover T x ↔ Cover S x := by
  induction m with
  | refl => exact Iff.rfl
  | @step T f k _ k1 _ _ ha hb ih =>
    rw [← ih]
    constructor
    · rintro ⟨g, e, (⟨rfl, h⟩ | ⟨h, _⟩), d⟩
      · obtain rfl : e = k - 1 := by omega
        rcases (halves k1 x g).mp d with d | d
        · exact ⟨g, k, ha, d⟩
        · exact ⟨_, k, hb, d⟩
      · exact ⟨g, e, h, d⟩
    · rintro ⟨g, e, h, d⟩
      by_cases z : e = k ∧ (g = f ∨ g = f + 2 ^ (k - 1))
      · obtain ⟨rfl, z⟩ := z
        refine ⟨f, e - 1, .inl ⟨rfl, by omega⟩, (halves k1 x f).mpr ?_⟩
        rcases z with rfl | rfl
        · exact .inl d
        · exact .inr d
      · exact ⟨g, e, .inr ⟨h, z⟩, d⟩
/-- families that share no x -/
def Apart (S : Fam) : Prop := ∀ f e g d x, S f e → S g d → (2 : Int) ^ e ∣ x - f → (2 : Int) ^ d ∣ x - g → f = g ∧ e = d
theorem Mg.apart {bits : Nat} {S T : Fam} (m : Mg bits S T) (a : Apart S) : Apart T := by
  induction m with
  | refl => exact a
  | @step T f k _ k1 _ _ ha hb ih =>
    have one : ∀ g d x, T g d → ¬ (d = k ∧ (g = f ∨ g = f + 2 ^ (k - 1))) → (2 : Int) ^ (k - 1) ∣ x - f → (2 : Int) ^ d ∣ x - g → False := fun g d x h n d1 d2 => by
      rcases (halves k1 x f).mp d1 with z | z
      · obtain ⟨rfl, rfl⟩ := ih _ _ _ _ x ha h z d2
        exact n ⟨rfl, .inl rfl⟩
      · obtain ⟨rfl, rfl⟩ := ih _ _ _ _ x hb h z d2
        exact n ⟨rfl, .inr rfl⟩
    rintro g d h e x (⟨rfl, h1⟩ | ⟨h1, n1⟩) (⟨rfl, h2⟩ | ⟨h2, n2⟩) d1 d2
    · exact ⟨rfl, by omega⟩
    · obtain rfl : d = k - 1 := by omega
      exact (one h e x h2 n2 d1 d2).elim
    · obtain rfl : e = k - 1 := by omega
      exact (one g d x h1 n1 d2 d1).elim
    · exact ih _ _ _ _ x h1 h2 d1 d2
/-- each family's first value is below its step, its level at most bits -/
def WfF (bits : Nat) (S : Fam) : Prop := ∀ f e, S f e → 0 ≤ f ∧ f < 2 ^ e ∧ e ≤ bits
theorem Mg.wf {bits : Nat} {S T : Fam} (m : Mg bits S T) (a : WfF bits S) : WfF bits T := by
  induction m with
  | refl => exact a
  | @step T f k _ k1 k2 lt ha hb ih =>
    rintro g e (⟨rfl, h⟩ | ⟨h, _⟩)
    · obtain rfl : e = k - 1 := by omega
      exact ⟨(ih _ _ ha).1, lt, by omega⟩
    · exact ih _ _ h
end Fw
namespace Fw
/-! ### steps x -> a * x + c, modulo a power of two -/
theorem gpos (w : Nat) : (0 : Int) < 2 ^ w := Int.pow_pos (by decide)
theorem g2S (w : Nat) : (2 : Int) ^ (w + 1) = 2 * 2 ^ w := by rw [Int.pow_succ, Int.mul_comm]
theorem gmd {S x y : Int} : x % S = y % S ↔ S ∣ x - y := by
  constructor
  · intro h
    exact Int.dvd_of_emod_eq_zero (Int.emod_eq_emod_iff_emod_sub_eq_zero.mp h)
  · intro h
    exact Int.emod_eq_emod_iff_emod_sub_eq_zero.mpr (Int.emod_eq_zero_of_dvd h)
theorem gpp {a b : Nat} (h : a ≤ b) : (2 : Int) ^ a ∣ 2 ^ b := ⟨2 ^ (b - a), by rw [← Int.pow_add]; congr 1; omega⟩
theorem gdv0 {S x : Int} : S ∣ x - x := by rw [Int.sub_self]; exact Int.dvd_zero _
theorem gdvS {S x y : Int} (h : S ∣ x - y) : S ∣ y - x := by
  rw [show y - x = -(x - y) by omega]; exact Int.dvd_neg.mpr h
theorem gdvT {S x y z : Int} (h : S ∣ x - y) (g : S ∣ y - z) : S ∣ x - z := by
  rw [show x - z = (x - y) + (y - z) by omega]; exact Int.dvd_add h g
/-- n steps -/
def gIt (a c : Int) : Nat → Int → Int
  | 0, x => x
  | n + 1, x => a * gIt a c n x + c
theorem gIt_one {a c x : Int} : gIt a c 1 x = a * x + c := rfl
theorem gIt_add (a c : Int) (m : Nat) : ∀ (n : Nat) (x : Int), gIt a c (m + n) x = gIt a c n (gIt a c m x)
  | 0, x => rfl
  | n + 1, x => by
    show a * gIt a c (m + n) x + c = a * gIt a c n (gIt a c m x) + c
    rw [gIt_add a c m n x]
theorem gIt_sub (a c : Int) : ∀ (n : Nat) (x y : Int), gIt a c n x - gIt a c n y = a ^ n * (x - y)
  | 0, x, y => by rw [Int.pow_zero, Int.one_mul]; rfl
  | n + 1, x, y => by
    show a * gIt a c n x + c - (a * gIt a c n y + c) = _
    rw [Int.pow_succ, Int.mul_comm (a ^ n) a, Int.mul_assoc, ← gIt_sub a c n x y, Int.mul_sub]; omega
theorem gIt_cong {S a a' c c' : Int} (ha : S ∣ a - a') (hc : S ∣ c - c') : ∀ (n : Nat) {x y : Int}, S ∣ x - y → S ∣ gIt a c n x - gIt a' c' n y
  | 0, x, y, h => h
  | n + 1, x, y, h => by
    have ih := gIt_cong ha hc n h
    show S ∣ a * gIt a c n x + c - (a' * gIt a' c' n y + c')
    have e : a * gIt a c n x + c - (a' * gIt a' c' n y + c') = a * (gIt a c n x - gIt a' c' n y) + (a - a') * gIt a' c' n y + (c - c') := by
      rw [Int.mul_sub, Int.sub_mul]; omega
    rw [e]
    exact Int.dvd_add (Int.dvd_add (Int.dvd_mul_of_dvd_right ih) (Int.dvd_mul_of_dvd_left ha)) hc
theorem gIt_congx {S a c : Int} (n : Nat) {x y : Int} (h : S ∣ x - y) : S ∣ gIt a c n x - gIt a c n y := gIt_cong gdv0 gdv0 n h
/-- (p, q) leads where n steps do -/
def gRep (S a c p q : Int) (n : Nat) : Prop := ∀ x, S ∣ p * x + q - gIt a c n x
theorem gRep_zero (S a c : Int) : gRep S a c 1 0 0 := fun x => by
  show S ∣ 1 * x + 0 - x
  rw [Int.one_mul, Int.add_zero]; exact gdv0
theorem gRep_one (S a c : Int) : gRep S a c a c 1 := fun x => gdv0
theorem gRep_onem (S a c : Int) : gRep S a c (a % S) (c % S) 1 := fun x => by
  have e1 : S ∣ a % S - a := Int.dvd_emod_sub_self
  have e2 : S ∣ c % S - c := Int.dvd_emod_sub_self
  show S ∣ a % S * x + c % S - (a * x + c)
  rw [show a % S * x + c % S - (a * x + c) = (a % S - a) * x + (c % S - c) by rw [Int.sub_mul]; omega]
  exact Int.dvd_add (Int.dvd_mul_of_dvd_left e1) e2
theorem gRep_comp {S a c p q p' q' : Int} {m n : Nat} (h1 : gRep S a c p q m) (h2 : gRep S a c p' q' n) : gRep S a c (p * p' % S) ((p' * q + q') % S) (m + n) := fun x => by
  have e1 : S ∣ p * p' % S - p * p' := Int.dvd_emod_sub_self
  have e2 : S ∣ (p' * q + q') % S - (p' * q + q') := Int.dvd_emod_sub_self
  have e3 := h2 (p * x + q)
  have e4 := gIt_congx (a := a) (c := c) n (h1 x)
  rw [gIt_add]
  have e : p * p' % S * x + (p' * q + q') % S - gIt a c n (gIt a c m x) = (p * p' % S - p * p') * x + ((p' * q + q') % S - (p' * q + q')) + (p' * (p * x + q) + q' - gIt a c n (p * x + q)) + (gIt a c n (p * x + q) - gIt a c n (gIt a c m x)) := by
    rw [Int.sub_mul, Int.mul_add, ← Int.mul_assoc, Int.mul_comm p' p]; omega
  rw [e]
  exact Int.dvd_add (Int.dvd_add (Int.dvd_add (Int.dvd_mul_of_dvd_left e1) e2) e3) e4
theorem gRep.mod {S a c p q : Int} {n : Nat} (h : gRep S a c p q n) (x : Int) : (p * x + q) % S = gIt a c n x % S := gmd.mpr (h x)
theorem gRep.it {S a c p q : Int} {n : Nat} (h : gRep S a c p q n) : ∀ (k : Nat) (x : Int), S ∣ gIt p q k x - gIt a c (n * k) x
  | 0, x => by rw [Nat.mul_zero]; exact gdv0
  | k + 1, x => by
    rw [Nat.mul_succ, gIt_add a c (n * k) n]
    show S ∣ p * gIt p q k x + q - _
    exact gdvT (h _) (gIt_congx n (h.it k x))
theorem god_pow {a : Int} (ha : a % 2 = 1) : ∀ n : Nat, a ^ n % 2 = 1
  | 0 => by rw [Int.pow_zero]; rfl
  | n + 1 => by rw [Int.pow_succ, Int.mul_emod, god_pow ha n, ha]; rfl
theorem gIt_full {a : Int} (ha : a % 2 = 1) (c : Int) : ∀ (w : Nat) (x : Int), (2 : Int) ^ w ∣ gIt a c (2 ^ w) x - x
  | 0, x => by rw [Int.pow_zero]; exact Int.one_dvd _
  | w + 1, x => by
    have ih := gIt_full ha c w x
    have e : gIt a c (2 ^ (w + 1)) x - x = (a ^ (2 ^ w) + 1) * (gIt a c (2 ^ w) x - x) := by
      rw [show 2 ^ (w + 1) = 2 ^ w + 2 ^ w by rw [Nat.pow_succ]; omega, gIt_add]
      have := gIt_sub a c (2 ^ w) (gIt a c (2 ^ w) x) x
      rw [Int.add_mul, Int.one_mul, ← this]; omega
    rw [e, g2S]
    have := god_pow ha (2 ^ w)
    exact Int.mul_dvd_mul (Int.dvd_of_emod_eq_zero (by omega)) ih
theorem gIt_fullm {a : Int} (ha : a % 2 = 1) (c : Int) (w : Nat) : ∀ (k : Nat) (x : Int), (2 : Int) ^ w ∣ gIt a c (2 ^ w * k) x - x
  | 0, x => gdv0
  | k + 1, x => by
    rw [Nat.mul_succ, gIt_add]
    exact gdvT (gIt_full ha c w _) (gIt_fullm ha c w k x)
theorem gIt_modn {a : Int} (ha : a % 2 = 1) (c : Int) (w : Nat) (m : Nat) (x : Int) : (2 : Int) ^ w ∣ gIt a c m x - gIt a c (m % 2 ^ w) x := by
  have e : m = 2 ^ w * (m / 2 ^ w) + m % 2 ^ w := (Nat.div_add_mod _ _).symm
  have h : gIt a c m x = gIt a c (m % 2 ^ w) (gIt a c (2 ^ w * (m / 2 ^ w)) x) := by
    rw [← gIt_add, ← e]
  rw [h]
  exact gIt_congx _ (gIt_fullm ha c w _ x)
theorem gnat_mod {w m n : Nat} (h : (2 : Int) ^ w ∣ (m : Int) - n) : m % 2 ^ w = n % 2 ^ w := by
  have e := gmd.mpr h
  have c : ((2 ^ w : Nat) : Int) = (2 : Int) ^ w := Int.natCast_pow 2 w
  rw [← c, ← Int.natCast_emod, ← Int.natCast_emod] at e
  exact Int.ofNat_inj.mp e
theorem gIt_modz {a : Int} (ha : a % 2 = 1) (c : Int) {w m n : Nat} (h : (2 : Int) ^ w ∣ (m : Int) - n) (x : Int) : (2 : Int) ^ w ∣ gIt a c m x - gIt a c n x := by
  have e := gnat_mod h
  have h1 := gIt_modn ha c w m x
  have h2 := gIt_modn ha c w n x
  rw [e] at h1
  exact gdvT h1 (gdvS h2)
theorem gpow_even {a : Int} (ha : a % 2 = 0) (w : Nat) : (2 : Int) ^ w ∣ a ^ w := by
  obtain ⟨b, rfl⟩ := Int.dvd_of_emod_eq_zero ha
  rw [Int.mul_pow]; exact Int.dvd_mul_right _ _
theorem gIt_even {a : Int} (ha : a % 2 = 0) (c : Int) {w n : Nat} (h : w ≤ n) (x : Int) : (2 : Int) ^ w ∣ gIt a c n x - gIt a c w x := by
  obtain ⟨k, rfl⟩ : ∃ k, n = k + w := ⟨n - w, by omega⟩
  rw [gIt_add, gIt_sub]
  exact Int.dvd_mul_of_dvd_left (gpow_even ha w)
/-- as many steps as are done for n -/
def gCnt (w : Nat) (a n : Int) : Nat := if a % 2 = 0 then (min n w).toNat else (n % 2 ^ w).toNat
def gAt (w : Nat) (a c x n : Int) : Int := gIt a c (gCnt w a n) x
theorem gAt_odd {w : Nat} {a c x n : Int} (ha : a % 2 = 1) {k : Nat} (h : (2 : Int) ^ w ∣ (k : Int) - n) : (2 : Int) ^ w ∣ gAt w a c x n - gIt a c k x := by
  unfold gAt gCnt
  rw [if_neg (by omega)]
  refine gIt_modz ha c ?_ x
  have h0 := Int.emod_nonneg n (Int.ne_of_gt (gpos w))
  rw [Int.toNat_of_nonneg h0]
  exact gdvT Int.dvd_emod_sub_self (gdvS h)
theorem gAt_nat (w : Nat) (a c x : Int) (n : Nat) : (2 : Int) ^ w ∣ gAt w a c x n - gIt a c n x := by
  rcases Int.emod_two_eq a with ha | ha
  · unfold gAt gCnt
    rw [if_pos ha]
    by_cases h : n ≤ w
    · rw [show (min (n : Int) w).toNat = n by omega]; exact gdv0
    · rw [show (min (n : Int) w).toNat = w by omega]
      exact gdvS (gIt_even ha c (by omega) x)
  · exact gAt_odd ha gdv0
/-- how often 2 divides, w at most -/
def gv : Nat → Int → Nat
  | 0, _ => 0
  | w + 1, n => if n % 2 = 0 then gv w (n / 2) + 1 else 0
theorem gv_le : ∀ (w : Nat) (n : Int), gv w n ≤ w
  | 0, _ => Nat.le_refl _
  | w + 1, n => by
    unfold gv
    have := gv_le w (n / 2)
    split <;> omega
theorem gv_iff : ∀ (w : Nat) (n : Int) (k : Nat), k ≤ gv w n ↔ k ≤ w ∧ (2 : Int) ^ k ∣ n
  | 0, n, k => by
    constructor
    · intro h
      have h : k ≤ 0 := h
      obtain rfl : k = 0 := by omega
      exact ⟨h, by rw [Int.pow_zero]; exact Int.one_dvd _⟩
    · intro h; exact h.1
  | w + 1, n, 0 => ⟨fun _ => ⟨by omega, by rw [Int.pow_zero]; exact Int.one_dvd _⟩, fun _ => by omega⟩
  | w + 1, n, k + 1 => by
    unfold gv
    by_cases h : n % 2 = 0
    · rw [if_pos h]
      have ih := gv_iff w (n / 2) k
      have e : n = 2 * (n / 2) := by omega
      constructor
      · intro hk
        obtain ⟨h1, t, ht⟩ := ih.mp (by omega)
        refine ⟨by omega, t, ?_⟩
        rw [g2S, Int.mul_assoc, ← ht]; exact e
      · rintro ⟨h1, t, ht⟩
        rw [g2S, Int.mul_assoc] at ht
        have := ih.mpr ⟨by omega, t, by omega⟩
        omega
    · rw [if_neg h]
      constructor
      · intro hk; omega
      · rintro ⟨h1, t, ht⟩
        rw [g2S, Int.mul_assoc] at ht
        omega
theorem gv_dvd (w : Nat) (n : Int) : (2 : Int) ^ gv w n ∣ n := ((gv_iff w n _).mp (Nat.le_refl _)).2
theorem gv_full {w : Nat} {n : Int} : (2 : Int) ^ w ∣ n ↔ gv w n = w := by
  have a := gv_le w n
  have b := gv_iff w n w
  constructor
  · intro h
    have := b.mpr ⟨Nat.le_refl _, h⟩
    omega
  · intro h
    exact (b.mp (by omega)).2
theorem gv_cong {w : Nat} {x y : Int} (h : (2 : Int) ^ w ∣ x - y) : gv w x = gv w y := by
  have key : ∀ {x y : Int}, (2 : Int) ^ w ∣ x - y → gv w x ≤ gv w y := fun {x y} h => by
    refine (gv_iff w y _).mpr ⟨gv_le w x, ?_⟩
    have h1 := Int.dvd_trans (gpp (gv_le w x)) h
    have h2 := gv_dvd w x
    rw [show y = x - (x - y) by omega]
    exact Int.dvd_sub h2 h1
  exact Nat.le_antisymm (key h) (key (gdvS h))
theorem gv_val {w j : Nat} {n a : Int} (h : n = 2 ^ j * (2 * a + 1)) (hj : j ≤ w) : gv w n = j := by
  have h1 := (gv_iff w n j).mpr ⟨hj, by rw [h]; exact Int.dvd_mul_right _ _⟩
  refine Nat.le_antisymm (Nat.le_of_not_lt fun c => ?_) h1
  obtain ⟨_, t, ht⟩ := (gv_iff w n (j + 1)).mp c
  have ht' : (2 : Int) ^ j * (2 * a + 1) = 2 ^ j * (2 * t) := by rw [← h, ht, g2S, Int.mul_assoc, Int.mul_left_comm]
  have := Int.eq_of_mul_eq_mul_left (Int.ne_of_gt (gpos j)) ht'
  omega
theorem gv_next (w : Nat) (z : Int) : gv w z = min w (gv (w + 1) z) := by
  have key : ∀ k, k ≤ gv w z ↔ k ≤ min w (gv (w + 1) z) := fun k => by
    rw [gv_iff, Nat.le_min, gv_iff]
    constructor
    · rintro ⟨a, b⟩; exact ⟨a, by omega, b⟩
    · rintro ⟨a, b, c⟩; exact ⟨a, c⟩
  exact Nat.le_antisymm ((key _).mp (Nat.le_refl _)) ((key _).mpr (Nat.le_refl _))
theorem gv_mul : ∀ (w : Nat) (y z : Int), gv w (y * z) = min w (gv w y + gv w z)
  | 0, y, z => by show 0 = min 0 _; omega
  | w + 1, y, z => by
    have nz := gv_next w z
    have ny := gv_next w y
    have lz := gv_le (w + 1) z
    have ly := gv_le (w + 1) y
    rcases Int.emod_two_eq y with hy | hy
    · have e : y * z = 2 * (y / 2 * z) := by rw [← Int.mul_assoc]; congr 1; omega
      have ih := gv_mul w (y / 2) z
      have g1 : gv (w + 1) (y * z) = gv w (y / 2 * z) + 1 := by
        show (if y * z % 2 = 0 then gv w (y * z / 2) + 1 else 0) = _
        rw [if_pos (by omega), show y * z / 2 = y / 2 * z by omega]
      have g2 : gv (w + 1) y = gv w (y / 2) + 1 := by
        show (if y % 2 = 0 then gv w (y / 2) + 1 else 0) = _
        rw [if_pos hy]
      rw [g1, ih, g2]; omega
    · have g0 : gv (w + 1) y = 0 := by
        show (if y % 2 = 0 then gv w (y / 2) + 1 else 0) = _
        rw [if_neg (by omega)]
      rcases Int.emod_two_eq z with hz | hz
      · have e : y * z = 2 * (y * (z / 2)) := by rw [Int.mul_left_comm]; congr 1; omega
        have ih := gv_mul w y (z / 2)
        have g1 : gv (w + 1) (y * z) = gv w (y * (z / 2)) + 1 := by
          show (if y * z % 2 = 0 then gv w (y * z / 2) + 1 else 0) = _
          rw [if_pos (by omega), show y * z / 2 = y * (z / 2) by omega]
        have g2 : gv (w + 1) z = gv w (z / 2) + 1 := by
          show (if z % 2 = 0 then gv w (z / 2) + 1 else 0) = _
          rw [if_pos hz]
        rw [g1, ih, g2]; omega
      · have g1 : gv (w + 1) (y * z) = 0 := by
          show (if y * z % 2 = 0 then gv w (y * z / 2) + 1 else 0) = _
          rw [if_neg (by rw [Int.mul_emod, hy, hz]; decide)]
        have g2 : gv (w + 1) z = 0 := by
          show (if z % 2 = 0 then gv w (z / 2) + 1 else 0) = _
          rw [if_neg (by omega)]
        rw [g1, g0, g2]; omega
theorem gv_pow (w : Nat) (a y : Int) : ∀ k : Nat, gv w (a ^ k * y) = min w (k * gv w a + gv w y)
  | 0 => by
    have := gv_le w y
    rw [Int.pow_zero, Int.one_mul]; omega
  | k + 1 => by
    rw [Int.pow_succ, Int.mul_comm (a ^ k) a, Int.mul_assoc, gv_mul, gv_pow w a y k, Nat.add_mul]; omega
theorem gLead {a : Int} (ha : a % 2 = 0) (c : Int) (w k : Nat) (x : Int) : (2 : Int) ^ w ∣ gIt a c k x - gIt a c w x ↔ w ≤ k * gv w a + gv w (x - gIt a c w x) := by
  have e1 : (2 : Int) ^ w ∣ gIt a c k (gIt a c w x) - gIt a c w x := by
    rw [← gIt_add]; exact gIt_even ha c (by omega) x
  have e2 := gIt_sub a c k x (gIt a c w x)
  have e3 : (2 : Int) ^ w ∣ gIt a c k x - gIt a c w x ↔ (2 : Int) ^ w ∣ a ^ k * (x - gIt a c w x) := by
    rw [← e2]
    exact ⟨fun h => gdvT h (gdvS e1), fun h => gdvT h e1⟩
  rw [e3, gv_full, gv_pow]; omega
/-- the quotient rounded up -/
theorem gceil {l t : Int} (ht : 0 < t) (hl : 0 ≤ l) : ∃ L : Nat, -((-l) / t) = (L : Int) ∧ l ≤ (L : Int) * t ∧ (∀ k : Nat, k < L → (k : Int) * t < l) ∧ (L : Int) ≤ l := by
  have e := Int.mul_ediv_add_emod (-l) t
  have r0 := Int.emod_nonneg (-l) (Int.ne_of_gt ht)
  have r1 := Int.emod_lt_of_pos (-l) ht
  have q0 : (-l) / t ≤ 0 := by
    refine Int.le_of_not_gt fun c => ?_
    have := Int.mul_le_mul_of_nonneg_left (show (1 : Int) ≤ (-l) / t by omega) (Int.le_of_lt ht)
    omega
  obtain ⟨L, hL⟩ := Int.eq_ofNat_of_zero_le (show 0 ≤ -((-l) / t) by omega)
  have eL : (L : Int) * t = l + (-l) % t := by
    have : (-l) / t = -(L : Int) := by omega
    rw [this, Int.mul_neg, Int.mul_comm] at e
    omega
  refine ⟨L, hL, by omega, fun k hk => ?_, ?_⟩
  · have h1 := Int.mul_le_mul_of_nonneg_right (show (k : Int) + 1 ≤ L by omega) (Int.le_of_lt ht)
    rw [Int.add_mul, Int.one_mul] at h1
    omega
  · by_cases c : L = 0
    · omega
    · have h1 := Int.mul_le_mul_of_nonneg_right (show (L : Int) - 1 + 1 ≤ L by omega) (Int.le_of_lt ht)
      have h2 := Int.mul_le_mul_of_nonneg_left (show (1 : Int) ≤ t by omega) (show 0 ≤ (L : Int) - 1 by omega)
      rw [Int.mul_one, Int.sub_mul, Int.one_mul] at h2
      omega
end Fw
namespace Fw
open L2
open PySem PySem.Spec PyProof.Rows
theorem gposR (w : Nat) : (0 : Int) < 2 ^ w := Int.pow_pos (by decide)
theorem gppR {a b : Nat} (h : a ≤ b) : (2 : Int) ^ a ∣ 2 ^ b := ⟨2 ^ (b - a), by rw [← Int.pow_add]; congr 1; omega⟩
theorem dvT {S x y z : Int} (h : S ∣ x - y) (g : S ∣ y - z) : S ∣ x - z := by
  rw [show x - z = (x - y) + (y - z) by omega]; exact Int.dvd_add h g
theorem dvS {S x y : Int} (h : S ∣ x - y) : S ∣ y - x := by
  rw [show y - x = -(x - y) by omega]; exact (Int.dvd_neg).mpr h
theorem res_eq {S f g : Int} (f0 : 0 ≤ f) (f1 : f < S) (g0 : 0 ≤ g) (g1 : g < S) (h : S ∣ f - g) : f = g := by
  obtain ⟨c, hc⟩ := h
  have h1 : c < 1 := by
    refine Int.not_le.mp fun z => ?_
    have := Int.mul_le_mul_of_nonneg_left z (show 0 ≤ S by omega)
    omega
  have h2 : -1 < c := by
    refine Int.not_le.mp fun z => ?_
    have := Int.mul_le_mul_of_nonneg_left z (show 0 ≤ S by omega)
    omega
  have : c = 0 := by omega
  rw [this, Int.mul_zero] at hc
  omega
/-- families that stand apart, no two of which are halves -/
structure Nrm (w : Nat) (S : Fam) : Prop where
  wf : WfF w S
  ap : Apart S
  ir : ∀ k, 1 ≤ k → k ≤ w → Irr S k
section
variable {w : Nat} {S T : Fam}
theorem Nrm.inner (N : Nrm w S) {g : Int} {d : Nat} (full : ∀ x, (2 : Int) ^ d ∣ x - g → Cover S x) : ∀ (n : Nat) (k : Nat) (h : Int), w - k = n → d < k → S h k → (2 : Int) ^ d ∣ h - g → False := by
  intro n
  induction n using Nat.strongRecOn with
  | _ n ih =>
    intro k h hn dk hk hg
    obtain ⟨h0, h1, kw⟩ := N.wf h k hk
    have e : (2 : Int) ^ k = 2 ^ (k - 1) * 2 := by rw [← Int.pow_succ, show (k - 1).succ = k by omega]
    have hp := gposR (k - 1)
    -- the other half
    obtain ⟨y, hy⟩ : ∃ y, y = if h < 2 ^ (k - 1) then h + 2 ^ (k - 1) else h - 2 ^ (k - 1) := ⟨_, rfl⟩
    have hyb : 0 ≤ y ∧ y < 2 ^ k ∧ (y = h + 2 ^ (k - 1) ∨ y = h - 2 ^ (k - 1)) := by
      split at hy <;> omega
    have hyh : (2 : Int) ^ (k - 1) ∣ y - h := by
      rcases hyb.2.2 with z | z
      · exact ⟨1, by omega⟩
      · exact ⟨-1, by omega⟩
    have hyg : (2 : Int) ^ d ∣ y - g := dvT (Int.dvd_trans (gppR (by omega)) hyh) hg
    obtain ⟨m, j, hm, dm⟩ := full y hyg
    obtain ⟨m0, m1, jw⟩ := N.wf m j hm
    rcases Nat.lt_trichotomy j k with lt | eq | gt
    · have d2 : (2 : Int) ^ j ∣ h - m := dvT (dvS (Int.dvd_trans (gppR (by omega)) hyh)) dm
      have := (N.ap h k m j h hk hm (by rw [Int.sub_self]; exact Int.dvd_zero _) d2).2
      omega
    · subst eq
      have ym : y = m := res_eq hyb.1 hyb.2.1 m0 m1 dm
      subst ym
      split at hy
      · rename_i c
        exact N.ir j (by omega) jw h c ⟨hk, by rw [← hy]; exact hm⟩
      · rename_i c
        exact N.ir j (by omega) jw y (by omega) ⟨hm, by rw [show y + 2 ^ (j - 1) = h by omega]; exact hk⟩
    · exact ih (w - j) (by omega) j m rfl (by omega) hm (dvT (dvS (Int.dvd_trans (gppR (by omega)) dm)) hyg)
/-- a ball all of whose numbers are covered lies in one family -/
theorem Nrm.ball (N : Nrm w S) {g : Int} {d : Nat} (full : ∀ x, (2 : Int) ^ d ∣ x - g → Cover S x) : ∃ h k, S h k ∧ k ≤ d ∧ (2 : Int) ^ k ∣ g - h := by
  obtain ⟨h, k, hk, hd⟩ := full g (by rw [Int.sub_self]; exact Int.dvd_zero _)
  by_cases z : k ≤ d
  · exact ⟨h, k, hk, z, hd⟩
  · exact (N.inner full _ k h rfl (by omega) hk (dvS (Int.dvd_trans (gppR (by omega)) hd))).elim
theorem Nrm.sub (N : Nrm w S) (M : Nrm w T) (e : ∀ x, Cover S x ↔ Cover T x) {f : Int} {k : Nat} (h : S f k) : T f k := by
  obtain ⟨f0, f1, kw⟩ := N.wf f k h
  obtain ⟨g, d, hg, dk, dg⟩ := M.ball (g := f) (d := k) fun x hx => (e x).mp ⟨f, k, h, hx⟩
  obtain ⟨g0, g1, dw⟩ := M.wf g d hg
  obtain ⟨a, j, ha, jd, da⟩ := N.ball (g := g) (d := d) fun x hx => (e x).mpr ⟨g, d, hg, hx⟩
  obtain ⟨rfl, rfl⟩ := N.ap f k a j f h ha (by rw [Int.sub_self]; exact Int.dvd_zero _) (dvT (Int.dvd_trans (gppR jd) dg) da)
  obtain rfl : d = k := by omega
  rw [res_eq f0 f1 g0 g1 dg]
  exact hg
theorem Nrm.uniq (N : Nrm w S) (M : Nrm w T) (e : ∀ x, Cover S x ↔ Cover T x) (f : Int) (k : Nat) : S f k ↔ T f k := ⟨N.sub M e, M.sub N fun x => (e x).symm⟩
end
/-! ### rows of pairs, told by their numbers -/
abbrev FL := List (Int × Nat)
abbrev ltF (x y : Int × Nat) : Prop := x.1 < y.1 ∨ (x.1 = y.1 ∧ x.2 < y.2)
/-- a row of pairs -/
inductive PRow (H : Hp) : List V → FL → Prop
  | nil : PRow H [] []
  | cons {q : Addr} {f : Int} {e : Nat} {rs : List V} {fl : FL} : H q = some (.tup [.int f, .int (e : Int)]) → PRow H rs fl → PRow H (.ref q :: rs) ((f, e) :: fl)
section
variable {H H' : Hp} {rs : List V} {fl : FL}
theorem PRow.keep (h : PRow H rs fl) (s : ∀ q f e, H q = some (.tup [.int f, .int e]) → H' q = some (.tup [.int f, .int e])) : PRow H' rs fl := by
  induction h with
  | nil => exact .nil
  | cons h _ ih => exact .cons (s _ _ _ h) ih
theorem PRow.same (h : PRow H rs fl) (s : Same H H') : PRow H' rs fl := h.keep fun q _ _ e => s q _ e
theorem PRow.len (h : PRow H rs fl) : rs.length = fl.length := by
  induction h with
  | nil => rfl
  | cons _ _ ih => rw [List.length_cons, List.length_cons, ih]
theorem PRow.get (h : PRow H rs fl) : ∀ {i : Nat} {x : V}, rs[i]? = some x → ∃ (q : Addr) (f : Int) (e : Nat), x = .ref q ∧ H q = some (.tup [.int f, .int (e : Int)]) ∧ fl[i]? = some (f, e) := by
  induction h with
  | nil => intro i x h; cases h
  | @cons q f e _ _ h _ ih =>
    intro i x hx
    cases i with
    | zero => exact ⟨q, f, e, (Option.some.inj hx).symm, h, rfl⟩
    | succ i => exact ih hx
theorem PRow.hit (h : PRow H rs fl) : ∀ {i : Nat} {f : Int} {e : Nat}, fl[i]? = some (f, e) → ∃ q : Addr, rs[i]? = some (.ref q) ∧ H q = some (.tup [.int f, .int (e : Int)]) := by
  induction h with
  | nil => intro i f e h; cases h
  | @cons q f e _ _ h _ ih =>
    intro i f' e' hx
    cases i with
    | zero =>
      obtain ⟨rfl, rfl⟩ := Prod.mk.inj (Option.some.inj hx)
      exact ⟨q, rfl, h⟩
    | succ i => exact ih hx
theorem PRow.app {rs' : List V} {fl' : FL} (h : PRow H rs fl) (g : PRow H rs' fl') : PRow H (rs ++ rs') (fl ++ fl') := by
  induction h with
  | nil => exact g
  | cons h _ ih => exact .cons h ih
theorem PRow.add {q : Addr} {f : Int} {e : Nat} (h : PRow H rs fl) (hq : H q = some (.tup [.int f, .int (e : Int)])) : PRow H (rs ++ [.ref q]) (fl ++ [(f, e)]) := h.app (.cons hq .nil)
/-- a row from its values -/
theorem row_of_vals (h : ∀ r ∈ rs, ∃ (q : Addr) (f : Int) (e : Nat), r = .ref q ∧ H q = some (.tup [.int f, .int (e : Int)])) : PRow H rs (rs.map fun v => ((kOf H v).1, (kOf H v).2.toNat)) := by
  induction rs with
  | nil => exact .nil
  | cons r rs ih =>
    obtain ⟨q, f, e, rfl, hq⟩ := h r List.mem_cons_self
    rw [List.map_cons, kOf_at hq]
    exact .cons hq (ih fun r hr => h r (List.mem_cons_of_mem _ hr))
theorem PRow.dp {K : PySem.W.Frag} (h : PRow H rs fl) : DpAll K H rs (fl.map fun p => PyData.tuple [.int p.1, .int (p.2 : Int)]) := by
  induction h with
  | nil => exact .nil
  | cons h _ ih => exact .cons (.tup (SqT.of h) (.cons (.int _) (.cons (.int _) .nil))) ih
end
theorem srt_uniq : ∀ {l m : FL}, l.Pairwise ltF → m.Pairwise ltF → (∀ x, x ∈ l ↔ x ∈ m) → l = m := by
  intro l
  induction l with
  | nil =>
    intro m _ _ h
    cases m with
    | nil => rfl
    | cons x m => exact absurd ((h x).mpr List.mem_cons_self) List.not_mem_nil
  | cons x l ih =>
    intro m hl hm h
    cases m with
    | nil => exact absurd ((h x).mp List.mem_cons_self) List.not_mem_nil
    | cons y m =>
      obtain ⟨hx, hl'⟩ := List.pairwise_cons.mp hl
      obtain ⟨hy, hm'⟩ := List.pairwise_cons.mp hm
      have irr : ∀ z : Int × Nat, ¬ ltF z z := fun z c => by rcases c with c | c <;> omega
      have e : x = y := by
        rcases List.mem_cons.mp ((h x).mp List.mem_cons_self) with e | a
        · exact e
        rcases List.mem_cons.mp ((h y).mpr List.mem_cons_self) with e | b
        · exact e.symm
        have c1 := hy x a
        have c2 := hx y b
        exact absurd (show ltF x x by rcases c1 with c1 | c1 <;> rcases c2 with c2 | c2 <;> (unfold ltF; omega)) (irr x)
      subst e
      congr 1
      refine ih hl' hm' fun z => ⟨fun hz => ?_, fun hz => ?_⟩
      · rcases List.mem_cons.mp ((h z).mp (List.mem_cons_of_mem _ hz)) with e | a
        · subst e; exact absurd (hx z hz) (irr z)
        · exact a
      · rcases List.mem_cons.mp ((h z).mpr (List.mem_cons_of_mem _ hz)) with e | a
        · subst e; exact absurd (hy z hz) (irr z)
        · exact a
abbrev famL (fl : FL) : Fam := fun f e => (f, e) ∈ fl
/-- the ascending row of families that stand apart, no two of which are halves -/
structure NRow (w : Nat) (fl : FL) : Prop where
  srt : fl.Pairwise ltF
  nrm : Nrm w (famL fl)
theorem NRow.uniq {w : Nat} {fl gl : FL} (a : NRow w fl) (b : NRow w gl) (e : ∀ x, Cover (famL fl) x ↔ Cover (famL gl) x) : fl = gl := srt_uniq a.srt b.srt fun x => a.nrm.uniq b.nrm e x.1 x.2
theorem NRow.nil {w : Nat} : NRow w [] := ⟨.nil, ⟨fun _ _ h => (by cases h), fun _ _ _ _ _ h => (by cases h), fun _ _ _ _ _ h => (by cases h.1)⟩⟩
theorem NRow.one {w : Nat} {f : Int} {e : Nat} (f0 : 0 ≤ f) (f1 : f < 2 ^ e) (ew : e ≤ w) : NRow w [(f, e)] :=
  ⟨List.pairwise_singleton _ _, ⟨fun g d h => by obtain ⟨rfl, rfl⟩ := Prod.mk.inj (List.mem_singleton.mp h); exact ⟨f0, f1, ew⟩, fun g d g' d' x h h' _ _ => by
    obtain ⟨rfl, rfl⟩ := Prod.mk.inj (List.mem_singleton.mp h)
    obtain ⟨rfl, rfl⟩ := Prod.mk.inj (List.mem_singleton.mp h')
    exact ⟨rfl, rfl⟩, fun k k1 kw g hg h => by
    obtain ⟨rfl, rfl⟩ := Prod.mk.inj (List.mem_singleton.mp h.1)
    obtain ⟨z, _⟩ := Prod.mk.inj (List.mem_singleton.mp h.2)
    have := gposR (k - 1)
    omega⟩⟩
theorem cover_one {f x : Int} {e : Nat} : Cover (famL [(f, e)]) x ↔ (2 : Int) ^ e ∣ x - f := ⟨fun ⟨g, d, h, c⟩ => by
  obtain ⟨rfl, rfl⟩ := Prod.mk.inj (List.mem_singleton.mp h)
  exact c, fun h => ⟨f, e, List.mem_singleton.mpr rfl, h⟩⟩
/-- a list object that holds the families of just those of which P speaks -/
def FamRow (H : Hp) (q : Addr) (w : Nat) (P : Int → Prop) : Prop := ∃ out fl, H q = some (.lst out) ∧ PRow H out fl ∧ NRow w fl ∧ (∀ x, Cover (famL fl) x ↔ P x) ∧ fl.length ≤ 2000
theorem FamRow.same {H H' : Hp} {q : Addr} {w : Nat} {P : Int → Prop} (h : FamRow H q w P) (s : Same H H') : FamRow H' q w P := by
  obtain ⟨out, fl, a, b, c, d, e⟩ := h
  exact ⟨out, fl, s _ _ a, b.same s, c, d, e⟩
theorem cover_nil {x : Int} : ¬ Cover (famL []) x := fun ⟨_, _, h, _⟩ => by cases h
/-- the first pairs of an object's list are those of a row -/
theorem FamRow.list {H : Hp} {q : Addr} {w : Nat} {P : Int → Prop} {gl : FL} (h : FamRow H q w P) (n : NRow w gl) (e : ∀ x, Cover (famL gl) x ↔ P x) : ∃ out, H q = some (.lst out) ∧ PRow H out gl := by
  obtain ⟨out, fl, a, b, c, d, _⟩ := h
  rw [c.uniq n fun x => (d x).trans (e x).symm] at b
  exact ⟨out, a, b⟩
/-- what joined hands back, by its dict's keys -/
theorem joined_row {H : Hp} {kvs : List (List Key × V)} {bs : List Addr} {out : List V} (nd : (kvs.map (·.1)).Nodup) (sh : ∀ x ∈ kvs, ∃ (f : Int) (e : Nat), x.1 = fk f e ∧ 0 ≤ f) (hbs : IsKeys H kvs bs) (so : SrtO.Srtd (ltP (kOf H)) out) (pm : out.Perm (bs.map V.ref)) :
    ∃ fl : FL, PRow H out fl ∧ fl.Pairwise ltF ∧ (fun f e => (f, e) ∈ fl) = famD kvs := by
  have vals : ∀ r ∈ out, ∃ (q : Addr) (f : Int) (e : Nat), r = .ref q ∧ H q = some (.tup [.int f, .int (e : Int)]) ∧ famD kvs f e := fun r hr => by
    obtain ⟨b, hb, rfl⟩ := List.mem_map.mp (pm.mem_iff.mp hr)
    obtain ⟨j, hj⟩ := List.getElem?_of_mem hb
    obtain ⟨x, hx, hbx⟩ := L2.DX.pget hbs hj
    obtain ⟨f, e, ex, _⟩ := sh x (List.mem_of_getElem? hx)
    rw [ex] at hbx
    exact ⟨b, f, e, rfl, hbx, List.mem_map.mpr ⟨x, List.mem_of_getElem? hx, ex⟩⟩
  have back : ∀ f e, famD kvs f e → ∃ q : Addr, V.ref q ∈ out ∧ H q = some (.tup [.int f, .int (e : Int)]) := fun f e h => by
    obtain ⟨x, hx, ex⟩ := List.mem_map.mp h
    obtain ⟨j, hj⟩ := List.getElem?_of_mem hx
    have jl : j < bs.length := by rw [← Paired.length hbs]; exact (List.getElem?_eq_some_iff.mp hj).1
    have hb : bs[j]? = some bs[j] := List.getElem?_eq_getElem jl
    obtain ⟨y, hy, hbx⟩ := L2.DX.pget hbs hb
    rw [hj] at hy
    obtain rfl := Option.some.inj hy
    rw [ex] at hbx
    exact ⟨bs[j], pm.mem_iff.mpr (List.mem_map.mpr ⟨_, List.getElem_mem jl, rfl⟩), hbx⟩
  have ks : ((bs.map V.ref).map (kOf H)).Nodup := by
    have go : ∀ {kvs : List (List Key × V)} {bs : List Addr}, Paired (fun p b => H b = some (.tup (p.1.map kV))) kvs bs → (∀ x ∈ kvs, ∃ (f : Int) (e : Nat), x.1 = fk f e ∧ 0 ≤ f) → (kvs.map (·.1)).Nodup → ((bs.map V.ref).map (kOf H)).Nodup ∧ ∀ z ∈ (bs.map V.ref).map (kOf H), ∃ (f : Int) (e : Nat), z = (f, (e : Int)) ∧ fk f e ∈ kvs.map (·.1) := fun {kvs bs} h => by
      induction h with
      | nil => exact fun _ _ => ⟨.nil, fun z h => (by cases h)⟩
      | @cons x b kvs bs h1 _ ih =>
        intro sh nd
        obtain ⟨n1, n2⟩ := List.nodup_cons.mp (by rw [List.map_cons] at nd; exact nd)
        obtain ⟨i1, i2⟩ := ih (fun y hy => sh y (List.mem_cons_of_mem _ hy)) n2
        obtain ⟨f, e, ex, _⟩ := sh x List.mem_cons_self
        rw [ex] at h1 n1
        have h1 : H b = some (.tup [.int f, .int (e : Int)]) := h1
        rw [List.map_cons, List.map_cons, kOf_at h1]
        refine ⟨List.nodup_cons.mpr ⟨fun z => ?_, i1⟩, fun z hz => ?_⟩
        · obtain ⟨f', e', ez, m⟩ := i2 _ z
          obtain ⟨rfl, e2⟩ := Prod.mk.inj ez
          obtain rfl : e = e' := by omega
          exact n1 m
        · rcases List.mem_cons.mp hz with rfl | hz
          · exact ⟨f, e, rfl, by rw [List.map_cons, ex]; exact List.mem_cons_self⟩
          · obtain ⟨f', e', ez, m⟩ := i2 _ hz
            exact ⟨f', e', ez, by rw [List.map_cons]; exact List.mem_cons_of_mem _ m⟩
    exact (go hbs sh nd).1
  have ko : (out.map (kOf H)).Nodup := (pm.map (kOf H)).nodup_iff.mpr ks
  refine ⟨_, row_of_vals fun r hr => ?_, ?_, ?_⟩
  · obtain ⟨q, f, e, a, b, _⟩ := vals r hr
    exact ⟨q, f, e, a, b⟩
  · rw [List.pairwise_map]
    rw [List.Nodup, List.pairwise_map] at ko
    refine List.Pairwise.imp_of_mem (fun {a b} ha hb h => ?_) (List.Pairwise.and so ko)
    obtain ⟨q, f, e, rfl, hq, _⟩ := vals a ha
    obtain ⟨q', f', e', rfl, hq', _⟩ := vals b hb
    obtain ⟨h1, h2⟩ := h
    unfold ltP at h1
    rw [kOf_at hq, kOf_at hq'] at h1 h2 ⊢
    have h1 := SrtO.lexB_no.mp h1
    simp only at h1
    show f < f' ∨ (f = f' ∧ (e : Int).toNat < (e' : Int).toNat)
    rcases Int.lt_trichotomy f f' with z | z | z
    · exact .inl z
    · refine .inr ⟨z, ?_⟩
      subst z
      have : e ≠ e' := fun z => h2 (by rw [z])
      omega
    · omega
  · funext f e
    refine propext ⟨fun h => ?_, fun h => ?_⟩
    · obtain ⟨r, hr, er⟩ := List.mem_map.mp h
      obtain ⟨q, f', e', rfl, hq, hs⟩ := vals r hr
      rw [kOf_at hq] at er
      obtain ⟨rfl, rfl⟩ := Prod.mk.inj er
      exact hs
    · obtain ⟨q, hr, hq⟩ := back f e h
      refine List.mem_map.mpr ⟨_, hr, ?_⟩
      rw [kOf_at hq]; rfl

/-! ### rows compared -/
theorem sh_nilR : SeqAt.shaped (.list []) = true := by
  unfold SeqAt.shaped
  simp [PyData.canLay0, PyData.canLayAll0, PyData.depth, PyData.depthAll]
theorem w_neNil {K : PySem.W.Frag} {H : Hp} {Q : VK} {a b : Addr} (ha : H a = some (.lst [])) (hb : H b = some (.lst [])) (q : Q (.bl false) H) : rNeD K (.ref a) (.ref b) H Q := by
  refine w_neDg (.lst (SqL.of ha) .nil) (.lst (SqL.of hb) .nil) sh_nilR sh_nilR ?_
  rw [show PyData.eqv (.list []) (.list []) = true from PySem.SeqAt.eqv_refl _ (by simp [PyData.canLay0, PyData.canLayAll0])]; exact q
abbrev rowD (fl : FL) : PyData := .list (fl.map fun p => PyData.tuple [.int p.1, .int (p.2 : Int)])
theorem row_lay (fl : FL) : (rowD fl).canLay0 = true ∧ (rowD fl).depth ≤ 2 := by
  have h : ∀ fl : FL, PyData.canLayAll0 (fl.map fun p => PyData.tuple [.int p.1, .int (p.2 : Int)]) = true ∧ PyData.depthAll (fl.map fun p => PyData.tuple [.int p.1, .int (p.2 : Int)]) ≤ 1 := fun fl => by
    induction fl with
    | nil => simp [PyData.canLayAll0, PyData.depthAll]
    | cons p fl ih =>
      rw [List.map_cons]
      simp only [PyData.canLay0, PyData.canLayAll0, PyData.depth, PyData.depthAll]
      refine ⟨by simp [ih.1], by have := ih.2; omega⟩
  have g := h fl
  simp only [rowD, PyData.canLay0, PyData.depth]
  exact ⟨g.1, by have := g.2; omega⟩
theorem sh_row (fl : FL) : SeqAt.shaped (rowD fl) = true := by
  unfold SeqAt.shaped
  rw [(row_lay fl).1, Bool.true_and]
  exact decide_eq_true (Nat.le_trans (row_lay fl).2 (by decide))
theorem w_eqRow {K : PySem.W.Frag} {H : Hp} {Q : VK} {a b : Addr} {as bs : List V} {fl : FL} (ha : H a = some (.lst as)) (ra : PRow H as fl) (hb : H b = some (.lst bs)) (rb : PRow H bs fl) (q : Q (.bl true) H) : rEqD K (.ref a) (.ref b) H Q := by
  refine w_eqDg (.lst (SqL.of ha) ra.dp) (.lst (SqL.of hb) rb.dp) (sh_row fl) (sh_row fl) ?_
  rw [show PyData.eqv (.list (fl.map fun p => PyData.tuple [.int p.1, .int (p.2 : Int)])) (.list (fl.map fun p => PyData.tuple [.int p.1, .int (p.2 : Int)])) = true from PySem.SeqAt.eqv_refl _ (row_lay fl).1]; exact q
theorem w_neRow {K : PySem.W.Frag} {H : Hp} {Q : VK} {a b : Addr} {as bs : List V} {fl : FL} (ha : H a = some (.lst as)) (ra : PRow H as fl) (hb : H b = some (.lst bs)) (rb : PRow H bs fl) (q : Q (.bl false) H) : rNeD K (.ref a) (.ref b) H Q := by
  refine w_neDg (.lst (SqL.of ha) ra.dp) (.lst (SqL.of hb) rb.dp) (sh_row fl) (sh_row fl) ?_
  rw [show PyData.eqv (.list (fl.map fun p => PyData.tuple [.int p.1, .int (p.2 : Int)])) (.list (fl.map fun p => PyData.tuple [.int p.1, .int (p.2 : Int)])) = true from PySem.SeqAt.eqv_refl _ (row_lay fl).1]; exact q

theorem PRow.k {H : Hp} {rs : List V} {fl : FL} (r : PRow H rs fl) : ∀ x ∈ rs, ∃ t, x = V.ref t ∧ H t = some (.tup [.int (kOf H x).1, .int (kOf H x).2]) := fun x hx => by
  obtain ⟨i, hi⟩ := List.getElem?_of_mem hx
  obtain ⟨q, f, e, rfl, hq, _⟩ := r.get hi
  refine ⟨q, rfl, ?_⟩
  rw [kOf_at hq]; exact hq
theorem PRow.srtd {H : Hp} {rs : List V} {fl : FL} (r : PRow H rs fl) (s : fl.Pairwise ltF) : SrtO.Srtd (ltP (kOf H)) rs := by
  induction r with
  | nil => exact .nil
  | @cons q f e rs fl hq r ih =>
    obtain ⟨h1, h2⟩ := List.pairwise_cons.mp s
    refine List.pairwise_cons.mpr ⟨fun y hy => ?_, ih h2⟩
    obtain ⟨i, hi⟩ := List.getElem?_of_mem hy
    obtain ⟨q', f', e', rfl, hq', hf⟩ := r.get hi
    have := h1 _ (List.mem_of_getElem? hf)
    unfold ltP
    rw [kOf_at hq, kOf_at hq']
    refine SrtO.lexB_no.mpr ?_
    show ¬ (f' < f ∨ (f' = f ∧ (e' : Int) < (e : Int)))
    have h3 : f < f' ∨ (f = f' ∧ e < e') := this
    omega
theorem w_sortRow {K : PySem.W.Frag} {H : Hp} {Q : VK} {a : Addr} {out : List V} {fl : FL} (h : H a = some (.lst out)) (r : PRow H out fl) (s : fl.Pairwise ltF) (q : ∀ l, H l = none → Q (.ref l) (upd H l (.lst out))) : rSortedPO K [.ref a] H Q :=
  ⟨a, out, kOf H, rfl, SqL.of h, r.k, fun ys l so st hl => by
    rw [SrtO.stb_uniq (ltP_swo _) so (r.srtd s) st]
    exact q l hl⟩

theorem w_sumR {K : PySem.W.Frag} {H : Hp} {Q : VK} {a : Addr} {ns : List Int} (h : H a = some (.lst (ns.map V.int))) (q : Q (.int ns.sum) H) : rSum K [.ref a] H Q := ⟨a, ns, rfl, SqL.of h, q⟩

/-- how many families of a row a number is of -/
def cntF (y : Int) (fl : FL) : Nat := (fl.filter fun p => decide ((y - p.1) % 2 ^ p.2 = 0)).length
theorem cntF_app (y : Int) (fl : FL) (p : Int × Nat) : cntF y (fl ++ [p]) = cntF y fl + if (y - p.1) % 2 ^ p.2 = 0 then 1 else 0 := by
  unfold cntF
  rw [List.filter_append, List.length_append]
  congr 1
  by_cases h : (y - p.1) % 2 ^ p.2 = 0
  · rw [if_pos h]; simp [h]
  · rw [if_neg h]; simp [h]
theorem cntF_one {w : Nat} {fl : FL} (n : NRow w fl) {y : Int} (c : Cover (famL fl) y) : cntF y fl = 1 := by
  obtain ⟨f, e, hm, hd⟩ := c
  have mem : (f, e) ∈ fl.filter fun p => decide ((y - p.1) % 2 ^ p.2 = 0) := List.mem_filter.mpr ⟨hm, decide_eq_true (Int.emod_eq_zero_of_dvd hd)⟩
  have all : ∀ x ∈ fl.filter (fun p => decide ((y - p.1) % 2 ^ p.2 = 0)), x = (f, e) := fun x hx => by
    obtain ⟨h1, h2⟩ := List.mem_filter.mp hx
    obtain ⟨a, b⟩ := n.nrm.ap x.1 x.2 f e y h1 hm (Int.dvd_of_emod_eq_zero (of_decide_eq_true h2)) hd
    exact Prod.ext a b
  have srt := n.srt.sublist (List.filter_sublist (l := fl) (p := fun p => decide ((y - p.1) % 2 ^ p.2 = 0)))
  unfold cntF
  revert mem all srt
  generalize fl.filter (fun p => decide ((y - p.1) % 2 ^ p.2 = 0)) = gl
  intro mem all srt
  match gl with
  | [] => cases mem
  | [x] => rfl
  | x :: z :: gl =>
    have h := (List.pairwise_cons.mp srt).1 z List.mem_cons_self
    rw [all x List.mem_cons_self, all z (by simp)] at h
    rcases h with h | h <;> omega
end Fw
namespace Fw
/-! ### polynomials, by the lists of their coefficients -/
def pvl : List Int → Int → Int
  | [], _ => 0
  | c :: cs, x => c + x * pvl cs x
theorem pv_cong {S : Int} : ∀ {cs ds : List Int} {x y : Int}, cs.length = ds.length → (∀ (i : Nat) (c d : Int), cs[i]? = some c → ds[i]? = some d → S ∣ c - d) → S ∣ x - y → S ∣ pvl cs x - pvl ds y
  | [], [], x, y, _, _, _ => by show S ∣ (0 : Int) - 0; rw [Int.sub_self]; exact Int.dvd_zero _
  | c :: cs, d :: ds, x, y, hl, h, hx => by
    have ih := pv_cong (cs := cs) (ds := ds) (by simpa using hl) (fun i c d h1 h2 => h (i + 1) c d h1 h2) hx
    have h0 := h 0 c d rfl rfl
    show S ∣ (c + x * pvl cs x) - (d + y * pvl ds y)
    rw [show (c + x * pvl cs x) - (d + y * pvl ds y) = (c - d) + (x * (pvl cs x - pvl ds y) + (x - y) * pvl ds y) by rw [Int.mul_sub, Int.sub_mul]; omega]
    exact Int.dvd_add h0 (Int.dvd_add (Int.dvd_trans ih (Int.dvd_mul_left _ _)) (Int.dvd_trans hx (Int.dvd_mul_right _ _)))
  | [], d :: ds, _, _, hl, _, _ => by simp at hl
  | c :: cs, [], _, _, hl, _, _ => by simp at hl
theorem pv_congx {S : Int} (cs : List Int) {x y : Int} (h : S ∣ x - y) : S ∣ pvl cs x - pvl cs y := pv_cong rfl (fun i c d h1 h2 => by
  rw [h1] at h2
  obtain rfl := Option.some.inj h2
  rw [Int.sub_self]; exact Int.dvd_zero _) h
theorem pv_map_mod {S : Int} (cs : List Int) (x : Int) : S ∣ pvl (cs.map (· % S)) x - pvl cs x := pv_cong (by rw [List.length_map]) (fun i c d h1 h2 => by
  rw [List.getElem?_map, h2] at h1
  obtain rfl := Option.some.inj h1
  exact Int.dvd_emod_sub_self) (by rw [Int.sub_self]; exact Int.dvd_zero _)
theorem pv_mul (s : Int) : ∀ (cs : List Int) (x : Int), pvl (cs.map (s * ·)) x = s * pvl cs x
  | [], _ => by show (0 : Int) = s * 0; rw [Int.mul_zero]
  | c :: cs, x => by
    show s * c + x * pvl (cs.map (s * ·)) x = s * (c + x * pvl cs x)
    rw [pv_mul s cs x, Int.mul_add, Int.mul_left_comm]
theorem pv_zero (cs : List Int) : pvl cs 0 = cs.headD 0 := by
  cases cs with
  | nil => rfl
  | cons c cs => show c + 0 * _ = c; rw [Int.zero_mul, Int.add_zero]
theorem pv_one : ∀ cs : List Int, pvl cs 1 = cs.sum
  | [] => rfl
  | c :: cs => by
    show c + 1 * pvl cs 1 = (c :: cs).sum
    rw [pv_one cs, Int.one_mul, List.sum_cons]
theorem pv_append : ∀ (as bs : List Int) (x : Int), pvl (as ++ bs) x = pvl as x + x ^ as.length * pvl bs x
  | [], bs, x => by
    show pvl bs x = 0 + x ^ 0 * pvl bs x
    rw [Int.pow_zero, Int.one_mul, Int.zero_add]
  | a :: as, bs, x => by
    show a + x * pvl (as ++ bs) x = (a + x * pvl as x) + x ^ (as.length + 1) * pvl bs x
    rw [pv_append as bs x, Int.mul_add, Int.pow_succ, Int.mul_comm (x ^ as.length) x, Int.mul_assoc]
    omega
/-- the coefficients at 2 * t -/
def dbl : Nat → List Int → List Int
  | _, [] => []
  | i, c :: cs => c * 2 ^ i :: dbl (i + 1) cs
theorem pv_dbl (x : Int) : ∀ (cs : List Int) (i : Nat), pvl (dbl i cs) x = 2 ^ i * pvl cs (2 * x)
  | [], i => by show (0 : Int) = _ * 0; rw [Int.mul_zero]
  | c :: cs, i => by
    show c * 2 ^ i + x * pvl (dbl (i + 1) cs) x = 2 ^ i * (c + 2 * x * pvl cs (2 * x))
    rw [pv_dbl x cs (i + 1), Int.pow_succ, Int.mul_add, Int.mul_comm c]
    congr 1
    rw [Int.mul_left_comm x, Int.mul_assoc, Int.mul_assoc]
theorem dbl_len : ∀ (cs : List Int) (i : Nat), (dbl i cs).length = cs.length
  | [], _ => rfl
  | c :: cs, i => by show (dbl (i + 1) cs).length + 1 = _; rw [dbl_len cs]; rfl
theorem dbl_get : ∀ (cs : List Int) (i j : Nat), (dbl i cs)[j]? = cs[j]?.map (· * 2 ^ (i + j))
  | [], _, _ => rfl
  | c :: cs, i, 0 => rfl
  | c :: cs, i, j + 1 => by
    show (dbl (i + 1) cs)[j]? = cs[j]?.map _
    rw [dbl_get cs (i + 1) j, show i + 1 + j = i + (j + 1) by omega]
/-- the coefficients at t + 1 -/
def addL : List Int → List Int → List Int
  | [], bs => bs
  | as, [] => as
  | a :: as, b :: bs => (a + b) :: addL as bs
def shf : List Int → List Int
  | [] => []
  | c :: cs => addL (c :: shf cs) (shf cs ++ [0])
theorem addL_len : ∀ {as bs : List Int}, as.length = bs.length → (addL as bs).length = as.length
  | [], [], _ => rfl
  | a :: as, b :: bs, h => by show (addL as bs).length + 1 = _; rw [addL_len (by simpa using h)]; rfl
  | [], b :: bs, h => by simp at h
  | a :: as, [], h => by simp at h
theorem shf_len : ∀ cs : List Int, (shf cs).length = cs.length
  | [] => rfl
  | c :: cs => by
    show (addL (c :: shf cs) (shf cs ++ [0])).length = _
    rw [addL_len (by simp), List.length_cons, shf_len cs]; rfl
theorem pv_addL (x : Int) : ∀ {as bs : List Int}, as.length = bs.length → pvl (addL as bs) x = pvl as x + pvl bs x
  | [], [], _ => rfl
  | a :: as, b :: bs, h => by
    show (a + b) + x * pvl (addL as bs) x = (a + x * pvl as x) + (b + x * pvl bs x)
    rw [pv_addL x (by simpa using h), Int.mul_add]; omega
  | [], b :: bs, h => by simp at h
  | a :: as, [], h => by simp at h
theorem pv_shf (x : Int) : ∀ cs : List Int, pvl (shf cs) x = pvl cs (x + 1)
  | [] => rfl
  | c :: cs => by
    show pvl (addL (c :: shf cs) (shf cs ++ [0])) x = c + (x + 1) * pvl cs (x + 1)
    rw [pv_addL x (by simp), pv_append]
    show (c + x * pvl (shf cs) x) + (pvl (shf cs) x + x ^ _ * (0 + x * 0)) = _
    rw [pv_shf x cs, Int.mul_zero, Int.add_zero, Int.mul_zero, Int.add_mul, Int.one_mul]; omega
theorem addL_get : ∀ {as bs : List Int} {i : Nat} {c : Int}, as.length = bs.length → (addL as bs)[i]? = some c → ∃ a b, as[i]? = some a ∧ bs[i]? = some b ∧ c = a + b
  | [], [], _, _, _, h => by cases h
  | a :: as, b :: bs, 0, c, _, h => ⟨a, b, rfl, rfl, (Option.some.inj h).symm⟩
  | a :: as, b :: bs, i + 1, c, hl, h => addL_get (as := as) (bs := bs) (by simpa using hl) h
  | [], b :: bs, _, _, h, _ => by simp at h
  | a :: as, [], _, _, h, _ => by simp at h
theorem addL_of : ∀ {as bs : List Int} {i : Nat} {a b : Int}, as[i]? = some a → bs[i]? = some b → (addL as bs)[i]? = some (a + b)
  | [], _, _, _, _, h, _ => by cases h
  | a :: as, [], _, _, _, _, h => by cases h
  | a :: as, b :: bs, 0, _, _, h1, h2 => by
    obtain rfl := Option.some.inj h1
    obtain rfl := Option.some.inj h2
    rfl
  | a :: as, b :: bs, i + 1, _, _, h1, h2 => addL_of (as := as) (bs := bs) h1 h2
/-- sizes -/
theorem shf_bound {M : Nat} : ∀ {cs : List Int}, (∀ c ∈ cs, c.natAbs ≤ M) → ∀ c ∈ shf cs, c.natAbs ≤ 2 ^ cs.length * M
  | [], _, c, hc => by cases hc
  | d :: cs, h, c, hc => by
    obtain ⟨i, hi⟩ := List.getElem?_of_mem hc
    obtain ⟨a, b, ha, hb, rfl⟩ := addL_get (by simp) hi
    have ih := shf_bound (M := M) (cs := cs) (fun c hc => h c (List.mem_cons_of_mem _ hc))
    have p1 : 1 ≤ 2 ^ cs.length := Nat.one_le_two_pow
    have p2 : M ≤ 2 ^ cs.length * M := Nat.le_mul_of_pos_left M p1
    have ea : a.natAbs ≤ 2 ^ cs.length * M := by
      rcases List.mem_cons.mp (List.mem_of_getElem? ha) with e | e
      · rw [e]; exact Nat.le_trans (h d List.mem_cons_self) p2
      · exact ih a e
    have eb : b.natAbs ≤ 2 ^ cs.length * M := by
      rcases List.mem_append.mp (List.mem_of_getElem? hb) with e | e
      · exact ih b e
      · rw [List.mem_singleton.mp e]; exact Nat.zero_le _
    rw [List.length_cons, Nat.pow_succ, Nat.mul_comm (2 ^ cs.length) 2, Nat.mul_assoc]
    omega
/-- coefficients are told by values -/
theorem pv_uniq : ∀ {as bs : List Int}, as.length = bs.length → (∀ t : Int, t ≠ 0 → pvl as t = pvl bs t) → as = bs
  | [], [], _, _ => rfl
  | a :: as, b :: bs, hl, h => by
    have e : a = b := by
      obtain ⟨N, hN⟩ : ∃ N : Int, N = (a - b).natAbs + 1 := ⟨_, rfl⟩
      have hv : a + N * pvl as N = b + N * pvl bs N := h N (by omega)
      have d : N ∣ a - b := ⟨pvl bs N - pvl as N, by rw [Int.mul_sub]; omega⟩
      by_cases z : a - b = 0
      · omega
      · have h1 : N.natAbs ∣ (a - b).natAbs := Int.natAbs_dvd_natAbs.mpr d
        have := Nat.le_of_dvd (by omega) h1
        omega
    subst e
    congr 1
    refine pv_uniq (by simpa using hl) fun t ht => ?_
    have hv : a + t * pvl as t = a + t * pvl bs t := h t ht
    exact Int.eq_of_mul_eq_mul_left ht (by omega)
  | [], b :: bs, h, _ => by simp at h
  | a :: as, [], h, _ => by simp at h
theorem shf_uniq {cs ms : List Int} (hl : ms.length = cs.length) (h : ∀ t, pvl ms t = pvl cs (t + 1)) : ms = shf cs := pv_uniq (by rw [hl, shf_len]) fun t _ => by rw [h, pv_shf]
/-! ### parity -/
theorem shf_even_above {cs : List Int} {n : Nat} : (∀ (i : Nat) (c : Int), cs[i]? = some c → n < i → c % 2 = 0) → ∀ (i : Nat) (c : Int), (shf cs)[i]? = some c → n < i → c % 2 = 0 := by
  induction cs generalizing n with
  | nil => intro _ i c h; cases h
  | cons d cs ih =>
    intro h i c hi lt
    obtain ⟨a, b, ha, hb, rfl⟩ := addL_get (by simp) hi
    obtain ⟨j, rfl⟩ : ∃ j, i = j + 1 := ⟨i - 1, by omega⟩
    have ea : a % 2 = 0 := by
      cases n with
      | zero =>
        -- all of cs are even
        have all : ∀ (i : Nat) (c : Int), (shf cs)[i]? = some c → c % 2 = 0 := by
          have hc : ∀ c ∈ cs, c % 2 = 0 := fun c hc => by
            obtain ⟨i, hi⟩ := List.getElem?_of_mem hc
            exact h (i + 1) c hi (by omega)
          clear ih ha hb hi h
          induction cs with
          | nil => intro i c h; cases h
          | cons e cs ih2 =>
            intro i c hi
            obtain ⟨a, b, ha, hb, rfl⟩ := addL_get (by simp) hi
            have i2 := ih2 fun c hc' => hc c (List.mem_cons_of_mem _ hc')
            have x1 : a % 2 = 0 := by
              rcases List.mem_cons.mp (List.mem_of_getElem? ha) with z | z
              · rw [z]; exact hc e List.mem_cons_self
              · obtain ⟨u, hu⟩ := List.getElem?_of_mem z
                exact i2 u a hu
            have x2 : b % 2 = 0 := by
              rcases List.mem_append.mp (List.mem_of_getElem? hb) with z | z
              · obtain ⟨u, hu⟩ := List.getElem?_of_mem z
                exact i2 u b hu
              · rw [List.mem_singleton.mp z]; rfl
            omega
        exact all j a ha
      | succ n => exact ih (n := n) (fun i c hi lt => h (i + 1) c hi (by omega)) j a ha (by omega)
    have eb : b % 2 = 0 := by
      by_cases lt2 : j + 1 < (shf cs).length
      · rw [List.getElem?_append_left lt2] at hb
        cases n with
        | zero => exact ih (n := 0) (fun i c hi lt => h (i + 1) c hi (by omega)) (j + 1) b hb (by omega)
        | succ n => exact ih (n := n + 1) (fun i c hi lt => h (i + 1) c hi (by omega)) (j + 1) b hb (by omega)
      · rw [List.getElem?_append_right (by omega)] at hb
        have := List.mem_singleton.mp (List.mem_of_getElem? hb)
        rw [this]; rfl
    omega
theorem pv_even {cs : List Int} (h : ∀ c ∈ cs, c % 2 = 0) (x : Int) : pvl cs x % 2 = 0 := by
  induction cs with
  | nil => rfl
  | cons c cs ih =>
    have h1 := h c List.mem_cons_self
    have h2 := ih fun c hc => h c (List.mem_cons_of_mem _ hc)
    show (c + x * pvl cs x) % 2 = 0
    rw [Int.add_emod, h1, Int.mul_emod, h2, Int.mul_zero]; rfl
/-- the multiplicities of 0 and of 1, modulo 2, are together at most the degree -/
theorem mult_two : ∀ (m n : Nat) (cs : List Int) (c : Int), cs[m]? = some c → c % 2 = 1 → (∀ (i : Nat) (c : Int), cs[i]? = some c → n < i → c % 2 = 0) → (∀ (i : Nat) (c : Int), cs[i]? = some c → i < m → c % 2 = 0) →
    ∃ (j : Nat) (d : Int), j + m ≤ n ∧ (shf cs)[j]? = some d ∧ d % 2 = 1 ∧ ∀ (i : Nat) (e : Int), (shf cs)[i]? = some e → i < j → e % 2 = 0 := by
  -- a least odd one, where there is one at most n
  have least : ∀ (ds : List Int) (n : Nat), (¬ ∀ (i : Nat) (d : Int), ds[i]? = some d → i ≤ n → d % 2 = 0) → ∃ (j : Nat) (d : Int), j ≤ n ∧ ds[j]? = some d ∧ d % 2 = 1 ∧ ∀ (i : Nat) (e : Int), ds[i]? = some e → i < j → e % 2 = 0 := by
    intro ds n
    induction n with
    | zero =>
      intro h
      refine Classical.byContradiction fun no => h fun i d hi le => ?_
      obtain rfl : i = 0 := by omega
      rcases Int.emod_two_eq d with z | z
      · exact z
      · exact (no ⟨0, d, Nat.le_refl _, hi, z, fun i e _ lt => by omega⟩).elim
    | succ n ih =>
      intro h
      by_cases g : ∀ (i : Nat) (d : Int), ds[i]? = some d → i ≤ n → d % 2 = 0
      · refine Classical.byContradiction fun no => h fun i d hi le => ?_
        by_cases z : i ≤ n
        · exact g i d hi z
        · obtain rfl : i = n + 1 := by omega
          rcases Int.emod_two_eq d with z | z
          · exact z
          · exact (no ⟨n + 1, d, Nat.le_refl _, hi, z, fun i e he lt => g i e he (by omega)⟩).elim
      · obtain ⟨j, d, h1, h2⟩ := ih g
        exact ⟨j, d, by omega, h2⟩
  intro m
  induction m with
  | zero =>
    intro n cs c h0 co hi lo
    obtain ⟨j, d, h1, h2⟩ := least (shf cs) n fun all => by
      have ev := pv_even (cs := shf cs) (fun c hc => by
        obtain ⟨i, hi'⟩ := List.getElem?_of_mem hc
        by_cases z : i ≤ n
        · exact all i c hi' z
        · exact shf_even_above hi i c hi' (by omega)) (-1)
      rw [pv_shf, show (-1 : Int) + 1 = 0 from rfl, pv_zero] at ev
      cases cs with
      | nil => cases h0
      | cons a cs =>
        obtain rfl := Option.some.inj h0
        have ev : a % 2 = 0 := ev
        omega
    exact ⟨j, d, by omega, h2⟩
  | succ m ih =>
    intro n cs c hm co hi lo
    cases cs with
    | nil => cases hm
    | cons a cs =>
      have hm : cs[m]? = some c := hm
      have mn : m + 1 ≤ n := Nat.le_of_not_lt fun z => by
        have := hi (m + 1) c hm (by omega)
        omega
      obtain ⟨j, d, h1, h2, h3, h4⟩ := ih (n - 1) cs c hm co (fun i c hc lt => hi (i + 1) c hc (by omega)) (fun i c hc lt => lo (i + 1) c hc (by omega))
      have a0 : a % 2 = 0 := lo 0 a rfl (by omega)
      -- the entry ahead is even
      have jl : j < (shf cs).length := (List.getElem?_eq_some_iff.mp h2).1
      have get : ∀ (i : Nat), i < (shf cs).length → ∃ u v, (a :: shf cs)[i]? = some u ∧ (shf cs)[i]? = some v ∧ (shf (a :: cs))[i]? = some (u + v) := fun i hi => by
        have e2 : (shf cs ++ [0])[i]? = some ((shf cs)[i]) := by rw [List.getElem?_append_left hi]; exact List.getElem?_eq_getElem hi
        have e1 : (a :: shf cs)[i]? = some ((a :: shf cs)[i]'(by rw [List.length_cons]; omega)) := List.getElem?_eq_getElem _
        exact ⟨_, _, e1, List.getElem?_eq_getElem hi, addL_of e1 e2⟩
      have ahead : ∀ (i : Nat) (u : Int), (a :: shf cs)[i]? = some u → i ≤ j → u % 2 = 0 := fun i u hu le => by
        cases i with
        | zero => obtain rfl := Option.some.inj hu; exact a0
        | succ i => exact h4 i u hu (by omega)
      refine ⟨j, ?_⟩
      obtain ⟨u, v, e1, e2, e3⟩ := get j jl
      rw [h2] at e2
      obtain rfl := Option.some.inj e2
      refine ⟨_, by omega, e3, by have := ahead j u e1 (Nat.le_refl _); omega, fun i e he lt => ?_⟩
      obtain ⟨u, v, e1, e2, e3⟩ := get i (by omega)
      rw [e3] at he
      obtain rfl := Option.some.inj he
      have := ahead i u e1 (by omega)
      have := h4 i v e2 lt
      omega

/-! ### sums from each place on -/
def sfx : List Int → List Int
  | [] => []
  | c :: cs => (c + (sfx cs).headD 0) :: sfx cs
theorem sfx_len : ∀ cs : List Int, (sfx cs).length = cs.length
  | [] => rfl
  | c :: cs => by show (sfx cs).length + 1 = _; rw [sfx_len cs]; rfl
theorem pv_sfx (x : Int) : ∀ cs : List Int, pvl cs x = (sfx cs).headD 0 + (x - 1) * pvl (sfx cs).tail x
  | [] => by show (0 : Int) = 0 + (x - 1) * 0; rw [Int.mul_zero]; rfl
  | c :: cs => by
    have ih := pv_sfx x cs
    show c + x * pvl cs x = (c + (sfx cs).headD 0) + (x - 1) * pvl (sfx cs) x
    have e : pvl (sfx cs) x = (sfx cs).headD 0 + x * pvl (sfx cs).tail x := by
      cases sfx cs with
      | nil => show (0 : Int) = 0 + x * 0; rw [Int.mul_zero]; rfl
      | cons a l => rfl
    rw [e, ih, Int.mul_add, Int.mul_add, Int.sub_mul x 1 ((sfx cs).headD 0), Int.one_mul, Int.mul_left_comm (x - 1) x]
    omega
theorem set_mid {α : Type} : ∀ (pre : List α) (b v : α) (post : List α), (pre ++ b :: post).set pre.length v = pre ++ v :: post
  | [], _, _, _ => rfl
  | a :: pre, b, v, post => by show a :: (pre ++ b :: post).set pre.length v = _; rw [set_mid pre b v post]; rfl
abbrev sfxL (as bs : List Int) (j : Nat) : List Int := as ++ bs.take j ++ sfx (bs.drop j)
section
variable {as bs : List Int} {j : Nat}
theorem sfxL_pre (h : j < bs.length) : sfxL as bs (j + 1) = (as ++ bs.take j) ++ bs[j] :: sfx (bs.drop (j + 1)) := by
  unfold sfxL
  rw [List.take_add_one, List.getElem?_eq_getElem h, List.append_assoc as, List.append_assoc as]
  congr 1
  rw [List.append_assoc]; rfl
theorem pre_len (h : j < bs.length) : (as ++ bs.take j).length = as.length + j := by rw [List.length_append, List.length_take]; omega
theorem sfxL_at (h : j < bs.length) : (sfxL as bs (j + 1))[as.length + j]? = some bs[j] := by
  rw [sfxL_pre h, ← pre_len (as := as) h, List.getElem?_append_right (Nat.le_refl _), Nat.sub_self]; rfl
theorem sfxL_next (h : j + 1 < bs.length) : (sfxL as bs (j + 1))[as.length + j + 1]? = some ((sfx (bs.drop (j + 1))).headD 0) := by
  rw [sfxL_pre (by omega), List.getElem?_append_right (by rw [pre_len (by omega)]; omega), pre_len (by omega), show as.length + j + 1 - (as.length + j) = 1 by omega]
  show (sfx (bs.drop (j + 1)))[0]? = _
  have := sfx_len (bs.drop (j + 1))
  rw [List.length_drop] at this
  cases e : sfx (bs.drop (j + 1)) with
  | nil => rw [e] at this; simp at this; omega
  | cons a l => rfl
theorem sfxL_set (h : j < bs.length) : (sfxL as bs (j + 1)).set (as.length + j) (bs[j] + (sfx (bs.drop (j + 1))).headD 0) = sfxL as bs j := by
  rw [sfxL_pre h, ← pre_len (as := as) h, set_mid]
  unfold sfxL
  rw [List.drop_eq_getElem_cons h]; rfl
theorem sfxL_zero : sfxL as bs 0 = as ++ sfx bs := by unfold sfxL; simp
theorem sfxL_last (h : 0 < bs.length) : sfxL as bs (bs.length - 1) = as ++ bs := by
  unfold sfxL
  rw [List.drop_eq_getElem_cons (by omega : bs.length - 1 < bs.length), show bs.length - 1 + 1 = bs.length by omega, List.drop_length]
  show as ++ bs.take (bs.length - 1) ++ [bs[bs.length - 1] + 0] = _
  rw [Int.add_zero, List.append_assoc]
  congr 1
  have := List.take_append_drop (bs.length - 1) bs
  conv => rhs; rw [← this]
  rw [List.drop_eq_getElem_cons (by omega : bs.length - 1 < bs.length), show bs.length - 1 + 1 = bs.length by omega, List.drop_length]
end
end Fw
namespace Fw
/-! ### going down to the roots of a polynomial -/
structure NodeOk (bits : Nat) (P : List Int) (f : Int) (k : Nat) (cs : List Int) (l w : Nat) : Prop where
  f0 : 0 ≤ f
  f1 : f < 2 ^ k
  len : cs.length = P.length
  lv : (k = 0 ∧ l = bits) ∨ (1 ≤ k ∧ 1 ≤ l ∧ k + l ≤ bits + 1 ∧ ∀ c ∈ cs, c % 2 = 0)
  sem : ∀ t : Int, (2 : Int) ^ bits ∣ pvl P (f + 2 ^ k * t) ↔ (2 : Int) ^ l ∣ pvl cs t
  dg : ∀ (s i : Nat) (c : Int), s < l → (∀ d ∈ cs, (2 : Int) ^ s ∣ d) → cs[i]? = some c → ¬ (2 : Int) ^ (s + 1) ∣ c → i ≤ w
  w1 : 1 ≤ w
theorem pw_split {s l : Nat} (h : s ≤ l) : (2 : Int) ^ l = 2 ^ s * 2 ^ (l - s) := by rw [← Int.pow_add]; congr 1; omega
theorem dvd_cut {s l : Nat} (h : s ≤ l) (z : Int) : (2 : Int) ^ l ∣ 2 ^ s * z ↔ (2 : Int) ^ (l - s) ∣ z := by
  rw [pw_split h]
  exact ⟨fun ⟨c, hc⟩ => ⟨c, by rw [Int.mul_assoc] at hc; exact Int.eq_of_mul_eq_mul_left (Int.ne_of_gt (gpos s)) hc⟩, fun h => Int.mul_dvd_mul (Int.dvd_refl _) h⟩
section
variable {bits k l w : Nat} {P cs : List Int} {f : Int}
theorem NodeOk.deep (h : NodeOk bits P f k cs l w) : k ≤ bits := by
  rcases h.lv with ⟨a, _⟩ | ⟨_, _, _, _⟩ <;> omega
theorem NodeOk.zero (h : NodeOk bits P f k cs l w) (z : ∀ c ∈ cs, (2 : Int) ^ l ∣ c) {x : Int} (hx : (2 : Int) ^ k ∣ x - f) : (2 : Int) ^ bits ∣ pvl P x := by
  obtain ⟨t, ht⟩ := hx
  rw [show x = f + 2 ^ k * t by omega, h.sem]
  have : ∀ (cs : List Int) (x : Int), (∀ c ∈ cs, (2 : Int) ^ l ∣ c) → (2 : Int) ^ l ∣ pvl cs x := fun cs x z => by
    induction cs with
    | nil => exact Int.dvd_zero _
    | cons c cs ih => exact Int.dvd_add (z c List.mem_cons_self) (Int.dvd_trans (ih fun c hc => z c (List.mem_cons_of_mem _ hc)) (Int.dvd_mul_left _ _))
  exact this cs t z
theorem red_dvd {s : Nat} (sl : s < l) (hs : ∀ c ∈ cs, (2 : Int) ^ s ∣ c % 2 ^ l) (t : Int) : (2 : Int) ^ l ∣ pvl cs t ↔ (2 : Int) ^ (l - s) ∣ pvl (cs.map fun c => c % 2 ^ l / 2 ^ s) t := by
  have e : cs.map (· % 2 ^ l) = (cs.map fun c => c % 2 ^ l / 2 ^ s).map ((2 : Int) ^ s * ·) := by
    rw [List.map_map]
    refine List.map_congr_left fun c hc => ?_
    show c % 2 ^ l = 2 ^ s * (c % 2 ^ l / 2 ^ s)
    exact (Int.mul_ediv_cancel' (hs c hc)).symm
  have h1 := pv_map_mod (S := (2 : Int) ^ l) cs t
  rw [e, pv_mul] at h1
  rw [← dvd_cut (Nat.le_of_lt sl)]
  exact ⟨fun h => by rw [show (2 : Int) ^ s * pvl (cs.map fun c => c % 2 ^ l / 2 ^ s) t = (2 ^ s * pvl (cs.map fun c => c % 2 ^ l / 2 ^ s) t - pvl cs t) + pvl cs t by omega]; exact Int.dvd_add h1 h,
    fun h => by rw [show pvl cs t = 2 ^ s * pvl (cs.map fun c => c % 2 ^ l / 2 ^ s) t - (2 ^ s * pvl (cs.map fun c => c % 2 ^ l / 2 ^ s) t - pvl cs t) by omega]; exact Int.dvd_sub h h1⟩
theorem dbl_deg {red : List Int} {l' m : Nat} {c : Int} (hm : red[m]? = some c) (co : c % 2 = 1) (s i : Nat) (d : Int) (_ : s < l') (all : ∀ d ∈ dbl 0 red, (2 : Int) ^ s ∣ d) (hi : (dbl 0 red)[i]? = some d) (nd : ¬ (2 : Int) ^ (s + 1) ∣ d) : i ≤ m := by
  have sm : s ≤ m := by
    refine Nat.le_of_not_lt fun z => ?_
    have h := all (c * 2 ^ m) (List.mem_of_getElem? (i := m) (by rw [dbl_get, hm, Nat.zero_add]; rfl))
    obtain ⟨q, hq⟩ := Int.dvd_trans (gpp (show m + 1 ≤ s by omega)) h
    have : c = 2 * q := by
      have hp := gpos m
      have : (2 : Int) ^ m * c = 2 ^ m * (2 * q) := by
        rw [Int.mul_comm, hq, Int.pow_succ, Int.mul_assoc]
      exact Int.eq_of_mul_eq_mul_left (Int.ne_of_gt hp) this
    omega
  refine Nat.le_trans (Nat.le_of_not_lt fun z => nd ?_) sm
  rw [dbl_get, Nat.zero_add] at hi
  obtain ⟨e, he, rfl⟩ := Option.map_eq_some_iff.mp hi
  exact Int.dvd_trans (gpp z) (Int.dvd_mul_left _ _)
theorem dbl_even {red : List Int} (h : pvl red 0 % 2 = 0) : ∀ c ∈ dbl 0 red, c % 2 = 0 := fun c hc => by
  obtain ⟨i, hi⟩ := List.getElem?_of_mem hc
  rw [dbl_get, Nat.zero_add] at hi
  obtain ⟨e, he, rfl⟩ := Option.map_eq_some_iff.mp hi
  cases i with
  | zero =>
    cases red with
    | nil => cases he
    | cons a red =>
      obtain rfl := Option.some.inj he
      rw [pv_zero] at h
      show a * 1 % 2 = 0
      rw [Int.mul_one]; exact h
  | succ i => rw [Int.pow_succ, ← Int.mul_assoc, Int.mul_emod_left]
theorem lo_ex {red : List Int} (h : ∃ c ∈ red, c % 2 = 1) : ∃ (m : Nat) (c : Int), red[m]? = some c ∧ c % 2 = 1 ∧ ∀ (i : Nat) (e : Int), red[i]? = some e → i < m → e % 2 = 0 := by
  induction red with
  | nil => obtain ⟨c, hc, _⟩ := h; cases hc
  | cons a red ih =>
    rcases Int.emod_two_eq a with z | z
    · obtain ⟨m, c, h1, h2, h3⟩ := ih (by
        obtain ⟨c, hc, co⟩ := h
        rcases List.mem_cons.mp hc with e | e
        · rw [e] at co; omega
        · exact ⟨c, e, co⟩)
      refine ⟨m + 1, c, h1, h2, fun i e he lt => ?_⟩
      cases i with
      | zero => obtain rfl := Option.some.inj he; exact z
      | succ i => exact h3 i e he (by omega)
    · exact ⟨0, a, rfl, z, fun i e _ lt => by omega⟩
theorem NodeOk.half (h : NodeOk bits P f k cs l w) {s : Nat} (sl : s < l) (hs : ∀ c ∈ cs, (2 : Int) ^ s ∣ c % 2 ^ l) (ho : ∃ c ∈ cs, ¬ (2 : Int) ^ (s + 1) ∣ c % 2 ^ l) {red : List Int} (hr : red = cs.map fun c => c % 2 ^ l / 2 ^ s) :
    ∃ m0 m1, m0 + m1 ≤ w ∧ (pvl red 0 % 2 = 0 → NodeOk bits P f (k + 1) (dbl 0 red) (l - s) m0) ∧ (pvl red 1 % 2 = 0 → NodeOk bits P (f + 2 ^ k) (k + 1) (dbl 0 (shf red)) (l - s) m1) ∧ ∀ t, (2 : Int) ^ l ∣ pvl cs t → pvl red t % 2 = 0 := by
  have rl : red.length = cs.length := by rw [hr, List.length_map]
  have rget : ∀ (i : Nat) (d : Int), red[i]? = some d → ∃ c, cs[i]? = some c ∧ c ∈ cs ∧ c % 2 ^ l = 2 ^ s * d := fun i d hd => by
    rw [hr, List.getElem?_map] at hd
    obtain ⟨c, hc, rfl⟩ := Option.map_eq_some_iff.mp hd
    have := List.mem_of_getElem? hc
    exact ⟨c, hc, this, (Int.mul_ediv_cancel' (hs c this)).symm⟩
  have sem : ∀ t, (2 : Int) ^ l ∣ pvl cs t ↔ (2 : Int) ^ (l - s) ∣ pvl red t := fun t => by rw [hr]; exact red_dvd sl hs t
  -- an odd one
  have ex : ∃ c ∈ red, c % 2 = 1 := by
    obtain ⟨c, hc, nd⟩ := ho
    obtain ⟨i, hi⟩ := List.getElem?_of_mem hc
    refine ⟨c % 2 ^ l / 2 ^ s, by rw [hr]; exact List.mem_map.mpr ⟨c, hc, rfl⟩, ?_⟩
    rcases Int.emod_two_eq (c % 2 ^ l / 2 ^ s) with z | z
    · refine absurd ?_ nd
      rw [← Int.mul_ediv_cancel' (hs c hc), Int.pow_succ]
      exact Int.mul_dvd_mul (Int.dvd_refl _) (Int.dvd_of_emod_eq_zero z)
    · exact z
  have hi : ∀ (i : Nat) (c : Int), red[i]? = some c → w < i → c % 2 = 0 := fun i d hd lt => by
    rcases Int.emod_two_eq d with z | z
    · exact z
    · obtain ⟨c, hc, hm, e⟩ := rget i d hd
      have cd : ∀ d ∈ cs, (2 : Int) ^ s ∣ d := fun d hd => by
        have h1 := hs d hd
        have h2 : (2 : Int) ^ s ∣ d - d % 2 ^ l := Int.dvd_trans (gpp (Nat.le_of_lt sl)) Int.dvd_self_sub_emod
        rw [show d = (d - d % 2 ^ l) + d % 2 ^ l by omega]
        exact Int.dvd_add h2 h1
      have := h.dg s i c sl cd hc fun y => by
        have h2 : (2 : Int) ^ (s + 1) ∣ c - c % 2 ^ l := Int.dvd_trans (gpp sl) Int.dvd_self_sub_emod
        have h3 := Int.dvd_sub y h2
        rw [show c - (c - c % 2 ^ l) = c % 2 ^ l by omega, e, Int.pow_succ] at h3
        obtain ⟨q, hq⟩ := h3
        rw [Int.mul_assoc] at hq
        have := Int.eq_of_mul_eq_mul_left (Int.ne_of_gt (gpos s)) hq
        omega
      omega
  obtain ⟨m0, c0, hm0, o0, lo0⟩ := lo_ex ex
  obtain ⟨m1, d1, le, hm1, o1, _⟩ := mult_two m0 w red c0 hm0 o0 hi lo0
  have k2 : (2 : Int) ^ (k + 1) = 2 ^ k * 2 := Int.pow_succ _ _
  have kp := gpos k
  have lvl : ∀ red' : List Int, pvl red' 0 % 2 = 0 → (k + 1 = 0 ∧ l - s = bits) ∨ (1 ≤ k + 1 ∧ 1 ≤ l - s ∧ k + 1 + (l - s) ≤ bits + 1 ∧ ∀ c ∈ dbl 0 red', c % 2 = 0) := fun red' ev => by
    refine .inr ⟨by omega, by omega, ?_, dbl_even ev⟩
    rcases h.lv with ⟨rfl, rfl⟩ | ⟨k1, l1, kl, evs⟩
    · omega
    · have s1 : 1 ≤ s := by
        refine Nat.pos_of_ne_zero fun z => ?_
        subst z
        obtain ⟨c, hc, nd⟩ := ho
        refine nd ?_
        have h2 : (2 : Int) ^ (0 + 1) ∣ c - c % 2 ^ l := Int.dvd_trans (gpp (by omega)) Int.dvd_self_sub_emod
        have h3 : (2 : Int) ^ (0 + 1) ∣ c := Int.dvd_of_emod_eq_zero (evs c hc)
        have := Int.dvd_sub h3 h2
        rw [show c - (c - c % 2 ^ l) = c % 2 ^ l by omega] at this
        exact this
      omega
  refine ⟨m0, m1, by omega, fun ev => ⟨h.f0, by rw [k2]; have := h.f1; omega, by rw [dbl_len, rl, h.len], lvl red ev, fun t => ?_, dbl_deg hm0 o0, ?_⟩, fun ev => ?_, fun t ht => ?_⟩
  · rw [pv_dbl, Int.pow_zero, Int.one_mul, ← sem, ← h.sem, k2, Int.mul_assoc]
  · refine Nat.pos_of_ne_zero fun z => ?_
    subst z
    cases red with
    | nil => cases hm0
    | cons a red =>
      obtain rfl := Option.some.inj hm0
      rw [pv_zero] at ev
      have ev : a % 2 = 0 := ev
      omega
  · have ev' : pvl (shf red) 0 % 2 = 0 := by rw [pv_shf]; exact ev
    refine ⟨by have := h.f0; omega, by rw [k2]; have := h.f1; omega, by rw [dbl_len, shf_len, rl, h.len], lvl _ ev', fun t => ?_, dbl_deg hm1 o1, ?_⟩
    · rw [pv_dbl, Int.pow_zero, Int.one_mul, pv_shf, ← sem, ← h.sem]
      rw [show f + 2 ^ k + 2 ^ (k + 1) * t = f + 2 ^ k * (2 * t + 1) by rw [k2, Int.mul_add, Int.mul_one, Int.mul_assoc]; omega]
    · refine Nat.pos_of_ne_zero fun z => ?_
      subst z
      cases e : shf red with
      | nil => rw [e] at hm1; cases hm1
      | cons a r =>
        rw [e] at hm1 ev'
        obtain rfl := Option.some.inj hm1
        rw [pv_zero] at ev'
        have ev' : a % 2 = 0 := ev'
        omega
  · have := Int.dvd_trans (gpp (show 1 ≤ l - s by omega)) ((sem t).mp ht)
    rw [Int.pow_one] at this
    exact Int.emod_eq_zero_of_dvd this
end
/-! ### all nodes and families at once -/
theorem cntF_appL (y : Int) (fl gl : FL) : cntF y (fl ++ gl) = cntF y fl + cntF y gl := by
  unfold cntF; rw [List.filter_append, List.length_append]
theorem cntF_consL (y : Int) (p : Int × Nat) (fl : FL) : cntF y (p :: fl) = (if (y - p.1) % 2 ^ p.2 = 0 then 1 else 0) + cntF y fl := by
  have := cntF_appL y [p] fl
  have e : cntF y [p] = if (y - p.1) % 2 ^ p.2 = 0 then 1 else 0 := by
    have := cntF_app y [] p
    rw [List.nil_append] at this
    rw [this]
    show 0 + _ = _
    omega
  rw [← e, ← this]; rfl
theorem cntF_nil (y : Int) : cntF y [] = 0 := rfl
structure Nd where
  f : Int
  k : Nat
  cs : List Int
  l : Nat
  w : Nat
abbrev Nd.ball (n : Nd) : Int × Nat := (n.f, n.k)
abbrev NOk (bits : Nat) (P : List Int) (n : Nd) : Prop := NodeOk bits P n.f n.k n.cs n.l n.w
abbrev ballsN (ns : List Nd) : FL := ns.map Nd.ball
/-- what is found, what waits (of level K), and what is ahead (of level K + 1) -/
structure RInv (bits : Nat) (P : List Int) (K : Nat) (fl : FL) (bl ns : List Nd) : Prop where
  okb : ∀ n ∈ bl, NOk bits P n ∧ n.k = K + 1
  okn : ∀ n ∈ ns, NOk bits P n ∧ n.k = K
  wt : (bl.map Nd.w).sum + (ns.map Nd.w).sum ≤ 8
  fok : ∀ p ∈ fl, 0 ≤ p.1 ∧ p.1 < 2 ^ p.2 ∧ p.2 ≤ bits ∧ ∀ x, (2 : Int) ^ p.2 ∣ x - p.1 → (2 : Int) ^ bits ∣ pvl P x
  dis : ∀ x, cntF x fl + cntF x (ballsN bl) + cntF x (ballsN ns) ≤ 1
  cov : ∀ x, (2 : Int) ^ bits ∣ pvl P x → 1 ≤ cntF x fl + cntF x (ballsN bl) + cntF x (ballsN ns)
section
variable {bits K : Nat} {P : List Int} {fl : FL} {bl ns : List Nd} {n : Nd}
theorem wt_len {L : List Nd} (h : ∀ n ∈ L, 1 ≤ n.w) : L.length ≤ (L.map Nd.w).sum := by
  induction L with
  | nil => exact Nat.le_refl _
  | cons n L ih =>
    rw [List.map_cons, List.sum_cons, List.length_cons]
    have := h n List.mem_cons_self
    have := ih fun n hn => h n (List.mem_cons_of_mem _ hn)
    omega
theorem RInv.few (r : RInv bits P K fl bl ns) : bl.length + ns.length ≤ 8 := by
  have h1 := wt_len fun n hn => (r.okb n hn).1.w1
  have h2 := wt_len fun n hn => (r.okn n hn).1.w1
  have := r.wt
  omega
/-- a node all of whose numbers are roots -/
theorem RInv.found (r : RInv bits P K fl bl (n :: ns)) (z : ∀ c ∈ n.cs, (2 : Int) ^ n.l ∣ c) : RInv bits P K (fl ++ [(n.f, n.k)]) bl ns where
  okb := r.okb
  okn := fun m hm => r.okn m (List.mem_cons_of_mem _ hm)
  wt := by have := r.wt; rw [List.map_cons, List.sum_cons] at this; omega
  fok := fun p hp => by
    rcases List.mem_append.mp hp with hp | hp
    · exact r.fok p hp
    · rw [List.mem_singleton.mp hp]
      have o := (r.okn n List.mem_cons_self).1
      exact ⟨o.f0, o.f1, o.deep, fun x hx => o.zero z hx⟩
  dis := fun x => by
    have := r.dis x
    rw [show ballsN (n :: ns) = (n.f, n.k) :: ballsN ns from rfl, cntF_consL] at this
    rw [cntF_app]; omega
  cov := fun x hx => by
    have := r.cov x hx
    rw [show ballsN (n :: ns) = (n.f, n.k) :: ballsN ns from rfl, cntF_consL] at this
    rw [cntF_app]; omega
/-- a node that is left for the halves below it -/
theorem RInv.go (r : RInv bits P K fl bl (n :: ns)) {s : Nat} (sl : s < n.l) (hs : ∀ c ∈ n.cs, (2 : Int) ^ s ∣ c % 2 ^ n.l) (ho : ∃ c ∈ n.cs, ¬ (2 : Int) ^ (s + 1) ∣ c % 2 ^ n.l) {red : List Int} (hr : red = n.cs.map fun c => c % 2 ^ n.l / 2 ^ s) :
    ∃ m0 m1, RInv bits P K fl (bl ++ ((if pvl red 0 % 2 = 0 then [⟨n.f, n.k + 1, dbl 0 red, n.l - s, m0⟩] else []) ++ (if pvl red 1 % 2 = 0 then [⟨n.f + 2 ^ n.k, n.k + 1, dbl 0 (shf red), n.l - s, m1⟩] else []))) ns := by
  obtain ⟨o, ok⟩ := r.okn n List.mem_cons_self
  obtain ⟨m0, m1, le, h0, h1, ev⟩ := o.half sl hs ho hr
  have wt := r.wt
  rw [List.map_cons, List.sum_cons] at wt
  -- the halves at a number
  have cnt : ∀ x, cntF x (ballsN ((if pvl red 0 % 2 = 0 then [⟨n.f, n.k + 1, dbl 0 red, n.l - s, m0⟩] else []) ++ (if pvl red 1 % 2 = 0 then [⟨n.f + 2 ^ n.k, n.k + 1, dbl 0 (shf red), n.l - s, m1⟩] else []))) ≤ (if (x - n.f) % 2 ^ n.k = 0 then 1 else 0) ∧
      ((2 : Int) ^ bits ∣ pvl P x → (if (x - n.f) % 2 ^ n.k = 0 then 1 else 0) ≤ cntF x (ballsN ((if pvl red 0 % 2 = 0 then [⟨n.f, n.k + 1, dbl 0 red, n.l - s, m0⟩] else []) ++ (if pvl red 1 % 2 = 0 then [⟨n.f + 2 ^ n.k, n.k + 1, dbl 0 (shf red), n.l - s, m1⟩] else [])))) := fun x => by
    have c0 : cntF x (ballsN (if pvl red 0 % 2 = 0 then [⟨n.f, n.k + 1, dbl 0 red, n.l - s, m0⟩] else [])) = if pvl red 0 % 2 = 0 ∧ (x - n.f) % 2 ^ (n.k + 1) = 0 then 1 else 0 := by
      by_cases z : pvl red 0 % 2 = 0
      · rw [if_pos z]
        show cntF x [(n.f, n.k + 1)] = _
        rw [cntF_consL, cntF_nil, Nat.add_zero]
        simp [z]
      · rw [if_neg z, if_neg fun y => z y.1]; rfl
    have c1 : cntF x (ballsN (if pvl red 1 % 2 = 0 then [⟨n.f + 2 ^ n.k, n.k + 1, dbl 0 (shf red), n.l - s, m1⟩] else [])) = if pvl red 1 % 2 = 0 ∧ (x - (n.f + 2 ^ n.k)) % 2 ^ (n.k + 1) = 0 then 1 else 0 := by
      by_cases z : pvl red 1 % 2 = 0
      · rw [if_pos z]
        show cntF x [(n.f + 2 ^ n.k, n.k + 1)] = _
        rw [cntF_consL, cntF_nil, Nat.add_zero]
        simp [z]
      · rw [if_neg z, if_neg fun y => z y.1]; rfl
    rw [show ∀ a b : List Nd, ballsN (a ++ b) = ballsN a ++ ballsN b from fun a b => List.map_append, cntF_appL, c0, c1]
    have hv := halves (k := n.k + 1) (by omega) x n.f
    rw [Nat.add_sub_cancel] at hv
    have dz : ∀ {k : Nat} {y : Int}, y % 2 ^ k = 0 ↔ (2 : Int) ^ k ∣ y := fun {k y} => ⟨Int.dvd_of_emod_eq_zero, Int.emod_eq_zero_of_dvd⟩
    have ap : ¬ ((2 : Int) ^ (n.k + 1) ∣ x - n.f ∧ (2 : Int) ^ (n.k + 1) ∣ x - (n.f + 2 ^ n.k)) := fun ⟨a, b⟩ => by
      have := Int.dvd_sub a b
      rw [show x - n.f - (x - (n.f + 2 ^ n.k)) = 2 ^ n.k by omega, Int.pow_succ] at this
      obtain ⟨c, hc⟩ := this
      have hp := gpos n.k
      rw [Int.mul_assoc] at hc
      have := Int.eq_of_mul_eq_mul_left (Int.ne_of_gt hp) (show (2 : Int) ^ n.k * 1 = 2 ^ n.k * (2 * c) by rw [Int.mul_one]; exact hc)
      omega
    constructor
    · by_cases z : (x - n.f) % 2 ^ n.k = 0
      · rw [if_pos z]
        by_cases y0 : pvl red 0 % 2 = 0 ∧ (x - n.f) % 2 ^ (n.k + 1) = 0
        · rw [if_pos y0, if_neg fun y1 => ap ⟨dz.mp y0.2, dz.mp y1.2⟩]; omega
        · rw [if_neg y0]; split <;> omega
      · have : ¬ ((2 : Int) ^ (n.k + 1) ∣ x - n.f ∨ (2 : Int) ^ (n.k + 1) ∣ x - (n.f + 2 ^ n.k)) := fun y => z (dz.mpr (hv.mpr y))
        rw [if_neg z, if_neg fun y => this (.inl (dz.mp y.2)), if_neg fun y => this (.inr (dz.mp y.2))]; omega
    · intro hx
      split
      · rename_i z
        obtain ⟨t, ht⟩ := dz.mp z
        have rt := (o.sem t).mp (by rw [← ht, show n.f + (x - n.f) = x by omega]; exact hx)
        have e0 := ev t rt
        have k2 : (2 : Int) ^ (n.k + 1) = 2 ^ n.k * 2 := Int.pow_succ _ _
        rcases Int.emod_two_eq t with te | te
        · have : pvl red 0 % 2 = 0 := by
            have := pv_congx (S := 2) red (x := t) (y := 0) (Int.dvd_of_emod_eq_zero (by omega))
            have := Int.emod_eq_zero_of_dvd this
            omega
          rw [if_pos ⟨this, dz.mpr (by rw [ht, k2]; exact Int.mul_dvd_mul (Int.dvd_refl _) (Int.dvd_of_emod_eq_zero te))⟩]; omega
        · have : pvl red 1 % 2 = 0 := by
            have := pv_congx (S := 2) red (x := t) (y := 1) (Int.dvd_of_emod_eq_zero (by omega))
            have := Int.emod_eq_zero_of_dvd this
            omega
          rw [if_pos (c := pvl red 1 % 2 = 0 ∧ (x - (n.f + 2 ^ n.k)) % 2 ^ (n.k + 1) = 0) ⟨this, dz.mpr (by
            rw [show x - (n.f + 2 ^ n.k) = 2 ^ n.k * (t - 1) by rw [Int.mul_sub, Int.mul_one]; omega, k2]
            exact Int.mul_dvd_mul (Int.dvd_refl _) (Int.dvd_of_emod_eq_zero (by omega)))⟩]; omega
      · omega
  refine ⟨m0, m1, ?_, fun m hm => r.okn m (List.mem_cons_of_mem _ hm), ?_, r.fok, fun x => ?_, fun x hx => ?_⟩
  · intro m hm
    rcases List.mem_append.mp hm with hm | hm
    · exact r.okb m hm
    rcases List.mem_append.mp hm with hm | hm
    · split at hm
      · rename_i z
        rw [List.mem_singleton.mp hm]
        exact ⟨h0 z, by rw [ok]⟩
      · cases hm
    · split at hm
      · rename_i z
        rw [List.mem_singleton.mp hm]
        exact ⟨h1 z, by rw [ok]⟩
      · cases hm
  · rw [List.map_append, List.map_append, List.sum_append, List.sum_append]
    have s0 : ((if pvl red 0 % 2 = 0 then [(⟨n.f, n.k + 1, dbl 0 red, n.l - s, m0⟩ : Nd)] else []).map Nd.w).sum ≤ m0 := by
      split
      · exact Nat.le_refl _
      · exact Nat.zero_le _
    have s1 : ((if pvl red 1 % 2 = 0 then [(⟨n.f + 2 ^ n.k, n.k + 1, dbl 0 (shf red), n.l - s, m1⟩ : Nd)] else []).map Nd.w).sum ≤ m1 := by
      split
      · exact Nat.le_refl _
      · exact Nat.zero_le _
    omega
  · have := r.dis x
    rw [show ballsN (n :: ns) = (n.f, n.k) :: ballsN ns from rfl, cntF_consL] at this
    rw [show ∀ a b : List Nd, ballsN (a ++ b) = ballsN a ++ ballsN b from fun a b => List.map_append, cntF_appL]
    dsimp only at this
    have := (cnt x).1
    omega
  · have := r.cov x hx
    rw [show ballsN (n :: ns) = (n.f, n.k) :: ballsN ns from rfl, cntF_consL] at this
    rw [show ∀ a b : List Nd, ballsN (a ++ b) = ballsN a ++ ballsN b from fun a b => List.map_append, cntF_appL]
    dsimp only at this
    have := (cnt x).2 hx
    omega
theorem RInv.next (r : RInv bits P K fl bl []) : RInv bits P (K + 1) fl [] bl where
  okb := fun n hn => by cases hn
  okn := r.okb
  wt := by have := r.wt; rw [List.map_nil, List.sum_nil] at this ⊢; omega
  fok := r.fok
  dis := fun x => by have := r.dis x; rw [show ballsN [] = [] from rfl, cntF_nil] at this ⊢; omega
  cov := fun x hx => by have := r.cov x hx; rw [show ballsN [] = [] from rfl, cntF_nil] at this ⊢; omega
theorem RInv.start (hP : P.length ≤ 9) : RInv bits P 0 [] [] [⟨0, 0, P, bits, 8⟩] where
  okb := fun n hn => by cases hn
  okn := fun n hn => by
    rw [List.mem_singleton.mp hn]
    refine ⟨⟨Int.le_refl _, (by decide : (0 : Int) < 2 ^ 0), rfl, .inl ⟨rfl, rfl⟩, fun t => ?_, fun s i c _ _ hi _ => ?_, (by decide : 1 ≤ 8)⟩, rfl⟩
    · rw [Int.zero_add, Int.pow_zero, Int.one_mul]
    · have hi : P[i]? = some c := hi
      have := (List.getElem?_eq_some_iff.mp hi).1
      show i ≤ 8
      omega
  wt := Nat.le_refl 8
  fok := fun p hp => by cases hp
  dis := fun x => by
    show cntF x [] + cntF x [] + cntF x [(0, 0)] ≤ 1
    rw [cntF_consL, cntF_nil]
    split <;> omega
  cov := fun x _ => by
    show 1 ≤ cntF x [] + cntF x [] + cntF x [(0, 0)]
    rw [cntF_consL, cntF_nil, if_pos (by show (x - 0) % 2 ^ 0 = 0; rw [Int.pow_zero]; omega)]
    omega
theorem RInv.deep (r : RInv bits P K fl bl (n :: ns)) : K ≤ bits := by
  obtain ⟨o, e⟩ := r.okn n List.mem_cons_self
  rw [← e]; exact o.deep
theorem cntF_mem {x : Int} {fl : FL} : 1 ≤ cntF x fl ↔ Cover (famL fl) x := by
  unfold cntF
  constructor
  · intro h
    obtain ⟨p, hp⟩ := List.exists_mem_of_length_pos h
    obtain ⟨h1, h2⟩ := List.mem_filter.mp hp
    exact ⟨p.1, p.2, h1, Int.dvd_of_emod_eq_zero (of_decide_eq_true h2)⟩
  · rintro ⟨f, e, hm, hd⟩
    exact List.length_pos_of_mem (List.mem_filter.mpr ⟨hm, decide_eq_true (Int.emod_eq_zero_of_dvd hd)⟩)
/-- at the end: all roots, each in one family -/
theorem RInv.fin (r : RInv bits P K fl [] []) : WfF bits (famL fl) ∧ Apart (famL fl) ∧ ∀ x, Cover (famL fl) x ↔ (2 : Int) ^ bits ∣ pvl P x := by
  have c1 : ∀ x, cntF x fl ≤ 1 := fun x => by have := r.dis x; omega
  refine ⟨fun f e h => ?_, fun f e g d x h1 h2 d1 d2 => ?_, fun x => ⟨fun ⟨f, e, hm, hd⟩ => (r.fok _ hm).2.2.2 x hd, fun hx => ?_⟩⟩
  · obtain ⟨a, b, c, _⟩ := r.fok _ h
    exact ⟨a, b, c⟩
  · have l := c1 x
    have m1 : (f, e) ∈ fl.filter fun p => decide ((x - p.1) % 2 ^ p.2 = 0) := List.mem_filter.mpr ⟨h1, decide_eq_true (Int.emod_eq_zero_of_dvd d1)⟩
    have m2 : (g, d) ∈ fl.filter fun p => decide ((x - p.1) % 2 ^ p.2 = 0) := List.mem_filter.mpr ⟨h2, decide_eq_true (Int.emod_eq_zero_of_dvd d2)⟩
    unfold cntF at l
    revert m1 m2 l
    generalize fl.filter (fun p => decide ((x - p.1) % 2 ^ p.2 = 0)) = gl
    intro l m1 m2
    match gl, l with
    | [], _ => cases m1
    | [y], _ =>
      have := (List.mem_singleton.mp m1).trans (List.mem_singleton.mp m2).symm
      exact Prod.mk.inj this
  · have := r.cov x hx
    exact cntF_mem.mp (by have e : cntF x (ballsN []) = 0 := rfl; rw [e] at this; omega)
end
end Fw
namespace Fw
open L2
open PySem PySem.Spec PyProof.Rows
theorem vals_ints : ∀ {ns : List Int} {us : List Value}, Vals (ns.map V.int) us → ∃ ts : List Tok, ts.length = ns.length ∧ us = (ns.zip ts).map fun p => Value.int p.1 p.2
  | [], _, .nil => ⟨[], rfl, rfl⟩
  | n :: ns, _, .cons r t => by
    obtain ⟨k, rfl⟩ := r
    obtain ⟨ts, h1, rfl⟩ := vals_ints t
    exact ⟨k :: ts, by rw [List.length_cons, h1]; rfl, rfl⟩
theorem truth_ints {prog : Program} {w : World} {A : Around} {ns : List Int} {ts : List Tok} {its : List Value} (hl : ts.length = ns.length) (e : its = (ns.zip ts).map fun p => Value.int p.1 p.2) :
    TruthOf prog w A (fun i v => its.toArray[i]? = some v) (fun i => (ns.map fun n => n != 0).getD i false) := fun i v s Q E hv hq => by
  have hv' : its[i]? = some v := by simpa using hv
  rw [e, List.getElem?_map] at hv'
  obtain ⟨p, hp, rfl⟩ := Option.map_eq_some_iff.mp hv'
  rw [List.getElem?_zip_eq_some] at hp
  have hg : (ns.map fun n => n != 0).getD i false = (p.1 != 0) := by rw [List.getD_eq_getElem?_getD, List.getElem?_map, hp.1]; rfl
  have hq' : Q ((ns.map fun n => n != 0).getD i false) s := hq
  rw [hg] at hq'
  exact truthy_int hq'
section
variable {X : Cx}
/-- any(xs), xs a list of ints -/
def rAnyI (K : PySem.W.Frag) : List V → Hp → VK → Prop := fun vs H Q => ∃ (a : Addr) (ns : List Int), vs = [V.ref a] ∧ SqL K H a (ns.map V.int) ∧ Q (.bl (ns.any fun n => n != 0)) H
theorem cr_anyI (hc : X.calm = true) : CallR X (.builtin "any") (rAnyI X.K) := by
  intro pins s σ H vs us Q I r h
  obtain ⟨a, ns, rfl, hs, q⟩ := h
  obtain ⟨its, rv, hl, _⟩ := I.list hs
  rw [Vals.ref1 r]
  obtain ⟨ts, tl, hb⟩ := vals_ints rv
  have size : its.toArray.size = (ns.map fun n => n != 0).length := by rw [List.size_toArray, ← rv.length, List.length_map, List.length_map]
  refine call_any_walk (iter_any hl.isList fun s₂ e2 st hne => ?_)
  subst e2
  refine ⟨_, _, _, _, _, _, _, rfl, Walks.list (A := X.A.in1) (I.ok.hd hc) _ a hne its.toArray, st, truth_ints tl hb, fun h' tk hk => ?_⟩
  have e : (ns.any fun n => n != 0) = (ns.map fun n => n != 0).any id := by rw [List.any_map]; rfl
  refine ⟨.bl _, H, I.kept fun b o eo => hk b o (fun hm => ?_) (Heap.get?_push_of_some _ eo), ?_, q⟩
  · rcases List.mem_cons.mp hm with z | hm
    · exact absurd (z ▸ Heap.lt_size eo) (Nat.lt_irrefl _)
    · cases hm
  · show Value.bool _ = Value.bool _
    rw [e, size, L2.any_range]
/-- xs[k], k from 0 on -/
def rGetL (K : PySem.W.Frag) : V → V → Hp → VK → Prop := fun o i H Q => ∃ (p : Addr) (xs : List V) (k : Int) (v : V), o = .ref p ∧ i = .int k ∧ SqL K H p xs ∧ 0 ≤ k ∧ xs[k.toNat]? = some v ∧ Q v H
theorem pget_list : PGet X (rGetL X.K) := by
  intro pins s σ H o i ov iv Q I ro ri h
  obtain ⟨p, xs, k, v, rfl, rfl, hq, k0, hk, q⟩ := h
  cases ro
  obtain ⟨t, rfl⟩ := ri
  obtain ⟨its, r, pl, hz⟩ := I.list hq
  obtain ⟨u, hu, rv⟩ := r.get hk
  have lt := (List.getElem?_eq_some_iff.mp hk).1
  have hl := r.length
  have n63 := line63
  exact wpAny_getItem_list pl.isList k0 (by omega) (by simpa using hu) ⟨v, H, I, rv, q⟩
end
theorem w_augS {to ti te : TE} {tget : V → V → Hp → VK → Prop} {tip : TIp} {tset : TSet} {D : Ends} {σ : L2.St} {H : Hp} (q : to σ H fun o H1 => ti σ H1 fun i H2 => tget o i H2 fun x H3 => te σ H3 fun y H4 => tip x y H4 fun z H5 => tset o i z H5 fun H6 => D.nx σ H6) : tAugS to ti te tget tip tset D σ H := q
theorem w_getL {K : PySem.W.Frag} {H : Hp} {Q : VK} {p : Addr} {xs : List V} {k : Nat} {v : V} (h : H p = some (.lst xs)) (hk : xs[k]? = some v) (q : Q v H) : rGetL K (.ref p) (.int (k : Int)) H Q := ⟨p, xs, k, v, rfl, rfl, SqL.of h, by omega, by rw [Int.toNat_natCast]; exact hk, q⟩
theorem w_anyI {K : PySem.W.Frag} {H : Hp} {Q : VK} {a : Addr} {ns : List Int} (h : H a = some (.lst (ns.map V.int))) (q : Q (.bl (ns.any fun n => n != 0)) H) : rAnyI K [.ref a] H Q := ⟨a, ns, rfl, SqL.of h, q⟩
end Fw
namespace Fw
/-! ### how many numbers are of a row's families -/
def totF (fl : FL) (a b : Int) : Int := (fl.map fun p => (b - p.1) / 2 ^ p.2 - (a - 1 - p.1) / 2 ^ p.2).sum
theorem ediv_step {m y : Int} (hm : 0 < m) : y / m - (y - 1) / m = if y % m = 0 then 1 else 0 := by
  have e := Int.mul_ediv_add_emod y m
  have r0 := Int.emod_nonneg y (Int.ne_of_gt hm)
  have r1 := Int.emod_lt_of_pos y hm
  split
  · rename_i z
    have : (y - 1) / m = y / m - 1 := by
      have e2 : y - 1 = (m - 1) + m * (y / m - 1) := by rw [Int.mul_sub, Int.mul_one]; omega
      rw [e2, Int.add_mul_ediv_left _ _ (Int.ne_of_gt hm), Int.ediv_eq_zero_of_lt (by omega) (by omega)]; omega
    omega
  · rename_i z
    have : (y - 1) / m = y / m := by
      have e2 : y - 1 = (y % m - 1) + m * (y / m) := by omega
      rw [e2, Int.add_mul_ediv_left _ _ (Int.ne_of_gt hm), Int.ediv_eq_zero_of_lt (by omega) (by omega)]; omega
    omega
theorem totF_step (fl : FL) (a b : Int) : totF fl a b = totF fl a (b - 1) + (cntF b fl : Int) := by
  induction fl with
  | nil => rfl
  | cons p fl ih =>
    have h := ediv_step (y := b - p.1) (gposR p.2)
    have c : (cntF b (p :: fl) : Int) = (if (b - p.1) % 2 ^ p.2 = 0 then 1 else 0) + (cntF b fl : Int) := by
      unfold cntF
      rw [List.filter_cons]
      by_cases z : (b - p.1) % 2 ^ p.2 = 0
      · rw [if_pos z, if_pos (decide_eq_true z), List.length_cons]; omega
      · rw [if_neg z, if_neg (by simpa using z)]; omega
    unfold totF at ih ⊢
    rw [List.map_cons, List.sum_cons, List.map_cons, List.sum_cons, ih, c, ← h, show b - 1 - p.1 = b - p.1 - 1 by omega]
    omega
theorem totF_none (fl : FL) (a : Int) : totF fl a (a - 1) = 0 := by
  unfold totF
  induction fl with
  | nil => rfl
  | cons p fl ih => rw [List.map_cons, List.sum_cons, ih]; omega
theorem totF_tot {fl : FL} {q : Int → Bool} (h : ∀ x, (cntF x fl : Int) = if q x = true then 1 else 0) {a b : Int} (hab : a ≤ b + 1) : totF fl a b = tot q a b := by
  obtain ⟨n, hn⟩ := Int.eq_ofNat_of_zero_le (show 0 ≤ b + 1 - a by omega)
  induction n generalizing b with
  | zero =>
    obtain rfl : b = a - 1 := by omega
    rw [totF_none, tot_none (by omega)]
  | succ n ih =>
    rw [totF_step, tot_step q (show a ≤ b by omega), ih (b := b - 1) (by omega) (by omega), h b]
theorem cnt_of {w : Nat} {fl : FL} (n : NRow w fl) {q : Int → Bool} (cv : ∀ x, Cover (famL fl) x ↔ q x = true) (x : Int) : (cntF x fl : Int) = if q x = true then 1 else 0 := by
  by_cases c : Cover (famL fl) x
  · rw [cntF_one n c, if_pos ((cv x).mp c)]; rfl
  · rw [if_neg fun z => c ((cv x).mpr z)]
    have : cntF x fl = 0 := by
      refine Nat.eq_zero_of_not_pos fun z => c ?_
      unfold cntF at z
      obtain ⟨p, hp⟩ := List.exists_mem_of_length_pos z
      obtain ⟨h1, h2⟩ := List.mem_filter.mp hp
      exact ⟨p.1, p.2, h1, Int.dvd_of_emod_eq_zero (of_decide_eq_true h2)⟩
    rw [this]; rfl
theorem totF_size {w : Nat} {fl : FL} (h : ∀ p ∈ fl, p.2 ≤ w) (a : Int) : totF fl a (a + 2 ^ w - 1) = (fl.map fun p => (2 : Int) ^ (w - p.2)).sum := by
  unfold totF
  induction fl with
  | nil => rfl
  | cons p fl ih =>
    have pw := h p List.mem_cons_self
    rw [List.map_cons, List.sum_cons, List.map_cons, List.sum_cons, ih fun q hq => h q (List.mem_cons_of_mem _ hq)]
    congr 1
    have e : (2 : Int) ^ w = 2 ^ p.2 * 2 ^ (w - p.2) := by rw [← Int.pow_add]; congr 1; omega
    rw [show a + 2 ^ w - 1 - p.1 = (a - 1 - p.1) + 2 ^ p.2 * 2 ^ (w - p.2) by rw [← e]; omega, Int.add_mul_ediv_left _ _ (Int.ne_of_gt (gposR p.2))]
    omega
end Fw
namespace Fw
open PySem PySem.Spec PyProof.Rows L2 LamX
/-- a def that may be handed what can be called, and raises -/
structure FnOkCX (P : Program) (w : World) (K : PySem.W.Frag) (mg : Str → Option Value) (base : Heap) (k : Nat) (f : Addr) (fd : FuncData) (ps : List Str) (spc : CP → Sp) : Prop where
  len : ∀ C vs H Q E, spc C vs H Q E → vs.length = ps.length
  run : ∀ (A : Around) (outer : List Env) (s : Shared) (H : Hp) (args : Args) (us : List Value) (vs : List V) (Q : VK) (E : XK), Room k A → Env0 P w K mg base A outer s H → BindsTo s fd args (ps.zip us) → Vals vs us → spc (Cal P w K mg base outer H s) vs H Q E →
    codeAny (model P w) A (.call (.ref f) args) (CR (L2.CX P w) outer P w H s Q E) s
section
variable {P : Program} {w : World} {K : PySem.W.Frag} {mg : Str → Option Value} {base : Heap}
theorem okCX {x qual : Str} {st : Stmt} {f : Addr} {fd : FuncData} {N ps : List Str} {k : Nat} {spc : CP → Sp} (F : L2.Fun K x qual st f fd) (S : FnScope N ps (defScope st)) (len : ∀ C vs H Q E, spc C vs H Q E → vs.length = ps.length)
    (hbody : ∀ (cdv : Value) (A : Around) (outer : List Env) (s : Shared) (H : Hp) (vs : List V) (Q : VK) (E : XK), Room k (A.deeper (envOfC qual (defScope st) s.heap.objs.size f cdv)) → spc (Cal P w K mg base outer H s) vs H Q E →
      ∃ t, PSs (cxOf (L2.CX P w) P w K mg base N qual (defScope st) f cdv A outer s H E) (defBody st) t ∧ t { nx := fun _ H' => Q .non H', rt := Q } (L2.start N vs) H) : FnOkCX P w K mg base (k + 1) f fd ps spc := by
  obtain ⟨oc, od, kV, doc, pm, an, cdv, ct, osl, rfl, lk, hcd⟩ := F.ex
  exact ⟨len, fun A outer s H args us vs Q E hr e0 hb r h => run_ofS (N := N) lk hcd S hr e0 hb r (len _ _ _ _ _ h) fun hr' => hbody cdv A outer s H vs Q E hr' h⟩
theorem FunT.okX {x qual : Str} {st : Stmt} {f c : Addr} {fd : FuncData} {N ps : List Str} {k : Nat} {sp : Sp} (F : FunT K x qual st f fd c) (S : FnScope N ps (defScope st)) (len : ∀ vs H Q E, sp vs H Q E → vs.length = ps.length)
    (hbody : ∀ (A : Around) (outer : List Env) (s : Shared) (H : Hp) (vs : List V) (Q : VK) (E : XK), Room k (A.deeper (envOfC qual (defScope st) s.heap.objs.size f (.ref c))) → sp vs H Q E →
      ∃ t, PSs (cxOf (L2.CX P w) P w K mg base N qual (defScope st) f (.ref c) A outer s H E) (defBody st) t ∧ t { nx := fun _ H' => Q .non H', rt := Q } (L2.start N vs) H) : FnOk P w K mg base (L2.CX P w) (k + 1) f fd ps sp := by
  obtain ⟨oc, od, kV, doc, pm, an, ct, osl, rfl, lk, hcd⟩ := F.ex
  exact fn_of lk hcd S len fun A outer s H vs Q E hr hsp => hbody A outer s H vs Q E hr hsp
end
section
variable {X : Cx}
def tLamCX (T : List (Addr × Str)) (q : Str) (spc : CP → Sp) (C : CP) (kb : Nat) (tb : TE) (E : XK) (t : TA) : TE := fun σ H Q => Tabs T H ∧ ∀ (f c' : Addr) (H1 : Hp), Sm T H H1 → H1 c' = some (CodeO c' q) → t σ H1 fun vs H2 =>
  ∀ C' : CP, (∀ k g sp, C k g sp → C' k g sp) → (∀ k sp, kb + 1 ≤ k → (∀ ws H3 Q3, sp ws H3 Q3 E0 → spLam c' q σ tb ws H3 Q3 E0) → C' k f sp) → spc C' (.ref f :: vs) H2 Q E
/-- x(lambda par: body, e, ..) -/
theorem pe_lamCX {T : List (Addr × Str)} {x par : Str} {g c P : Addr} {kg kb : Nat} {fd : FuncData} {ps : List Str} {spc : CP → Sp} {C : CP} {params : Arguments} {body : Expr} {scope : Scope} {tb : TE} {E : XK} {t : TA} {es : List Expr} {p lpos pos : Pos}
    (G : FnOkCX X.prog X.w X.K X.mg X.base kg g fd ps spc) (hr : Room kg X.A) (hg : Gl X x) (hm : X.mg x = some (.ref g)) (hk : PySem.W.keepIn X.K (.ref g) = true) (hb : L2.Binds X.K fd ps [])
    (TB : TabB X.base X.mg c P) (hcode : X.env.code = .ref c) (hmT : (P, X.env.qual ++ "<lambda>") ∈ T) (hu : ∀ p ∈ T, p.1 = P → p.2 = X.env.qual ++ "<lambda>")
    (L : LamP X.env.scope scope par) (hpar : par ∉ X.N) (hex : X.ex = []) (hdef : defaultsOf params X.env = ([], []))
    (hbind : ∀ (q : Str) (cl : List (Str × Addr)) (pm cv ctv u : Value), bindArgs (PySem.W.kla_fn "<lambda>" q params body scope cl pm cv ctv) ⟨[u], []⟩ = pure [(par, u)])
    (hC : ∀ k f sp, C k f sp → Kn X k f sp)
    (hbody : ∀ (A : Around) (outer : List Env) (s1 : Shared) (H1 : Hp) (f c' : Addr), (∀ k f sp, C k f sp → Kn (lamCxP X A outer s1 H1 scope f c' par).nox k f sp) → Room kb (A.deeper (lamEnv X scope s1.heap.objs.size f c')) → PE (lamCxP X A outer s1 H1 scope f c' par).nox body tb)
    (hx : Passes (L2.CX X.prog X.w) X E) (ha : PA X es t) (hdb : (x == ("__debug__" : Str)) = false := by decide) (hpl : (backTo pos (starEach es X.env)).any (·.1) = false := by rfl) :
    PE X (.Call (.Name x p) (.Lambda params body scope lpos :: es) [] pos) (tLamCX T (X.env.qual ++ "<lambda>") spc C kb tb E t) := by
  refine ⟨fun pins s σ H Q I h => ?_⟩
  obtain ⟨hT, h⟩ := h
  refine wpAny_Call_Name_kw (ld_glob I hg hm ?_ hdb)
  refine PySem.W.callWith_K (h₀ := X.base) I.ok.mod.kin hk ?_ (by rfl) hpl
  show wpAny _ _ (spliced ((false, eval (.Lambda params body scope lpos) X.env) :: backTo pos (starEach es X.env))) _ _ s
  refine Calls.spliced_cons (lam_make2 (E := X.xe) I TB hcode hmT hu hT hdef (L.has I.ok) fun f c' pm' ctv H1 s' I1 eN T1 hf hfn hfr hco => ?_)
  have nfL : f ≠ X.env.locals := fun z => by
    obtain ⟨m, ⟨o, es, ep, ho, hd, _⟩, _⟩ := I1.loc
    rw [← z, hf] at ho
    cases ho
    cases hd
  have nfs : f ∉ X.fs := fun z => hfr (by
    rcases I1.ok.stk with e | ⟨e, hfm⟩
    · rw [e]; exact z
    · rw [e]
      unfold frs
      rw [List.filterMap_cons, hfm]
      exact List.mem_cons_of_mem _ z)
  have I2 : Inv X ((f, PySem.W.kla_obj "<lambda>" (X.env.qual ++ "<lambda>") params body scope (cloFrom X.env.cells scope.names []) pm' c' ctv) :: pins) σ H1 s' := I1.pins_of fun q hq => by
    rcases List.mem_cons.mp hq with e | hq
    · rw [e]
      exact ⟨hf, hfn, nfL, nfs, fun v z => by cases z⟩
    · exact I1.pin q (List.mem_append_right _ hq)
  refine thn (ha.run pos _ s' σ H1 _ I2 (h f c' H1 ⟨eN, fun _ => T1⟩ hco)) fun us s2 ⟨vs, H2, I3, r, q⟩ => ⟨I3.kIn, ?_⟩
  obtain ⟨pf, pn, _, _, _⟩ := I3.pin _ (List.mem_append_right _ (List.mem_cons_self (a := (f, PySem.W.kla_obj "<lambda>" (X.env.qual ++ "<lambda>") params body scope (cloFrom X.env.cells scope.names []) pm' c' ctv))))
  have I4 : Inv X pins σ H2 s2 := I3.pins_of fun q hq => I3.pin q (List.mem_append_right _ (List.mem_cons_of_mem _ hq))
  have cal := lam_cal (C := C) (f := f) (c' := c') (kb := kb) (tb := tb) I4 L hpar hex pf pn hfr hbind hC fun A outer s1 H1 hk hr => hbody A outer s1 H1 f c' hk hr
  have hsp := q (Cal X.prog X.w X.K X.mg X.base X.stack H2 s2) (fun k g sp z => (hC k g sp z).later (later_of I4 hex)) (fun k sp hk z => cal.imp hk z)
  have r2 : Vals (.ref f :: vs) (.ref f :: us) := .cons rfl r
  have hl : (Value.ref f :: us).length = ps.length := by rw [← r2.length]; exact G.len _ _ _ _ _ hsp
  have hbi := hb s2 (.ref f :: us) I4.kIn (by rw [List.append_nil]; exact hl)
  rw [List.append_nil] at hbi
  refine wpAny_call (codeAny_mono (G.run X.A X.stack s2 H2 ⟨.ref f :: us, []⟩ (.ref f :: us) (.ref f :: vs) Q E hr I4.env0 hbi r2 hsp) fun r s' hq => ?_)
  cases r with
  | error e => exact hx pins σ H2 s2 e s' I4 hq
  | ok fl =>
    cases fl with
    | ret u => exact I4.after hq
    | next => exact False.elim hq
    | brk => exact False.elim hq
    | cont => exact False.elim hq
def tLamC2X (T : List (Addr × Str)) (q : Str) (spc : CP → Sp) (C : CP) (kb : Nat) (tb : TE) (E : XK) (t : TA) : TE := fun σ H Q => Tabs T H ∧ ∀ (f c' : Addr) (H1 : Hp), Sm T H H1 → H1 c' = some (CodeO c' q) → t σ H1 fun vs H2 =>
  ∀ C' : CP, (∀ k g sp, C k g sp → C' k g sp) → (∀ k sp, kb + 1 ≤ k → (∀ ws H3 Q3, sp ws H3 Q3 E0 → spLam2 c' q σ tb ws H3 Q3 E0) → C' k f sp) → spc C' (.ref f :: vs) H2 Q E
/-- x(lambda par: body, e, ..) -/
theorem pe_lamC2X {T : List (Addr × Str)} {x pa pb : Str} {g c P : Addr} {kg kb : Nat} {fd : FuncData} {ps : List Str} {spc : CP → Sp} {C : CP} {params : Arguments} {body : Expr} {scope : Scope} {tb : TE} {E : XK} {t : TA} {es : List Expr} {p lpos pos : Pos}
    (G : FnOkCX X.prog X.w X.K X.mg X.base kg g fd ps spc) (hr : Room kg X.A) (hg : Gl X x) (hm : X.mg x = some (.ref g)) (hk : PySem.W.keepIn X.K (.ref g) = true) (hb : L2.Binds X.K fd ps [])
    (TB : TabB X.base X.mg c P) (hcode : X.env.code = .ref c) (hmT : (P, X.env.qual ++ "<lambda>") ∈ T) (hu : ∀ p ∈ T, p.1 = P → p.2 = X.env.qual ++ "<lambda>")
    (L : LamP2 X.env.scope scope pa pb) (hpar : pa ∉ X.N) (hpbr : pb ∉ X.N) (hex : X.ex = []) (hdef : defaultsOf params X.env = ([], []))
    (hbind : ∀ (q : Str) (cl : List (Str × Addr)) (pm cv ctv u u2 : Value), bindArgs (PySem.W.kla_fn "<lambda>" q params body scope cl pm cv ctv) ⟨[u, u2], []⟩ = pure [(pa, u), (pb, u2)])
    (hC : ∀ k f sp, C k f sp → Kn X k f sp)
    (hbody : ∀ (A : Around) (outer : List Env) (s1 : Shared) (H1 : Hp) (f c' : Addr), (∀ k f sp, C k f sp → Kn (lamCxP2 X A outer s1 H1 scope f c' pa pb).nox k f sp) → Room kb (A.deeper (lamEnv X scope s1.heap.objs.size f c')) → PE (lamCxP2 X A outer s1 H1 scope f c' pa pb).nox body tb)
    (hx : Passes (L2.CX X.prog X.w) X E) (ha : PA X es t) (hdb : (x == ("__debug__" : Str)) = false := by decide) (hpl : (backTo pos (starEach es X.env)).any (·.1) = false := by rfl) :
    PE X (.Call (.Name x p) (.Lambda params body scope lpos :: es) [] pos) (tLamC2X T (X.env.qual ++ "<lambda>") spc C kb tb E t) := by
  refine ⟨fun pins s σ H Q I h => ?_⟩
  obtain ⟨hT, h⟩ := h
  refine wpAny_Call_Name_kw (ld_glob I hg hm ?_ hdb)
  refine PySem.W.callWith_K (h₀ := X.base) I.ok.mod.kin hk ?_ (by rfl) hpl
  show wpAny _ _ (spliced ((false, eval (.Lambda params body scope lpos) X.env) :: backTo pos (starEach es X.env))) _ _ s
  refine Calls.spliced_cons (lam_make2 (E := X.xe) I TB hcode hmT hu hT hdef (L.has I.ok) fun f c' pm' ctv H1 s' I1 eN T1 hf hfn hfr hco => ?_)
  have nfL : f ≠ X.env.locals := fun z => by
    obtain ⟨m, ⟨o, es, ep, ho, hd, _⟩, _⟩ := I1.loc
    rw [← z, hf] at ho
    cases ho
    cases hd
  have nfs : f ∉ X.fs := fun z => hfr (by
    rcases I1.ok.stk with e | ⟨e, hfm⟩
    · rw [e]; exact z
    · rw [e]
      unfold frs
      rw [List.filterMap_cons, hfm]
      exact List.mem_cons_of_mem _ z)
  have I2 : Inv X ((f, PySem.W.kla_obj "<lambda>" (X.env.qual ++ "<lambda>") params body scope (cloFrom X.env.cells scope.names []) pm' c' ctv) :: pins) σ H1 s' := I1.pins_of fun q hq => by
    rcases List.mem_cons.mp hq with e | hq
    · rw [e]
      exact ⟨hf, hfn, nfL, nfs, fun v z => by cases z⟩
    · exact I1.pin q (List.mem_append_right _ hq)
  refine thn (ha.run pos _ s' σ H1 _ I2 (h f c' H1 ⟨eN, fun _ => T1⟩ hco)) fun us s2 ⟨vs, H2, I3, r, q⟩ => ⟨I3.kIn, ?_⟩
  obtain ⟨pf, pn, _, _, _⟩ := I3.pin _ (List.mem_append_right _ (List.mem_cons_self (a := (f, PySem.W.kla_obj "<lambda>" (X.env.qual ++ "<lambda>") params body scope (cloFrom X.env.cells scope.names []) pm' c' ctv))))
  have I4 : Inv X pins σ H2 s2 := I3.pins_of fun q hq => I3.pin q (List.mem_append_right _ (List.mem_cons_of_mem _ hq))
  have cal := lam_cal2 (C := C) (f := f) (c' := c') (kb := kb) (tb := tb) I4 L hpar hpbr hex pf pn hfr hbind hC fun A outer s1 H1 hk hr => hbody A outer s1 H1 f c' hk hr
  have hsp := q (Cal X.prog X.w X.K X.mg X.base X.stack H2 s2) (fun k g sp z => (hC k g sp z).later (later_of I4 hex)) (fun k sp hk z => cal.imp hk z)
  have r2 : Vals (.ref f :: vs) (.ref f :: us) := .cons rfl r
  have hl : (Value.ref f :: us).length = ps.length := by rw [← r2.length]; exact G.len _ _ _ _ _ hsp
  have hbi := hb s2 (.ref f :: us) I4.kIn (by rw [List.append_nil]; exact hl)
  rw [List.append_nil] at hbi
  refine wpAny_call (codeAny_mono (G.run X.A X.stack s2 H2 ⟨.ref f :: us, []⟩ (.ref f :: us) (.ref f :: vs) Q E hr I4.env0 hbi r2 hsp) fun r s' hq => ?_)
  cases r with
  | error e => exact hx pins σ H2 s2 e s' I4 hq
  | ok fl =>
    cases fl with
    | ret u => exact I4.after hq
    | next => exact False.elim hq
    | brk => exact False.elim hq
    | cont => exact False.elim hq
end
theorem w_lamCX {T : List (Addr × Str)} {q : Str} {spc : CP → Sp} {C : CP} {kb : Nat} {tb : TE} {E : XK} {t : TA} {σ : L2.St} {H : Hp} {Q : VK} (hT : Tabs T H) (h : ∀ (f c' : Addr) (H1 : Hp), Sm T H H1 → H1 c' = some (CodeO c' q) → t σ H1 fun vs H2 =>
  ∀ C' : CP, (∀ k g sp, C k g sp → C' k g sp) → (∀ k sp, kb + 1 ≤ k → (∀ ws H3 Q3, sp ws H3 Q3 E0 → spLam2 c' q σ tb ws H3 Q3 E0) → C' k f sp) → spc C' (.ref f :: vs) H2 Q E) : tLamC2X T q spc C kb tb E t σ H Q := ⟨hT, h⟩
end Fw
namespace Fw
/-! ### two polynomials: their difference, and when it is 0 everywhere -/
def difL : List Int → List Int → List Int
  | [], ds => ds.map fun d => 0 - d
  | c :: cs, ds => (c - ds.headD 0) :: difL cs ds.tail
theorem difL_len : ∀ cs ds : List Int, (difL cs ds).length = max cs.length ds.length
  | [], ds => by show (ds.map _).length = _; rw [List.length_map]; simp
  | c :: cs, ds => by
    show (difL cs ds.tail).length + 1 = _
    rw [difL_len cs ds.tail]
    simp only [List.length_cons, List.length_tail]; omega
theorem difL_get : ∀ (cs ds : List Int) (i : Nat), i < max cs.length ds.length → (difL cs ds)[i]? = some (cs.getD i 0 - ds.getD i 0)
  | [], ds, i, h => by
    have hi : i < ds.length := by simpa using h
    show (ds.map _)[i]? = _
    rw [List.getElem?_map, List.getElem?_eq_getElem hi]
    simp [List.getD_eq_getElem?_getD, hi]
  | c :: cs, [], 0, _ => rfl
  | c :: cs, d :: ds, 0, _ => rfl
  | c :: cs, ds, i + 1, h => by
    show (difL cs ds.tail)[i]? = _
    rw [difL_get cs ds.tail i (by simp only [List.length_cons, List.length_tail] at h ⊢; omega)]
    cases ds <;> simp [List.getD_eq_getElem?_getD]
theorem pv_neg (x : Int) : ∀ ds : List Int, pvl (ds.map fun d => 0 - d) x = 0 - pvl ds x
  | [] => rfl
  | d :: ds => by
    show 0 - d + x * pvl (ds.map fun d => 0 - d) x = 0 - (d + x * pvl ds x)
    rw [pv_neg x ds, Int.mul_sub, Int.mul_zero]; omega
theorem pv_difL (x : Int) : ∀ cs ds : List Int, pvl (difL cs ds) x = pvl cs x - pvl ds x
  | [], ds => pv_neg x ds
  | c :: cs, [] => by
    show c - 0 + x * pvl (difL cs []) x = c + x * pvl cs x - 0
    rw [pv_difL x cs []]
    show c - 0 + x * (pvl cs x - 0) = _
    rw [Int.sub_zero, Int.sub_zero, Int.sub_zero]
  | c :: cs, d :: ds => by
    show c - d + x * pvl (difL cs ds) x = (c + x * pvl cs x) - (d + x * pvl ds x)
    rw [pv_difL x cs ds, Int.mul_sub]; omega
/-- n differences away from 0 -/
def Dg : Nat → (Int → Int) → Prop
  | 0, f => ∀ x, f x = 0
  | n + 1, f => Dg n fun x => f (x + 1) - f x
theorem dg_congr : ∀ {n : Nat} {f g : Int → Int}, (∀ x, f x = g x) → Dg n f → Dg n g
  | 0, f, g, e, h => fun x => by rw [← e]; exact h x
  | n + 1, f, g, e, h => dg_congr (n := n) (fun x => by rw [e, e]) h
theorem dg_zero : ∀ (n : Nat), Dg n fun _ => 0
  | 0 => fun _ => rfl
  | n + 1 => dg_congr (n := n) (fun _ => (Int.sub_self _).symm) (dg_zero n)
theorem dg_succ : ∀ {n : Nat} {f : Int → Int}, Dg n f → Dg (n + 1) f
  | 0, f, h => fun x => by show f (x + 1) - f x = 0; rw [h, h]; rfl
  | n + 1, f, h => dg_succ (n := n) h
theorem dg_le {m n : Nat} {f : Int → Int} (h : m ≤ n) (d : Dg m f) : Dg n f := by
  induction h with
  | refl => exact d
  | step _ ih => exact dg_succ ih
theorem dg_add : ∀ {n : Nat} {f g : Int → Int}, Dg n f → Dg n g → Dg n fun x => f x + g x
  | 0, f, g, h1, h2 => fun x => by show f x + g x = 0; rw [h1, h2]; rfl
  | n + 1, f, g, h1, h2 => dg_congr (n := n) (fun x => by show (f (x + 1) - f x) + (g (x + 1) - g x) = (f (x + 1) + g (x + 1)) - (f x + g x); omega) (dg_add (n := n) h1 h2)
theorem dg_shift : ∀ {n : Nat} {f : Int → Int}, Dg n f → Dg n fun x => f (x + 1)
  | 0, f, h => fun x => h (x + 1)
  | n + 1, f, h => dg_shift (n := n) (f := fun x => f (x + 1) - f x) h
theorem dg_x : ∀ {n : Nat} {f : Int → Int}, Dg n f → Dg (n + 1) fun x => x * f x
  | 0, f, h => fun x => by show (x + 1) * f (x + 1) - x * f x = 0; rw [h, h, Int.mul_zero, Int.mul_zero]; rfl
  | n + 1, f, h => by
    have h1 : Dg (n + 1) fun x => f (x + 1) := dg_shift h
    have h2 : Dg (n + 1) fun x => x * (f (x + 1) - f x) := dg_x (n := n) (f := fun x => f (x + 1) - f x) h
    exact dg_congr (n := n + 1) (fun x => by
      show f (x + 1) + x * (f (x + 1) - f x) = (x + 1) * f (x + 1) - x * f x
      rw [Int.mul_sub, Int.add_mul, Int.one_mul]; omega) (dg_add h1 h2)
theorem dg_const (n : Nat) (c : Int) : Dg (n + 1) fun _ => c := dg_congr (n := n) (fun _ => (Int.sub_self _).symm) (dg_zero n)
theorem dg_pvl : ∀ cs : List Int, Dg cs.length (pvl cs)
  | [] => fun _ => rfl
  | c :: cs => dg_add (dg_const cs.length c) (dg_x (dg_pvl cs))
theorem dvd_up {S : Int} {f : Int → Int} {lo : Int} (h : ∀ x, S ∣ f (x + 1) - f x) : ∀ n : Nat, S ∣ f (lo + n) - f lo
  | 0 => by rw [show lo + ((0 : Nat) : Int) = lo by omega, Int.sub_self]; exact Int.dvd_zero _
  | n + 1 => by
    have := Int.dvd_add (h (lo + n)) (dvd_up (f := f) (lo := lo) h n)
    rw [show lo + (n : Int) + 1 = lo + ((n + 1 : Nat) : Int) by omega] at this
    rwa [show f (lo + ((n + 1 : Nat) : Int)) - f (lo + n) + (f (lo + n) - f lo) = f (lo + ((n + 1 : Nat) : Int)) - f lo by omega] at this
theorem dvd_all {S : Int} {f : Int → Int} (lo : Int) (h : ∀ x, S ∣ f (x + 1) - f x) (x : Int) : S ∣ f x - f lo := by
  by_cases c : lo ≤ x
  · have := dvd_up (f := f) (lo := lo) h (x - lo).toNat
    rwa [show lo + ((x - lo).toNat : Int) = x by omega] at this
  · have := dvd_up (f := f) (lo := x) h (lo - x).toNat
    rw [show x + ((lo - x).toNat : Int) = lo by omega] at this
    have := Int.dvd_neg.mpr this
    rwa [show -(f lo - f x) = f x - f lo by omega] at this
/-- 0 modulo S at n integers in a row: 0 everywhere -/
theorem dg_all {S : Int} (lo : Int) : ∀ {n : Nat} {f : Int → Int}, Dg n f → (∀ i : Nat, i < n → S ∣ f (lo + i)) → ∀ x, S ∣ f x
  | 0, f, h, _, x => by rw [h x]; exact Int.dvd_zero _
  | n + 1, f, h, hz, x => by
    have hd := dg_all lo (n := n) (f := fun x => f (x + 1) - f x) h (fun i hi => by
      have := Int.dvd_sub (hz (i + 1) (by omega)) (hz i (by omega))
      rwa [show lo + ((i + 1 : Nat) : Int) = lo + i + 1 by omega] at this)
    have h1 := dvd_all lo hd x
    have h2 := hz 0 (by omega)
    rw [show lo + ((0 : Nat) : Int) = lo by omega] at h2
    have := Int.dvd_add h1 h2
    rwa [show f x - f lo + f lo = f x by omega] at this
theorem alike_all {S : Int} {cs ds : List Int} {n : Nat} (hn : max cs.length ds.length ≤ n) (h : ∀ i : Nat, i < n → S ∣ pvl cs i - pvl ds i) (x : Int) : S ∣ pvl cs x - pvl ds x := by
  have := dg_all (S := S) 0 (n := n) (f := pvl (difL cs ds)) (dg_le (by rw [difL_len]; exact hn) (dg_pvl _)) (fun i hi => by
    rw [Int.zero_add, pv_difL]; exact h i hi) x
  rwa [pv_difL] at this
end Fw
namespace ZLg
open PySem PySem.Spec
open Sem (wp)

theorem mro_zl : mroOf (.type "itertools.zip_longest") = pure [.type "itertools.zip_longest", .type "object"] := by rw [mroOf_type]; kernel_rfl
theorem lookup_zl_new : typeLookup (.type "itertools.zip_longest") "__new__" = pure (some (.builtin "itertools.zip_longest.__new__")) := by rw [typeLookup_type, builtinLookup_eq_fast]; kernel_rfl
theorem sub_zl : isSubtype (.type "itertools.zip_longest") (.type "itertools.zip_longest") = pure true := by rw [isSubtype_type]; kernel_rfl
theorem slot_zl_init : Slot "itertools.zip_longest" "__init__" "object.__init__" :=
  .of (owner := "object") (n := "__init__") (by rw [typeLookup_type, builtinLookup_eq_fast]; kernel_rfl) (by decide +kernel) (by decide +kernel) (by decide +kernel)
    (by first | exact .inl (by decide +kernel) | exact .inr (by decide +kernel)) (by rw [isSubtype_type]; kernel_rfl)
theorem called_zl : TypeCalled "itertools.zip_longest" "itertools.zip_longest.__new__" "object.__init__" :=
  ⟨by decide +kernel, by decide +kernel, ⟨_, _, mro_zl⟩, madeBy_type mro_zl lookup_zl_new (by decide +kernel), by decide +kernel, sub_zl, slot_zl_init⟩
theorem typeCall_zl (a b c : Value) : checkTypeCall "itertools.zip_longest" ⟨[a, b], [(Str.ofString "fillvalue", c)]⟩ = pure () := by kernel_rfl
theorem newCall_zl (a b c : Value) : checkBuiltinCall "itertools.zip_longest.__new__" ⟨[.type "itertools.zip_longest", a, b], [(Str.ofString "fillvalue", c)]⟩ = pure () := by kernel_rfl
theorem args_zl_init (obj a b c : Value) : argsOk "object.__init__" ⟨[obj, a, b], [(Str.ofString "fillvalue", c)]⟩ := by unfold argsOk; kernel_rfl
theorem entry_zl_new : entryFor table "itertools.zip_longest.__new__" = some Builtin.«itertools.zip_longest.__new__» := entryFor_of_tree (by kernel_rfl)
theorem entry_zl_next : entryFor table "itertools.zip_longest.__next__" = some Builtin.«itertools.zip_longest.__next__» := entryFor_of_tree (by kernel_rfl)
theorem entry_zl_iter : entryFor table "itertools.zip_longest.__iter__" = some Builtin.«dict_keyiterator.__iter__» :=
  entryFor_alias (id' := "dict_keyiterator.__iter__") (by kernel_rfl) (by first | rfl | decide +kernel | (unfold String.splitOn; simp +decide [String.splitOnAux])) (by decide +kernel) (by kernel_rfl)
theorem slot_zl_iter : Slot "itertools.zip_longest" "__iter__" "itertools.zip_longest.__iter__" :=
  .of (owner := "itertools.zip_longest") (n := "__iter__") (by rw [typeLookup_type, builtinLookup_eq_fast]; kernel_rfl) (by decide +kernel) (by decide +kernel) (by decide +kernel)
    (by first | exact .inl (by decide +kernel) | exact .inr (by decide +kernel)) sub_zl
theorem slot_zl_next : Slot "itertools.zip_longest" "__next__" "itertools.zip_longest.__next__" :=
  .of (owner := "itertools.zip_longest") (n := "__next__") (by rw [typeLookup_type, builtinLookup_eq_fast]; kernel_rfl) (by decide +kernel) (by decide +kernel) (by decide +kernel)
    (by first | exact .inl (by decide +kernel) | exact .inr (by decide +kernel)) sub_zl
theorem owner_zl : Manifest.owners.lookup (String.ofList ['t', 's', 'e', 'g', 'n', 'o', 'l', '_', 'p', 'i', 'z', '.', 's', 'l', 'o', 'o', 't', 'r', 'e', 't', 'i'].reverse) = some Manifest.sig_itertools_zip_longest := by kernel_rfl
theorem args_zl_iter (a : Value) : argsOk "itertools.zip_longest.__iter__" ⟨[a], []⟩ := by
  unfold argsOk; rw [signature?_of (id := "itertools.zip_longest.__iter__") (n := ['_', '_', 'r', 'e', 't', 'i', '_', '_']) (o := ['t', 's', 'e', 'g', 'n', 'o', 'l', '_', 'p', 'i', 'z', '.', 's', 'l', 'o', 'o', 't', 'r', 'e', 't', 'i']) (by kernel_rfl) owner_zl]; kernel_rfl
theorem args_zl_next (a : Value) : argsOk "itertools.zip_longest.__next__" ⟨[a], []⟩ := by
  unfold argsOk; rw [signature?_of (id := "itertools.zip_longest.__next__") (n := ['_', '_', 't', 'x', 'e', 'n', '_', '_']) (o := ['t', 's', 'e', 'g', 'n', 'o', 'l', '_', 'p', 'i', 'z', '.', 's', 'l', 'o', 'o', 't', 'r', 'e', 't', 'i']) (by kernel_rfl) owner_zl]; kernel_rfl
theorem noDict_zl : typeHasDict (.type "itertools.zip_longest") = false := by decide +kernel

abbrev IsZl (h : Heap) (z TI TO : Addr) (f0 fill : Value) (run : Int) : Prop :=
  h.get? z = some { cls := .type "itertools.zip_longest", dict := none, data := .fields #[f0, .bool false, fill, rawInt run, .ref TI, .ref TO], slots := #[] }

abbrev zlH1 (h : Heap) (l1 : Addr) : Heap := h.push { cls := .type "list_iterator", data := .fields #[.ref l1, .int 0 0] }
abbrev zlH2 (h : Heap) (l1 l2 : Addr) : Heap := (zlH1 h l1).push { cls := .type "list_iterator", data := .fields #[.ref l2, .int 0 0] }
abbrev zlH3 (h : Heap) (l1 l2 : Addr) : Heap := (zlH2 h l1 l2).push { cls := .type "tuple", data := .seq #[.ref h.objs.size, .ref (zlH1 h l1).objs.size] }
abbrev zlH4 (h : Heap) (l1 l2 : Addr) : Heap := (zlH3 h l1 l2).push { cls := .type "tuple", data := .seq #[.none, .none] }
abbrev zlH5 (h : Heap) (l1 l2 : Addr) (c : Value) : Heap := (zlH4 h l1 l2).push { cls := .type "itertools.zip_longest", data := .fields #[.none, .bool false, c, rawInt 2, .ref (zlH2 h l1 l2).objs.size, .ref (zlH3 h l1 l2).objs.size] }

end ZLg
namespace ZLg
open PySem PySem.Spec
open Sem (wp)
theorem meets_zl_new (l1 l2 : Addr) (c : Value) (xs ys : Array Value) :
    Meets (Builtin.«itertools.zip_longest.__new__» ⟨[.type "itertools.zip_longest", .ref l1, .ref l2], [(Str.ofString "fillvalue", c)]⟩) (fun _ R s => s.heap.IsList l1 xs ∧ s.heap.IsList l2 ys ∧
      R (.ok (.ret (.ref (zlH4 s.heap l1 l2).objs.size))) { s with heap := zlH5 s.heap l1 l2 c }) :=
  .of_wp fun prog w A R s h => by
    obtain ⟨hp, g, d, tk, os⟩ := s; obtain ⟨hl1, hl2, h⟩ := h
    have hsub : isSubtype (.type "itertools.zip_longest") (.type ("itertools." ++ "zip_longest")) = pure true := by
      rw [show ("itertools." ++ "zip_longest" : String) = "itertools.zip_longest" from by decide +kernel]; exact sub_zl
    have hd := noDict_zl
    have e1 : (Str.ofString "fillvalue" == ("fillvalue" : Str)) = true := by decide +kernel
    have hL1 : Heap.IsList (Shared.heap ⟨hp, g, d, tk, os⟩) l1 xs := hl1
    have hL2 : Heap.IsList (Shared.heap ⟨hp.push { cls := .type "list_iterator", data := .fields #[.ref l1, .int 0 0] }, g, d, tk, os⟩) l2 ys := Heap.IsList.push hl2 _
    wp_walk using wpAny_pyIter_list hL1, wpAny_pyIter_list hL2
    exact ⟨_, rfl, h⟩


section
variable {prog : Program} {w : World} {A : Around} {E : Value → Shared → Prop} {s : Shared}
theorem call_zl {l1 l2 : Addr} {c : Value} {xs ys : Array Value} {Q : Value → Shared → Prop} (hl1 : s.heap.IsList l1 xs) (hl2 : s.heap.IsList l2 ys)
    (h : ∀ h', IsZl h' (s.heap.objs.size + 4) (s.heap.objs.size + 2) (s.heap.objs.size + 3) .none c 2 → IsPair h' (s.heap.objs.size + 2) (.ref s.heap.objs.size) (.ref (s.heap.objs.size + 1)) →
      IsPair h' (s.heap.objs.size + 3) .none .none → h'.IsListIter s.heap.objs.size l1 0 → h'.IsListIter (s.heap.objs.size + 1) l2 0 → h'.objs.size = s.heap.objs.size + 5 →
      (∀ c o, s.heap.get? c = some o → h'.get? c = some o) → Q (.ref (s.heap.objs.size + 4)) { s with heap := h' }) :
    wpAny (model prog w) A (call (.type "itertools.zip_longest") [.ref l1, .ref l2] [(Str.ofString "fillvalue", c)]) Q E s := by
  refine callType_newKw called_zl (by decide +kernel) (typeCall_zl _ _ _) (newCall_zl _ _ _) (fun obj => args_zl_init obj _ _ _) entry_zl_new
    (meets_zl_new l1 l2 c xs ys) ⟨hl1, hl2, ?_⟩
  have z1 : (zlH1 s.heap l1).objs.size = s.heap.objs.size + 1 := Heap.size_push ..
  have z2 : (zlH2 s.heap l1 l2).objs.size = s.heap.objs.size + 2 := by rw [Heap.size_push, z1]
  have z3 : (zlH3 s.heap l1 l2).objs.size = s.heap.objs.size + 3 := by rw [Heap.size_push, z2]
  have z4 : (zlH4 s.heap l1 l2).objs.size = s.heap.objs.size + 4 := by rw [Heap.size_push, z3]
  have z5 : (zlH5 s.heap l1 l2 c).objs.size = s.heap.objs.size + 5 := by rw [Heap.size_push, z4]
  have g5 : (zlH5 s.heap l1 l2 c).get? (zlH4 s.heap l1 l2).objs.size = some _ := Heap.get?_push_size _ rfl
  have g4 : (zlH5 s.heap l1 l2 c).get? (zlH3 s.heap l1 l2).objs.size = some _ := Heap.get?_push_of_some _ (Heap.get?_push_size _ rfl)
  have g3 : (zlH5 s.heap l1 l2 c).get? (zlH2 s.heap l1 l2).objs.size = some _ := Heap.get?_push_of_some _ (Heap.get?_push_of_some _ (Heap.get?_push_size _ rfl))
  have g2 : (zlH5 s.heap l1 l2 c).get? (zlH1 s.heap l1).objs.size = some _ := Heap.get?_push_of_some _ (Heap.get?_push_of_some _ (Heap.get?_push_of_some _ (Heap.get?_push_size _ rfl)))
  have g1 : (zlH5 s.heap l1 l2 c).get? s.heap.objs.size = some _ := Heap.get?_push_of_some _ (Heap.get?_push_of_some _ (Heap.get?_push_of_some _ (Heap.get?_push_of_some _ (Heap.get?_push_size _ rfl))))
  show _ ∧ _
  rw [z2, z3, z4] at g5
  rw [z1, z2] at g3
  rw [z3] at g4
  rw [z1] at g2
  rw [z4]
  exact ⟨⟨_, g5, rfl⟩, h _ g5 g3 g4 ⟨_, g1, rfl, rfl⟩ ⟨_, g2, rfl, rfl⟩ z5 fun c o x =>
    Heap.get?_push_of_some _ (Heap.get?_push_of_some _ (Heap.get?_push_of_some _ (Heap.get?_push_of_some _ (Heap.get?_push_of_some _ x))))⟩
end
end ZLg
namespace ZLg
open PySem in
def IsRec (h : PySem.Heap) (a : PySem.Addr) : Prop := ∃ o fs, h.get? a = some o ∧ o.data = .fields fs
theorem IsRec.extBut {h h' : PySem.Heap} {a b : PySem.Addr} (x : IsRec h a) (e : PySem.Heap.ExtBut b h h') (n : a ≠ b) : IsRec h' a :=
  let ⟨o, fs, p, q⟩ := x; ⟨o, fs, e _ _ n p, q⟩
theorem IsRec.at {h h' : PySem.Heap} {a : PySem.Addr} (x : IsRec h a) (e : ∀ o, h.get? a = some o → h'.get? a = some o) : IsRec h' a :=
  let ⟨o, fs, p, q⟩ := x; ⟨o, fs, e _ p, q⟩
open PySem PySem.Spec
open Sem (wp)
section
variable {prog : Program} {w : World} {A : Around} {E : Value → Shared → Prop} {s : Shared}

/-- the list iterator's end: its record stays a record -/
theorem next_list_end {it l : Addr} {i : Nat} {items} {Q : Option Value → Shared → Prop} (hh : A.handled = none)
    (hit : s.heap.IsListIter it l i) (hl : s.heap.IsList l items) (hx : items[i]? = none)
    (hQ : ∀ h', Heap.ExtBut it s.heap h' → IsRec h' it → s.heap.objs.size ≤ h'.objs.size → Q none { s with heap := h' }) : wpAny (model prog w) A (pyNext (.ref it)) Q E s := by
  obtain ⟨o, ho, hc, hd⟩ := id hit
  obtain ⟨ol, hol, _, nl, hdl⟩ := hl
  unfold pyNext
  refine wpAny_bind (wpAny_attempt (wpAny_callSpecial?_slot (name := Str.ofString "__next__") hit.typeIs slot_listiter_next
    (wpAny_call_entry slot_listiter_next hit.typeIs entry_listiter_next ?_ (args_listiter_next _))))
  show wpAny _ _ (field (.ref it) 0 >>= _) _ _ s
  refine wpAny_bind (wpAny_field ho hd (x := .ref l) rfl ?_)
  show wpAny _ _ (if (Value.ref l == Value.none) = true then _ else _) _ _ s
  rw [if_neg (show ¬ ((Value.ref l == Value.none) = true) from Bool.false_ne_true)]
  show wpAny _ _ (field (.ref it) 1 >>= _) _ _ s
  refine wpAny_bind (wpAny_field ho hd (x := .int i 0) rfl ?_)
  show wpAny _ _ (seqItems? (.ref l) >>= _) _ _ s
  refine wpAny_bind (wpAny_seqItems hol hdl ?_)
  simp only [Int.toNat_natCast, hx]
  refine wpAny_bind (wpAny_rule (wpAny_bind (wpAny_setField ho hd (by simp) ?_)))
  show wpAny _ _ (newExc (.type "StopIteration") [] >>= _) _ _ _
  refine wpAny_bind ?_
  simp only [newExc, newTuple]
  refine wpAny_bind (wpAny_newObj_type ?_ (by size_fits))
  refine wpAny_bind (m := firstArgMember _ _) (wpAny_of_eq (a := Value.none) (by first | rfl | (simp only [firstArgMember]; rfl)) ?_)
  refine wpAny_newObj_type ?_ (by size_fits)
  simp only [raiseNew]
  refine wpAny_bind (wpAny_handled ?_)
  rw [show A.in1.handled = none from hh]
  refine wpAny_bind (wpAny_pure (wpAny_throw ?_))
  refine wpAny_bind (wpAny_isInstance (T := "StopIteration") (b := true) ⟨_, Heap.get?_push_size _ rfl, rfl⟩ isSubtype_stop ?_)
  refine wpAny_pure (hQ _ (((Heap.SameBut.update ..).extBut.push _).push _) ?_ ?_)
  rotate_left
  · show _ ≤ (((s.heap.update it _).push _).push _).objs.size
    rw [Heap.size_push, Heap.size_push, Heap.size_update]
    omega
  refine ⟨_, _, Heap.get?_push_of_some _ (Heap.get?_push_of_some _ (Heap.get?_update_self _ ho (Obj.isFreed_of_fields (Obj.data_mapFields hd _)))), Obj.data_mapFields hd _⟩

theorem zl_item_ii {z TI TO i1 i2 l1 l2 : Addr} {k1 k2 : Nat} {xs ys : Array Value} {x1 x2 a b fill : Value} {Q : Value → Shared → Prop} (hh : A.handled = none) (D : ZipApart z TI TO i1 i2 l1 l2) (n1 : l1 ≠ TI) (n2 : l2 ≠ TI)
    (hz : IsZl s.heap z TI TO .none fill 2) (hTI : IsPair s.heap TI (.ref i1) (.ref i2)) (hTO : IsPair s.heap TO a b) (h1 : s.heap.IsListIter i1 l1 k1) (h2 : s.heap.IsListIter i2 l2 k2) (hl1 : s.heap.IsList l1 xs) (hl2 : s.heap.IsList l2 ys) (hx1 : xs[k1]? = some x1) (hx2 : ys[k2]? = some x2)
    (hQ : ∀ h' T, s.heap.objs.size ≤ T → IsZl h' z TI TO (rawInt T) fill 2 → IsPair h' TI (.ref i1) (.ref i2) → IsPair h' TO (x1) (x2) → h'.IsListIter i1 l1 (k1 + 1) → h'.IsListIter i2 l2 (k2 + 1) → IsPair h' T (x1) (x2) →
      (∀ c o, c ≠ z → c ≠ TO → c ≠ TI → c ≠ i1 → c ≠ i2 → s.heap.get? c = some o → h'.get? c = some o) → Q (.ref T) { s with heap := h' }) :
    wpAny (model prog w) A (Builtin.«itertools.zip_longest.__next__» ⟨[.ref z], []⟩) (fun fin s' => ∃ v, fin = .done (.ret v) ∧ Q v s') E s := by
  show wpAny _ _ ((field (.ref z) 3 >>= _) >>= _) _ _ _
  refine wpAny_bind (wpAny_bind (wpAny_field hz rfl (x := rawInt 2) rfl ?_))
  show wpAny _ _ (pure (2 : Int)) _ _ _
  refine wpAny_pure ?_
  show wpAny _ _ (if ((2 : Int) == 0) = true then _ else _) _ _ _
  rw [if_neg (by decide)]
  show wpAny _ _ (field (.ref z) 4 >>= _) _ _ _
  refine wpAny_bind (wpAny_field hz rfl (x := .ref TI) rfl ?_)
  refine wpAny_bind ?_
  show wpAny _ _ (seqItems? (.ref TI) >>= _) _ _ _
  refine wpAny_bind (wpAny_seqItems hTI rfl (wpAny_pure ?_))
  refine wpAny_bind ?_
  show wpAny _ _ (field (.ref z) 0 >>= _) _ _ _
  refine wpAny_bind (wpAny_field hz rfl (x := .none) rfl (wpAny_pure ?_))
  simp only [if_true]
  refine wpAny_bind (wpAny_rule ?_)
  refine wpAny_bind (wpAny_field hz rfl (x := .ref TO) rfl ?_)
  refine wpAny_bind (wpAny_setField_rec hz (by simp) fun h₁ hz₁ hs₁ => ?_)
  replace hz₁ : IsZl h₁ z TI TO .ellipsis fill 2 := hz₁
  have eb₁ := hs₁.extBut
  have f0_TI := eb₁ _ _ D.TIz hTI
  have f0_TO := eb₁ _ _ D.TOz hTO
  have f0_i1 := h1.extBut eb₁ D.i1z
  have f0_i2 := h2.extBut eb₁ D.i2z
  have f0_l1 := hl1.extBut eb₁ D.l1z
  have f0_l2 := hl2.extBut eb₁ D.l2z
  refine wpAny_bind ?_
  rw [show List.range (#[Value.ref i1, Value.ref i2] : Array Value).size = [0, 1] from rfl]
  simp only [List.forIn_cons, List.forIn_nil]
  refine wpAny_bind (wpAny_bind (wpAny_onRaise ?_))
  show wpAny _ _ (field (.ref z) 4 >>= _) _ _ _
  refine wpAny_bind (wpAny_field hz₁ rfl (x := .ref TI) rfl ?_)
  refine wpAny_bind ?_
  show wpAny _ _ (seqItems? (.ref TI) >>= _) _ _ _
  refine wpAny_bind (wpAny_seqItems f0_TI rfl (wpAny_pure ?_))
  refine wpAny_bind (wpAny_field hz₁ rfl (x := fill) rfl ?_)
  show wpAny _ _ (if (Value.ref i1 == Value.none) = true then _ else _) _ _ _
  rw [if_neg (show ¬ ((Value.ref i1 == Value.none) = true) from Bool.false_ne_true)]
  refine wpAny_bind (wpAny_onRaise (wpAny_pyNext_list_item f0_i1 f0_l1 hx1 fun h11_ h11_i h11_s => wpAny_pure ?_))
  have h11_e := h11_s.extBut
  have f1_z := h11_e _ _ D.i1z.symm hz₁
  have f1_TI := h11_e _ _ D.TIi1 f0_TI
  have f1_TO := h11_e _ _ D.TOi1 f0_TO
  have f1_i2 := f0_i2.extBut h11_e D.i12.symm
  have f1_l1 := f0_l1.extBut h11_e D.l1i1
  have f1_l2 := f0_l2.extBut h11_e D.l2i1
  refine wpAny_bind ?_
  show wpAny _ _ (seqItems? (.ref TO) >>= _) _ _ _
  refine wpAny_bind (wpAny_seqItems f1_TO rfl (wpAny_pure ?_))
  refine wpAny_bind (wpAny_updateSeq_pair f1_TO fun h14_ h14_t h14_s => ?_)
  replace h14_t : IsPair h14_ TO (x1) (b) := h14_t
  have h14_e := h14_s.extBut
  have f2_z := h14_e _ _ D.TOz.symm f1_z
  have f2_TI := h14_e _ _ D.TITO f1_TI
  have f2_i1 := h11_i.extBut h14_e D.TOi1.symm
  have f2_i2 := f1_i2.extBut h14_e D.TOi2.symm
  have f2_l1 := f1_l1.extBut h14_e D.l1TO
  have f2_l2 := f1_l2.extBut h14_e D.l2TO
  refine wpAny_bind (wpAny_letGo (wpAny_pure ?_))
  refine wpAny_bind (wpAny_bind (wpAny_onRaise ?_))
  show wpAny _ _ (field (.ref z) 4 >>= _) _ _ _
  refine wpAny_bind (wpAny_field f2_z rfl (x := .ref TI) rfl ?_)
  refine wpAny_bind ?_
  show wpAny _ _ (seqItems? (.ref TI) >>= _) _ _ _
  refine wpAny_bind (wpAny_seqItems f2_TI rfl (wpAny_pure ?_))
  refine wpAny_bind (wpAny_field f2_z rfl (x := fill) rfl ?_)
  show wpAny _ _ (if (Value.ref i2 == Value.none) = true then _ else _) _ _ _
  rw [if_neg (show ¬ ((Value.ref i2 == Value.none) = true) from Bool.false_ne_true)]
  refine wpAny_bind (wpAny_onRaise (wpAny_pyNext_list_item f2_i2 f2_l2 hx2 fun h21_ h21_i h21_s => wpAny_pure ?_))
  have h21_e := h21_s.extBut
  have f3_z := h21_e _ _ D.i2z.symm f2_z
  have f3_TI := h21_e _ _ D.TIi2 f2_TI
  have f3_TO := h21_e _ _ D.TOi2 h14_t
  have f3_i1 := f2_i1.extBut h21_e D.i12
  have f3_l1 := f2_l1.extBut h21_e D.l1i2
  have f3_l2 := f2_l2.extBut h21_e D.l2i2
  refine wpAny_bind ?_
  show wpAny _ _ (seqItems? (.ref TO) >>= _) _ _ _
  refine wpAny_bind (wpAny_seqItems f3_TO rfl (wpAny_pure ?_))
  refine wpAny_bind (wpAny_updateSeq_pair f3_TO fun h24_ h24_t h24_s => ?_)
  replace h24_t : IsPair h24_ TO (x1) (x2) := h24_t
  have h24_e := h24_s.extBut
  have f4_z := h24_e _ _ D.TOz.symm f3_z
  have f4_TI := h24_e _ _ D.TITO f3_TI
  have f4_i1 := f3_i1.extBut h24_e D.TOi1.symm
  have f4_i2 := h21_i.extBut h24_e D.TOi2.symm
  have f4_l1 := f3_l1.extBut h24_e D.l1TO
  have f4_l2 := f3_l2.extBut h24_e D.l2TO
  refine wpAny_bind (wpAny_letGo (wpAny_pure (wpAny_pure ?_)))
  refine wpAny_bind ?_
  show wpAny _ _ (seqItems? (.ref TO) >>= _) _ _ _
  refine wpAny_bind (wpAny_seqItems h24_t rfl (wpAny_pure ?_))
  refine wpAny_bind (wpAny_newTuple ?_)
  have hk₅ : ∀ c o, c ≠ z → c ≠ TO → c ≠ TI → c ≠ i1 → c ≠ i2 → s.heap.get? c = some o → h24_.get? c = some o := fun c o c1 c2 c3 c4 c5 e => (h24_e _ _ c2 (h21_e _ _ c5 (h14_e _ _ c2 (h11_e _ _ c4 (eb₁ _ _ c1 e)))))
  have hsz : s.heap.objs.size ≤ h24_.objs.size := (Nat.le_trans (Nat.le_trans (Nat.le_trans (Nat.le_trans (Nat.le_of_eq hs₁.1.symm) (Nat.le_of_eq h11_s.1.symm)) (Nat.le_of_eq h14_s.1.symm)) (Nat.le_of_eq h21_s.1.symm)) (Nat.le_of_eq h24_s.1.symm))
  have hzlt : z < h24_.objs.size := Heap.lt_size f4_z
  show wpAny _ _ (Builtin.Itertools.itOwnedHandOut (.ref z) (.ref h24_.objs.size) >>= _) _ _ _
  refine wpAny_bind ?_
  unfold Builtin.Itertools.itOwnedHandOut
  have hz₆ : IsZl (h24_.push { cls := .type "tuple", data := .seq #[x1, x2] }) z TI TO .ellipsis fill 2 := Heap.get?_push_of_some _ f4_z
  refine wpAny_bind (wpAny_setField_rec hz₆ (by simp) fun h₇ hz₇ hs₇ => ?_)
  replace hz₇ : IsZl h₇ z TI TO (rawInt h24_.objs.size) fill 2 := hz₇
  refine wpAny_setField_rec hz₇ (by simp) fun h₈ hz₈ hs₈ => ?_
  replace hz₈ : IsZl h₈ z TI TO (rawInt h24_.objs.size) fill 2 := hz₈
  have up : ∀ c o, c ≠ z → h24_.get? c = some o → h₈.get? c = some o := fun c o c1 e => hs₈.extBut _ _ c1 (hs₇.extBut _ _ c1 (Heap.get?_push_of_some _ e))
  have hT₈ : IsPair h₈ h24_.objs.size x1 x2 := hs₈.extBut _ _ (Nat.ne_of_gt hzlt) (hs₇.extBut _ _ (Nat.ne_of_gt hzlt) (Heap.get?_push_size _ rfl))
  refine wpAny_pure ⟨_, rfl, ?_⟩
  exact hQ h₈ _ hsz hz₈ (up _ _ D.TIz f4_TI) (up _ _ D.TOz h24_t) (f4_i1.at fun o e => up _ o D.i1z e) (f4_i2.at fun o e => up _ o D.i2z e) hT₈ (fun c o c1 c2 c3 c4 c5 e => up c o c1 (hk₅ c o c1 c2 c3 c4 c5 e))
theorem zl_item_ie {z TI TO i1 i2 l1 l2 : Addr} {k1 k2 : Nat} {xs ys : Array Value} {x1 x2 a b fill : Value} {Q : Value → Shared → Prop} (hh : A.handled = none) (D : ZipApart z TI TO i1 i2 l1 l2) (n1 : l1 ≠ TI) (n2 : l2 ≠ TI)
    (hz : IsZl s.heap z TI TO .none fill 2) (hTI : IsPair s.heap TI (.ref i1) (.ref i2)) (hTO : IsPair s.heap TO a b) (h1 : s.heap.IsListIter i1 l1 k1) (h2 : s.heap.IsListIter i2 l2 k2) (hl1 : s.heap.IsList l1 xs) (hl2 : s.heap.IsList l2 ys) (hx1 : xs[k1]? = some x1) (hx2 : ys[k2]? = none)
    (hQ : ∀ h' T, s.heap.objs.size ≤ T → IsZl h' z TI TO (rawInt T) fill 1 → IsPair h' TI (.ref i1) (.none) → IsPair h' TO (x1) (fill) → h'.IsListIter i1 l1 (k1 + 1) → IsRec h' i2 → IsPair h' T (x1) (fill) →
      (∀ c o, c ≠ z → c ≠ TO → c ≠ TI → c ≠ i1 → c ≠ i2 → s.heap.get? c = some o → h'.get? c = some o) → Q (.ref T) { s with heap := h' }) :
    wpAny (model prog w) A (Builtin.«itertools.zip_longest.__next__» ⟨[.ref z], []⟩) (fun fin s' => ∃ v, fin = .done (.ret v) ∧ Q v s') E s := by
  show wpAny _ _ ((field (.ref z) 3 >>= _) >>= _) _ _ _
  refine wpAny_bind (wpAny_bind (wpAny_field hz rfl (x := rawInt 2) rfl ?_))
  show wpAny _ _ (pure (2 : Int)) _ _ _
  refine wpAny_pure ?_
  show wpAny _ _ (if ((2 : Int) == 0) = true then _ else _) _ _ _
  rw [if_neg (by decide)]
  show wpAny _ _ (field (.ref z) 4 >>= _) _ _ _
  refine wpAny_bind (wpAny_field hz rfl (x := .ref TI) rfl ?_)
  refine wpAny_bind ?_
  show wpAny _ _ (seqItems? (.ref TI) >>= _) _ _ _
  refine wpAny_bind (wpAny_seqItems hTI rfl (wpAny_pure ?_))
  refine wpAny_bind ?_
  show wpAny _ _ (field (.ref z) 0 >>= _) _ _ _
  refine wpAny_bind (wpAny_field hz rfl (x := .none) rfl (wpAny_pure ?_))
  simp only [if_true]
  refine wpAny_bind (wpAny_rule ?_)
  refine wpAny_bind (wpAny_field hz rfl (x := .ref TO) rfl ?_)
  refine wpAny_bind (wpAny_setField_rec hz (by simp) fun h₁ hz₁ hs₁ => ?_)
  replace hz₁ : IsZl h₁ z TI TO .ellipsis fill 2 := hz₁
  have eb₁ := hs₁.extBut
  have f0_TI := eb₁ _ _ D.TIz hTI
  have f0_TO := eb₁ _ _ D.TOz hTO
  have f0_i1 := h1.extBut eb₁ D.i1z
  have f0_i2 := h2.extBut eb₁ D.i2z
  have f0_l1 := hl1.extBut eb₁ D.l1z
  have f0_l2 := hl2.extBut eb₁ D.l2z
  refine wpAny_bind ?_
  rw [show List.range (#[Value.ref i1, Value.ref i2] : Array Value).size = [0, 1] from rfl]
  simp only [List.forIn_cons, List.forIn_nil]
  refine wpAny_bind (wpAny_bind (wpAny_onRaise ?_))
  show wpAny _ _ (field (.ref z) 4 >>= _) _ _ _
  refine wpAny_bind (wpAny_field hz₁ rfl (x := .ref TI) rfl ?_)
  refine wpAny_bind ?_
  show wpAny _ _ (seqItems? (.ref TI) >>= _) _ _ _
  refine wpAny_bind (wpAny_seqItems f0_TI rfl (wpAny_pure ?_))
  refine wpAny_bind (wpAny_field hz₁ rfl (x := fill) rfl ?_)
  show wpAny _ _ (if (Value.ref i1 == Value.none) = true then _ else _) _ _ _
  rw [if_neg (show ¬ ((Value.ref i1 == Value.none) = true) from Bool.false_ne_true)]
  refine wpAny_bind (wpAny_onRaise (wpAny_pyNext_list_item f0_i1 f0_l1 hx1 fun h11_ h11_i h11_s => wpAny_pure ?_))
  have h11_e := h11_s.extBut
  have f1_z := h11_e _ _ D.i1z.symm hz₁
  have f1_TI := h11_e _ _ D.TIi1 f0_TI
  have f1_TO := h11_e _ _ D.TOi1 f0_TO
  have f1_i2 := f0_i2.extBut h11_e D.i12.symm
  have f1_l1 := f0_l1.extBut h11_e D.l1i1
  have f1_l2 := f0_l2.extBut h11_e D.l2i1
  refine wpAny_bind ?_
  show wpAny _ _ (seqItems? (.ref TO) >>= _) _ _ _
  refine wpAny_bind (wpAny_seqItems f1_TO rfl (wpAny_pure ?_))
  refine wpAny_bind (wpAny_updateSeq_pair f1_TO fun h14_ h14_t h14_s => ?_)
  replace h14_t : IsPair h14_ TO (x1) (b) := h14_t
  have h14_e := h14_s.extBut
  have f2_z := h14_e _ _ D.TOz.symm f1_z
  have f2_TI := h14_e _ _ D.TITO f1_TI
  have f2_i1 := h11_i.extBut h14_e D.TOi1.symm
  have f2_i2 := f1_i2.extBut h14_e D.TOi2.symm
  have f2_l1 := f1_l1.extBut h14_e D.l1TO
  have f2_l2 := f1_l2.extBut h14_e D.l2TO
  refine wpAny_bind (wpAny_letGo (wpAny_pure ?_))
  refine wpAny_bind (wpAny_bind (wpAny_onRaise ?_))
  show wpAny _ _ (field (.ref z) 4 >>= _) _ _ _
  refine wpAny_bind (wpAny_field f2_z rfl (x := .ref TI) rfl ?_)
  refine wpAny_bind ?_
  show wpAny _ _ (seqItems? (.ref TI) >>= _) _ _ _
  refine wpAny_bind (wpAny_seqItems f2_TI rfl (wpAny_pure ?_))
  refine wpAny_bind (wpAny_field f2_z rfl (x := fill) rfl ?_)
  show wpAny _ _ (if (Value.ref i2 == Value.none) = true then _ else _) _ _ _
  rw [if_neg (show ¬ ((Value.ref i2 == Value.none) = true) from Bool.false_ne_true)]
  refine wpAny_bind (wpAny_onRaise (next_list_end hh f2_i2 f2_l2 hx2 fun h21_ h21_e h21_i h21_z => ?_))
  have f3_z := h21_e _ _ D.i2z.symm f2_z
  have f3_TI := h21_e _ _ D.TIi2 f2_TI
  have f3_TO := h21_e _ _ D.TOi2 h14_t
  have f3_i1 := f2_i1.extBut h21_e D.i12
  have f3_l1 := f2_l1.extBut h21_e D.l1i2
  have f3_l2 := f2_l2.extBut h21_e D.l2i2
  refine wpAny_bind ?_
  show wpAny _ _ (seqItems? (.ref TI) >>= _) _ _ _
  refine wpAny_bind (wpAny_seqItems f3_TI rfl (wpAny_pure ?_))
  show wpAny _ _ (if (Value.ref i2 == Value.none) = true then _ else _) _ _ _
  rw [if_neg (show ¬ ((Value.ref i2 == Value.none) = true) from Bool.false_ne_true)]
  refine wpAny_bind ?_
  show wpAny _ _ (field (.ref z) 3 >>= _) _ _ _
  refine wpAny_bind (wpAny_field f3_z rfl (x := rawInt 2) rfl (wpAny_pure ?_))
  refine wpAny_bind (wpAny_setField_rec f3_z (by simp) fun h22_ h22_z h22_s => ?_)
  replace h22_z : IsZl h22_ z TI TO .ellipsis fill 1 := h22_z
  have h22_e := h22_s.extBut
  have f4_TI := h22_e _ _ D.TIz f3_TI
  have f4_TO := h22_e _ _ D.TOz f3_TO
  have f4_i1 := f3_i1.extBut h22_e D.i1z
  have f4_i2 := h21_i.extBut h22_e D.i2z
  have f4_l1 := f3_l1.extBut h22_e D.l1z
  have f4_l2 := f3_l2.extBut h22_e D.l2z
  show wpAny _ _ (if ((2 : Int) == 1) = true then _ else _) _ _ _
  rw [if_neg (by decide)]
  refine wpAny_bind (wpAny_rule ?_)
  refine wpAny_bind (wpAny_updateSeq_pair f4_TI fun h23_ h23_t h23_s => ?_)
  replace h23_t : IsPair h23_ TI (.ref i1) (.none) := h23_t
  have h23_e := h23_s.extBut
  have f5_z := h23_e _ _ D.TIz.symm h22_z
  have f5_TO := h23_e _ _ D.TITO.symm f4_TO
  have f5_i1 := f4_i1.extBut h23_e D.TIi1.symm
  have f5_i2 := f4_i2.extBut h23_e D.TIi2.symm
  have f5_l1 := f4_l1.extBut h23_e n1
  have f5_l2 := f4_l2.extBut h23_e n2
  refine wpAny_bind (wpAny_letGo (wpAny_pure ?_))
  refine wpAny_bind ?_
  show wpAny _ _ (seqItems? (.ref TO) >>= _) _ _ _
  refine wpAny_bind (wpAny_seqItems f5_TO rfl (wpAny_pure ?_))
  refine wpAny_bind (wpAny_updateSeq_pair f5_TO fun h24_ h24_t h24_s => ?_)
  replace h24_t : IsPair h24_ TO (x1) (fill) := h24_t
  have h24_e := h24_s.extBut
  have f6_z := h24_e _ _ D.TOz.symm f5_z
  have f6_TI := h24_e _ _ D.TITO h23_t
  have f6_i1 := f5_i1.extBut h24_e D.TOi1.symm
  have f6_i2 := f5_i2.extBut h24_e D.TOi2.symm
  have f6_l1 := f5_l1.extBut h24_e D.l1TO
  have f6_l2 := f5_l2.extBut h24_e D.l2TO
  refine wpAny_bind (wpAny_letGo (wpAny_pure (wpAny_pure ?_)))
  refine wpAny_bind ?_
  show wpAny _ _ (seqItems? (.ref TO) >>= _) _ _ _
  refine wpAny_bind (wpAny_seqItems h24_t rfl (wpAny_pure ?_))
  refine wpAny_bind (wpAny_newTuple ?_)
  have hk₅ : ∀ c o, c ≠ z → c ≠ TO → c ≠ TI → c ≠ i1 → c ≠ i2 → s.heap.get? c = some o → h24_.get? c = some o := fun c o c1 c2 c3 c4 c5 e => (h24_e _ _ c2 (h23_e _ _ c3 (h22_e _ _ c1 (h21_e _ _ c5 (h14_e _ _ c2 (h11_e _ _ c4 (eb₁ _ _ c1 e)))))))
  have hsz : s.heap.objs.size ≤ h24_.objs.size := (Nat.le_trans (Nat.le_trans (Nat.le_trans (Nat.le_trans (Nat.le_trans (Nat.le_trans (Nat.le_of_eq hs₁.1.symm) (Nat.le_of_eq h11_s.1.symm)) (Nat.le_of_eq h14_s.1.symm)) h21_z) (Nat.le_of_eq h22_s.1.symm)) (Nat.le_of_eq h23_s.1.symm)) (Nat.le_of_eq h24_s.1.symm))
  have hzlt : z < h24_.objs.size := Heap.lt_size f6_z
  show wpAny _ _ (Builtin.Itertools.itOwnedHandOut (.ref z) (.ref h24_.objs.size) >>= _) _ _ _
  refine wpAny_bind ?_
  unfold Builtin.Itertools.itOwnedHandOut
  have hz₆ : IsZl (h24_.push { cls := .type "tuple", data := .seq #[x1, fill] }) z TI TO .ellipsis fill 1 := Heap.get?_push_of_some _ f6_z
  refine wpAny_bind (wpAny_setField_rec hz₆ (by simp) fun h₇ hz₇ hs₇ => ?_)
  replace hz₇ : IsZl h₇ z TI TO (rawInt h24_.objs.size) fill 1 := hz₇
  refine wpAny_setField_rec hz₇ (by simp) fun h₈ hz₈ hs₈ => ?_
  replace hz₈ : IsZl h₈ z TI TO (rawInt h24_.objs.size) fill 1 := hz₈
  have up : ∀ c o, c ≠ z → h24_.get? c = some o → h₈.get? c = some o := fun c o c1 e => hs₈.extBut _ _ c1 (hs₇.extBut _ _ c1 (Heap.get?_push_of_some _ e))
  have hT₈ : IsPair h₈ h24_.objs.size x1 fill := hs₈.extBut _ _ (Nat.ne_of_gt hzlt) (hs₇.extBut _ _ (Nat.ne_of_gt hzlt) (Heap.get?_push_size _ rfl))
  refine wpAny_pure ⟨_, rfl, ?_⟩
  exact hQ h₈ _ hsz hz₈ (up _ _ D.TIz f6_TI) (up _ _ D.TOz h24_t) (f6_i1.at fun o e => up _ o D.i1z e) (f6_i2.at fun o e => up _ o D.i2z e) hT₈ (fun c o c1 c2 c3 c4 c5 e => up c o c1 (hk₅ c o c1 c2 c3 c4 c5 e))
theorem zl_item_id {z TI TO i1 i2 l1 l2 : Addr} {k1 k2 : Nat} {xs ys : Array Value} {x1 x2 a b fill : Value} {Q : Value → Shared → Prop} (hh : A.handled = none) (D : ZipApart z TI TO i1 i2 l1 l2) (n1 : l1 ≠ TI) (n2 : l2 ≠ TI)
    (hz : IsZl s.heap z TI TO .none fill 1) (hTI : IsPair s.heap TI (.ref i1) (.none)) (hTO : IsPair s.heap TO a b) (h1 : s.heap.IsListIter i1 l1 k1) (h2 : IsRec s.heap i2) (hl1 : s.heap.IsList l1 xs) (hl2 : s.heap.IsList l2 ys) (hx1 : xs[k1]? = some x1)
    (hQ : ∀ h' T, s.heap.objs.size ≤ T → IsZl h' z TI TO (rawInt T) fill 1 → IsPair h' TI (.ref i1) (.none) → IsPair h' TO (x1) (fill) → h'.IsListIter i1 l1 (k1 + 1) → IsRec h' i2 → IsPair h' T (x1) (fill) →
      (∀ c o, c ≠ z → c ≠ TO → c ≠ TI → c ≠ i1 → c ≠ i2 → s.heap.get? c = some o → h'.get? c = some o) → Q (.ref T) { s with heap := h' }) :
    wpAny (model prog w) A (Builtin.«itertools.zip_longest.__next__» ⟨[.ref z], []⟩) (fun fin s' => ∃ v, fin = .done (.ret v) ∧ Q v s') E s := by
  show wpAny _ _ ((field (.ref z) 3 >>= _) >>= _) _ _ _
  refine wpAny_bind (wpAny_bind (wpAny_field hz rfl (x := rawInt 1) rfl ?_))
  show wpAny _ _ (pure (1 : Int)) _ _ _
  refine wpAny_pure ?_
  show wpAny _ _ (if ((1 : Int) == 0) = true then _ else _) _ _ _
  rw [if_neg (by decide)]
  show wpAny _ _ (field (.ref z) 4 >>= _) _ _ _
  refine wpAny_bind (wpAny_field hz rfl (x := .ref TI) rfl ?_)
  refine wpAny_bind ?_
  show wpAny _ _ (seqItems? (.ref TI) >>= _) _ _ _
  refine wpAny_bind (wpAny_seqItems hTI rfl (wpAny_pure ?_))
  refine wpAny_bind ?_
  show wpAny _ _ (field (.ref z) 0 >>= _) _ _ _
  refine wpAny_bind (wpAny_field hz rfl (x := .none) rfl (wpAny_pure ?_))
  simp only [if_true]
  refine wpAny_bind (wpAny_rule ?_)
  refine wpAny_bind (wpAny_field hz rfl (x := .ref TO) rfl ?_)
  refine wpAny_bind (wpAny_setField_rec hz (by simp) fun h₁ hz₁ hs₁ => ?_)
  replace hz₁ : IsZl h₁ z TI TO .ellipsis fill 1 := hz₁
  have eb₁ := hs₁.extBut
  have f0_TI := eb₁ _ _ D.TIz hTI
  have f0_TO := eb₁ _ _ D.TOz hTO
  have f0_i1 := h1.extBut eb₁ D.i1z
  have f0_i2 := h2.extBut eb₁ D.i2z
  have f0_l1 := hl1.extBut eb₁ D.l1z
  have f0_l2 := hl2.extBut eb₁ D.l2z
  refine wpAny_bind ?_
  rw [show List.range (#[Value.ref i1, Value.none] : Array Value).size = [0, 1] from rfl]
  simp only [List.forIn_cons, List.forIn_nil]
  refine wpAny_bind (wpAny_bind (wpAny_onRaise ?_))
  show wpAny _ _ (field (.ref z) 4 >>= _) _ _ _
  refine wpAny_bind (wpAny_field hz₁ rfl (x := .ref TI) rfl ?_)
  refine wpAny_bind ?_
  show wpAny _ _ (seqItems? (.ref TI) >>= _) _ _ _
  refine wpAny_bind (wpAny_seqItems f0_TI rfl (wpAny_pure ?_))
  refine wpAny_bind (wpAny_field hz₁ rfl (x := fill) rfl ?_)
  show wpAny _ _ (if (Value.ref i1 == Value.none) = true then _ else _) _ _ _
  rw [if_neg (show ¬ ((Value.ref i1 == Value.none) = true) from Bool.false_ne_true)]
  refine wpAny_bind (wpAny_onRaise (wpAny_pyNext_list_item f0_i1 f0_l1 hx1 fun h11_ h11_i h11_s => wpAny_pure ?_))
  have h11_e := h11_s.extBut
  have f1_z := h11_e _ _ D.i1z.symm hz₁
  have f1_TI := h11_e _ _ D.TIi1 f0_TI
  have f1_TO := h11_e _ _ D.TOi1 f0_TO
  have f1_i2 := f0_i2.extBut h11_e D.i12.symm
  have f1_l1 := f0_l1.extBut h11_e D.l1i1
  have f1_l2 := f0_l2.extBut h11_e D.l2i1
  refine wpAny_bind ?_
  show wpAny _ _ (seqItems? (.ref TO) >>= _) _ _ _
  refine wpAny_bind (wpAny_seqItems f1_TO rfl (wpAny_pure ?_))
  refine wpAny_bind (wpAny_updateSeq_pair f1_TO fun h14_ h14_t h14_s => ?_)
  replace h14_t : IsPair h14_ TO (x1) (b) := h14_t
  have h14_e := h14_s.extBut
  have f2_z := h14_e _ _ D.TOz.symm f1_z
  have f2_TI := h14_e _ _ D.TITO f1_TI
  have f2_i1 := h11_i.extBut h14_e D.TOi1.symm
  have f2_i2 := f1_i2.extBut h14_e D.TOi2.symm
  have f2_l1 := f1_l1.extBut h14_e D.l1TO
  have f2_l2 := f1_l2.extBut h14_e D.l2TO
  refine wpAny_bind (wpAny_letGo (wpAny_pure ?_))
  refine wpAny_bind (wpAny_bind (wpAny_onRaise ?_))
  show wpAny _ _ (field (.ref z) 4 >>= _) _ _ _
  refine wpAny_bind (wpAny_field f2_z rfl (x := .ref TI) rfl ?_)
  refine wpAny_bind ?_
  show wpAny _ _ (seqItems? (.ref TI) >>= _) _ _ _
  refine wpAny_bind (wpAny_seqItems f2_TI rfl (wpAny_pure ?_))
  refine wpAny_bind (wpAny_field f2_z rfl (x := fill) rfl ?_)
  show wpAny _ _ (if (Value.none == Value.none) = true then _ else _) _ _ _
  rw [if_pos (show (Value.none == Value.none) = true from rfl)]
  refine wpAny_pure ?_
  refine wpAny_bind ?_
  show wpAny _ _ (seqItems? (.ref TO) >>= _) _ _ _
  refine wpAny_bind (wpAny_seqItems h14_t rfl (wpAny_pure ?_))
  refine wpAny_bind (wpAny_updateSeq_pair h14_t fun h24_ h24_t h24_s => ?_)
  replace h24_t : IsPair h24_ TO (x1) (fill) := h24_t
  have h24_e := h24_s.extBut
  have f3_z := h24_e _ _ D.TOz.symm f2_z
  have f3_TI := h24_e _ _ D.TITO f2_TI
  have f3_i1 := f2_i1.extBut h24_e D.TOi1.symm
  have f3_i2 := f2_i2.extBut h24_e D.TOi2.symm
  have f3_l1 := f2_l1.extBut h24_e D.l1TO
  have f3_l2 := f2_l2.extBut h24_e D.l2TO
  refine wpAny_bind (wpAny_letGo (wpAny_pure (wpAny_pure ?_)))
  refine wpAny_bind ?_
  show wpAny _ _ (seqItems? (.ref TO) >>= _) _ _ _
  refine wpAny_bind (wpAny_seqItems h24_t rfl (wpAny_pure ?_))
  refine wpAny_bind (wpAny_newTuple ?_)
  have hk₅ : ∀ c o, c ≠ z → c ≠ TO → c ≠ TI → c ≠ i1 → c ≠ i2 → s.heap.get? c = some o → h24_.get? c = some o := fun c o c1 c2 c3 c4 c5 e => (h24_e _ _ c2 (h14_e _ _ c2 (h11_e _ _ c4 (eb₁ _ _ c1 e))))
  have hsz : s.heap.objs.size ≤ h24_.objs.size := (Nat.le_trans (Nat.le_trans (Nat.le_trans (Nat.le_of_eq hs₁.1.symm) (Nat.le_of_eq h11_s.1.symm)) (Nat.le_of_eq h14_s.1.symm)) (Nat.le_of_eq h24_s.1.symm))
  have hzlt : z < h24_.objs.size := Heap.lt_size f3_z
  show wpAny _ _ (Builtin.Itertools.itOwnedHandOut (.ref z) (.ref h24_.objs.size) >>= _) _ _ _
  refine wpAny_bind ?_
  unfold Builtin.Itertools.itOwnedHandOut
  have hz₆ : IsZl (h24_.push { cls := .type "tuple", data := .seq #[x1, fill] }) z TI TO .ellipsis fill 1 := Heap.get?_push_of_some _ f3_z
  refine wpAny_bind (wpAny_setField_rec hz₆ (by simp) fun h₇ hz₇ hs₇ => ?_)
  replace hz₇ : IsZl h₇ z TI TO (rawInt h24_.objs.size) fill 1 := hz₇
  refine wpAny_setField_rec hz₇ (by simp) fun h₈ hz₈ hs₈ => ?_
  replace hz₈ : IsZl h₈ z TI TO (rawInt h24_.objs.size) fill 1 := hz₈
  have up : ∀ c o, c ≠ z → h24_.get? c = some o → h₈.get? c = some o := fun c o c1 e => hs₈.extBut _ _ c1 (hs₇.extBut _ _ c1 (Heap.get?_push_of_some _ e))
  have hT₈ : IsPair h₈ h24_.objs.size x1 fill := hs₈.extBut _ _ (Nat.ne_of_gt hzlt) (hs₇.extBut _ _ (Nat.ne_of_gt hzlt) (Heap.get?_push_size _ rfl))
  refine wpAny_pure ⟨_, rfl, ?_⟩
  exact hQ h₈ _ hsz hz₈ (up _ _ D.TIz f3_TI) (up _ _ D.TOz h24_t) (f3_i1.at fun o e => up _ o D.i1z e) (f3_i2.at fun o e => up _ o D.i2z e) hT₈ (fun c o c1 c2 c3 c4 c5 e => up c o c1 (hk₅ c o c1 c2 c3 c4 c5 e))
theorem zl_item_ei {z TI TO i1 i2 l1 l2 : Addr} {k1 k2 : Nat} {xs ys : Array Value} {x1 x2 a b fill : Value} {Q : Value → Shared → Prop} (hh : A.handled = none) (D : ZipApart z TI TO i1 i2 l1 l2) (n1 : l1 ≠ TI) (n2 : l2 ≠ TI)
    (hz : IsZl s.heap z TI TO .none fill 2) (hTI : IsPair s.heap TI (.ref i1) (.ref i2)) (hTO : IsPair s.heap TO a b) (h1 : s.heap.IsListIter i1 l1 k1) (h2 : s.heap.IsListIter i2 l2 k2) (hl1 : s.heap.IsList l1 xs) (hl2 : s.heap.IsList l2 ys) (hx1 : xs[k1]? = none) (hx2 : ys[k2]? = some x2)
    (hQ : ∀ h' T, s.heap.objs.size ≤ T → IsZl h' z TI TO (rawInt T) fill 1 → IsPair h' TI (.none) (.ref i2) → IsPair h' TO (fill) (x2) → IsRec h' i1 → h'.IsListIter i2 l2 (k2 + 1) → IsPair h' T (fill) (x2) →
      (∀ c o, c ≠ z → c ≠ TO → c ≠ TI → c ≠ i1 → c ≠ i2 → s.heap.get? c = some o → h'.get? c = some o) → Q (.ref T) { s with heap := h' }) :
    wpAny (model prog w) A (Builtin.«itertools.zip_longest.__next__» ⟨[.ref z], []⟩) (fun fin s' => ∃ v, fin = .done (.ret v) ∧ Q v s') E s := by
  show wpAny _ _ ((field (.ref z) 3 >>= _) >>= _) _ _ _
  refine wpAny_bind (wpAny_bind (wpAny_field hz rfl (x := rawInt 2) rfl ?_))
  show wpAny _ _ (pure (2 : Int)) _ _ _
  refine wpAny_pure ?_
  show wpAny _ _ (if ((2 : Int) == 0) = true then _ else _) _ _ _
  rw [if_neg (by decide)]
  show wpAny _ _ (field (.ref z) 4 >>= _) _ _ _
  refine wpAny_bind (wpAny_field hz rfl (x := .ref TI) rfl ?_)
  refine wpAny_bind ?_
  show wpAny _ _ (seqItems? (.ref TI) >>= _) _ _ _
  refine wpAny_bind (wpAny_seqItems hTI rfl (wpAny_pure ?_))
  refine wpAny_bind ?_
  show wpAny _ _ (field (.ref z) 0 >>= _) _ _ _
  refine wpAny_bind (wpAny_field hz rfl (x := .none) rfl (wpAny_pure ?_))
  simp only [if_true]
  refine wpAny_bind (wpAny_rule ?_)
  refine wpAny_bind (wpAny_field hz rfl (x := .ref TO) rfl ?_)
  refine wpAny_bind (wpAny_setField_rec hz (by simp) fun h₁ hz₁ hs₁ => ?_)
  replace hz₁ : IsZl h₁ z TI TO .ellipsis fill 2 := hz₁
  have eb₁ := hs₁.extBut
  have f0_TI := eb₁ _ _ D.TIz hTI
  have f0_TO := eb₁ _ _ D.TOz hTO
  have f0_i1 := h1.extBut eb₁ D.i1z
  have f0_i2 := h2.extBut eb₁ D.i2z
  have f0_l1 := hl1.extBut eb₁ D.l1z
  have f0_l2 := hl2.extBut eb₁ D.l2z
  refine wpAny_bind ?_
  rw [show List.range (#[Value.ref i1, Value.ref i2] : Array Value).size = [0, 1] from rfl]
  simp only [List.forIn_cons, List.forIn_nil]
  refine wpAny_bind (wpAny_bind (wpAny_onRaise ?_))
  show wpAny _ _ (field (.ref z) 4 >>= _) _ _ _
  refine wpAny_bind (wpAny_field hz₁ rfl (x := .ref TI) rfl ?_)
  refine wpAny_bind ?_
  show wpAny _ _ (seqItems? (.ref TI) >>= _) _ _ _
  refine wpAny_bind (wpAny_seqItems f0_TI rfl (wpAny_pure ?_))
  refine wpAny_bind (wpAny_field hz₁ rfl (x := fill) rfl ?_)
  show wpAny _ _ (if (Value.ref i1 == Value.none) = true then _ else _) _ _ _
  rw [if_neg (show ¬ ((Value.ref i1 == Value.none) = true) from Bool.false_ne_true)]
  refine wpAny_bind (wpAny_onRaise (next_list_end hh f0_i1 f0_l1 hx1 fun h11_ h11_e h11_i h11_z => ?_))
  have f1_z := h11_e _ _ D.i1z.symm hz₁
  have f1_TI := h11_e _ _ D.TIi1 f0_TI
  have f1_TO := h11_e _ _ D.TOi1 f0_TO
  have f1_i2 := f0_i2.extBut h11_e D.i12.symm
  have f1_l1 := f0_l1.extBut h11_e D.l1i1
  have f1_l2 := f0_l2.extBut h11_e D.l2i1
  refine wpAny_bind ?_
  show wpAny _ _ (seqItems? (.ref TI) >>= _) _ _ _
  refine wpAny_bind (wpAny_seqItems f1_TI rfl (wpAny_pure ?_))
  show wpAny _ _ (if (Value.ref i1 == Value.none) = true then _ else _) _ _ _
  rw [if_neg (show ¬ ((Value.ref i1 == Value.none) = true) from Bool.false_ne_true)]
  refine wpAny_bind ?_
  show wpAny _ _ (field (.ref z) 3 >>= _) _ _ _
  refine wpAny_bind (wpAny_field f1_z rfl (x := rawInt 2) rfl (wpAny_pure ?_))
  refine wpAny_bind (wpAny_setField_rec f1_z (by simp) fun h12_ h12_z h12_s => ?_)
  replace h12_z : IsZl h12_ z TI TO .ellipsis fill 1 := h12_z
  have h12_e := h12_s.extBut
  have f2_TI := h12_e _ _ D.TIz f1_TI
  have f2_TO := h12_e _ _ D.TOz f1_TO
  have f2_i1 := h11_i.extBut h12_e D.i1z
  have f2_i2 := f1_i2.extBut h12_e D.i2z
  have f2_l1 := f1_l1.extBut h12_e D.l1z
  have f2_l2 := f1_l2.extBut h12_e D.l2z
  show wpAny _ _ (if ((2 : Int) == 1) = true then _ else _) _ _ _
  rw [if_neg (by decide)]
  refine wpAny_bind (wpAny_rule ?_)
  refine wpAny_bind (wpAny_updateSeq_pair f2_TI fun h13_ h13_t h13_s => ?_)
  replace h13_t : IsPair h13_ TI (.none) (.ref i2) := h13_t
  have h13_e := h13_s.extBut
  have f3_z := h13_e _ _ D.TIz.symm h12_z
  have f3_TO := h13_e _ _ D.TITO.symm f2_TO
  have f3_i1 := f2_i1.extBut h13_e D.TIi1.symm
  have f3_i2 := f2_i2.extBut h13_e D.TIi2.symm
  have f3_l1 := f2_l1.extBut h13_e n1
  have f3_l2 := f2_l2.extBut h13_e n2
  refine wpAny_bind (wpAny_letGo (wpAny_pure ?_))
  refine wpAny_bind ?_
  show wpAny _ _ (seqItems? (.ref TO) >>= _) _ _ _
  refine wpAny_bind (wpAny_seqItems f3_TO rfl (wpAny_pure ?_))
  refine wpAny_bind (wpAny_updateSeq_pair f3_TO fun h14_ h14_t h14_s => ?_)
  replace h14_t : IsPair h14_ TO (fill) (b) := h14_t
  have h14_e := h14_s.extBut
  have f4_z := h14_e _ _ D.TOz.symm f3_z
  have f4_TI := h14_e _ _ D.TITO h13_t
  have f4_i1 := f3_i1.extBut h14_e D.TOi1.symm
  have f4_i2 := f3_i2.extBut h14_e D.TOi2.symm
  have f4_l1 := f3_l1.extBut h14_e D.l1TO
  have f4_l2 := f3_l2.extBut h14_e D.l2TO
  refine wpAny_bind (wpAny_letGo (wpAny_pure ?_))
  refine wpAny_bind (wpAny_bind (wpAny_onRaise ?_))
  show wpAny _ _ (field (.ref z) 4 >>= _) _ _ _
  refine wpAny_bind (wpAny_field f4_z rfl (x := .ref TI) rfl ?_)
  refine wpAny_bind ?_
  show wpAny _ _ (seqItems? (.ref TI) >>= _) _ _ _
  refine wpAny_bind (wpAny_seqItems f4_TI rfl (wpAny_pure ?_))
  refine wpAny_bind (wpAny_field f4_z rfl (x := fill) rfl ?_)
  show wpAny _ _ (if (Value.ref i2 == Value.none) = true then _ else _) _ _ _
  rw [if_neg (show ¬ ((Value.ref i2 == Value.none) = true) from Bool.false_ne_true)]
  refine wpAny_bind (wpAny_onRaise (wpAny_pyNext_list_item f4_i2 f4_l2 hx2 fun h21_ h21_i h21_s => wpAny_pure ?_))
  have h21_e := h21_s.extBut
  have f5_z := h21_e _ _ D.i2z.symm f4_z
  have f5_TI := h21_e _ _ D.TIi2 f4_TI
  have f5_TO := h21_e _ _ D.TOi2 h14_t
  have f5_i1 := f4_i1.extBut h21_e D.i12
  have f5_l1 := f4_l1.extBut h21_e D.l1i2
  have f5_l2 := f4_l2.extBut h21_e D.l2i2
  refine wpAny_bind ?_
  show wpAny _ _ (seqItems? (.ref TO) >>= _) _ _ _
  refine wpAny_bind (wpAny_seqItems f5_TO rfl (wpAny_pure ?_))
  refine wpAny_bind (wpAny_updateSeq_pair f5_TO fun h24_ h24_t h24_s => ?_)
  replace h24_t : IsPair h24_ TO (fill) (x2) := h24_t
  have h24_e := h24_s.extBut
  have f6_z := h24_e _ _ D.TOz.symm f5_z
  have f6_TI := h24_e _ _ D.TITO f5_TI
  have f6_i1 := f5_i1.extBut h24_e D.TOi1.symm
  have f6_i2 := h21_i.extBut h24_e D.TOi2.symm
  have f6_l1 := f5_l1.extBut h24_e D.l1TO
  have f6_l2 := f5_l2.extBut h24_e D.l2TO
  refine wpAny_bind (wpAny_letGo (wpAny_pure (wpAny_pure ?_)))
  refine wpAny_bind ?_
  show wpAny _ _ (seqItems? (.ref TO) >>= _) _ _ _
  refine wpAny_bind (wpAny_seqItems h24_t rfl (wpAny_pure ?_))
  refine wpAny_bind (wpAny_newTuple ?_)
  have hk₅ : ∀ c o, c ≠ z → c ≠ TO → c ≠ TI → c ≠ i1 → c ≠ i2 → s.heap.get? c = some o → h24_.get? c = some o := fun c o c1 c2 c3 c4 c5 e => (h24_e _ _ c2 (h21_e _ _ c5 (h14_e _ _ c2 (h13_e _ _ c3 (h12_e _ _ c1 (h11_e _ _ c4 (eb₁ _ _ c1 e)))))))
  have hsz : s.heap.objs.size ≤ h24_.objs.size := (Nat.le_trans (Nat.le_trans (Nat.le_trans (Nat.le_trans (Nat.le_trans (Nat.le_trans (Nat.le_of_eq hs₁.1.symm) h11_z) (Nat.le_of_eq h12_s.1.symm)) (Nat.le_of_eq h13_s.1.symm)) (Nat.le_of_eq h14_s.1.symm)) (Nat.le_of_eq h21_s.1.symm)) (Nat.le_of_eq h24_s.1.symm))
  have hzlt : z < h24_.objs.size := Heap.lt_size f6_z
  show wpAny _ _ (Builtin.Itertools.itOwnedHandOut (.ref z) (.ref h24_.objs.size) >>= _) _ _ _
  refine wpAny_bind ?_
  unfold Builtin.Itertools.itOwnedHandOut
  have hz₆ : IsZl (h24_.push { cls := .type "tuple", data := .seq #[fill, x2] }) z TI TO .ellipsis fill 1 := Heap.get?_push_of_some _ f6_z
  refine wpAny_bind (wpAny_setField_rec hz₆ (by simp) fun h₇ hz₇ hs₇ => ?_)
  replace hz₇ : IsZl h₇ z TI TO (rawInt h24_.objs.size) fill 1 := hz₇
  refine wpAny_setField_rec hz₇ (by simp) fun h₈ hz₈ hs₈ => ?_
  replace hz₈ : IsZl h₈ z TI TO (rawInt h24_.objs.size) fill 1 := hz₈
  have up : ∀ c o, c ≠ z → h24_.get? c = some o → h₈.get? c = some o := fun c o c1 e => hs₈.extBut _ _ c1 (hs₇.extBut _ _ c1 (Heap.get?_push_of_some _ e))
  have hT₈ : IsPair h₈ h24_.objs.size fill x2 := hs₈.extBut _ _ (Nat.ne_of_gt hzlt) (hs₇.extBut _ _ (Nat.ne_of_gt hzlt) (Heap.get?_push_size _ rfl))
  refine wpAny_pure ⟨_, rfl, ?_⟩
  exact hQ h₈ _ hsz hz₈ (up _ _ D.TIz f6_TI) (up _ _ D.TOz h24_t) (f6_i1.at fun o e => up _ o D.i1z e) (f6_i2.at fun o e => up _ o D.i2z e) hT₈ (fun c o c1 c2 c3 c4 c5 e => up c o c1 (hk₅ c o c1 c2 c3 c4 c5 e))
theorem zl_item_di {z TI TO i1 i2 l1 l2 : Addr} {k1 k2 : Nat} {xs ys : Array Value} {x1 x2 a b fill : Value} {Q : Value → Shared → Prop} (hh : A.handled = none) (D : ZipApart z TI TO i1 i2 l1 l2) (n1 : l1 ≠ TI) (n2 : l2 ≠ TI)
    (hz : IsZl s.heap z TI TO .none fill 1) (hTI : IsPair s.heap TI (.none) (.ref i2)) (hTO : IsPair s.heap TO a b) (h1 : IsRec s.heap i1) (h2 : s.heap.IsListIter i2 l2 k2) (hl1 : s.heap.IsList l1 xs) (hl2 : s.heap.IsList l2 ys) (hx2 : ys[k2]? = some x2)
    (hQ : ∀ h' T, s.heap.objs.size ≤ T → IsZl h' z TI TO (rawInt T) fill 1 → IsPair h' TI (.none) (.ref i2) → IsPair h' TO (fill) (x2) → IsRec h' i1 → h'.IsListIter i2 l2 (k2 + 1) → IsPair h' T (fill) (x2) →
      (∀ c o, c ≠ z → c ≠ TO → c ≠ TI → c ≠ i1 → c ≠ i2 → s.heap.get? c = some o → h'.get? c = some o) → Q (.ref T) { s with heap := h' }) :
    wpAny (model prog w) A (Builtin.«itertools.zip_longest.__next__» ⟨[.ref z], []⟩) (fun fin s' => ∃ v, fin = .done (.ret v) ∧ Q v s') E s := by
  show wpAny _ _ ((field (.ref z) 3 >>= _) >>= _) _ _ _
  refine wpAny_bind (wpAny_bind (wpAny_field hz rfl (x := rawInt 1) rfl ?_))
  show wpAny _ _ (pure (1 : Int)) _ _ _
  refine wpAny_pure ?_
  show wpAny _ _ (if ((1 : Int) == 0) = true then _ else _) _ _ _
  rw [if_neg (by decide)]
  show wpAny _ _ (field (.ref z) 4 >>= _) _ _ _
  refine wpAny_bind (wpAny_field hz rfl (x := .ref TI) rfl ?_)
  refine wpAny_bind ?_
  show wpAny _ _ (seqItems? (.ref TI) >>= _) _ _ _
  refine wpAny_bind (wpAny_seqItems hTI rfl (wpAny_pure ?_))
  refine wpAny_bind ?_
  show wpAny _ _ (field (.ref z) 0 >>= _) _ _ _
  refine wpAny_bind (wpAny_field hz rfl (x := .none) rfl (wpAny_pure ?_))
  simp only [if_true]
  refine wpAny_bind (wpAny_rule ?_)
  refine wpAny_bind (wpAny_field hz rfl (x := .ref TO) rfl ?_)
  refine wpAny_bind (wpAny_setField_rec hz (by simp) fun h₁ hz₁ hs₁ => ?_)
  replace hz₁ : IsZl h₁ z TI TO .ellipsis fill 1 := hz₁
  have eb₁ := hs₁.extBut
  have f0_TI := eb₁ _ _ D.TIz hTI
  have f0_TO := eb₁ _ _ D.TOz hTO
  have f0_i1 := h1.extBut eb₁ D.i1z
  have f0_i2 := h2.extBut eb₁ D.i2z
  have f0_l1 := hl1.extBut eb₁ D.l1z
  have f0_l2 := hl2.extBut eb₁ D.l2z
  refine wpAny_bind ?_
  rw [show List.range (#[Value.none, Value.ref i2] : Array Value).size = [0, 1] from rfl]
  simp only [List.forIn_cons, List.forIn_nil]
  refine wpAny_bind (wpAny_bind (wpAny_onRaise ?_))
  show wpAny _ _ (field (.ref z) 4 >>= _) _ _ _
  refine wpAny_bind (wpAny_field hz₁ rfl (x := .ref TI) rfl ?_)
  refine wpAny_bind ?_
  show wpAny _ _ (seqItems? (.ref TI) >>= _) _ _ _
  refine wpAny_bind (wpAny_seqItems f0_TI rfl (wpAny_pure ?_))
  refine wpAny_bind (wpAny_field hz₁ rfl (x := fill) rfl ?_)
  show wpAny _ _ (if (Value.none == Value.none) = true then _ else _) _ _ _
  rw [if_pos (show (Value.none == Value.none) = true from rfl)]
  refine wpAny_pure ?_
  refine wpAny_bind ?_
  show wpAny _ _ (seqItems? (.ref TO) >>= _) _ _ _
  refine wpAny_bind (wpAny_seqItems f0_TO rfl (wpAny_pure ?_))
  refine wpAny_bind (wpAny_updateSeq_pair f0_TO fun h14_ h14_t h14_s => ?_)
  replace h14_t : IsPair h14_ TO (fill) (b) := h14_t
  have h14_e := h14_s.extBut
  have f1_z := h14_e _ _ D.TOz.symm hz₁
  have f1_TI := h14_e _ _ D.TITO f0_TI
  have f1_i1 := f0_i1.extBut h14_e D.TOi1.symm
  have f1_i2 := f0_i2.extBut h14_e D.TOi2.symm
  have f1_l1 := f0_l1.extBut h14_e D.l1TO
  have f1_l2 := f0_l2.extBut h14_e D.l2TO
  refine wpAny_bind (wpAny_letGo (wpAny_pure ?_))
  refine wpAny_bind (wpAny_bind (wpAny_onRaise ?_))
  show wpAny _ _ (field (.ref z) 4 >>= _) _ _ _
  refine wpAny_bind (wpAny_field f1_z rfl (x := .ref TI) rfl ?_)
  refine wpAny_bind ?_
  show wpAny _ _ (seqItems? (.ref TI) >>= _) _ _ _
  refine wpAny_bind (wpAny_seqItems f1_TI rfl (wpAny_pure ?_))
  refine wpAny_bind (wpAny_field f1_z rfl (x := fill) rfl ?_)
  show wpAny _ _ (if (Value.ref i2 == Value.none) = true then _ else _) _ _ _
  rw [if_neg (show ¬ ((Value.ref i2 == Value.none) = true) from Bool.false_ne_true)]
  refine wpAny_bind (wpAny_onRaise (wpAny_pyNext_list_item f1_i2 f1_l2 hx2 fun h21_ h21_i h21_s => wpAny_pure ?_))
  have h21_e := h21_s.extBut
  have f2_z := h21_e _ _ D.i2z.symm f1_z
  have f2_TI := h21_e _ _ D.TIi2 f1_TI
  have f2_TO := h21_e _ _ D.TOi2 h14_t
  have f2_i1 := f1_i1.extBut h21_e D.i12
  have f2_l1 := f1_l1.extBut h21_e D.l1i2
  have f2_l2 := f1_l2.extBut h21_e D.l2i2
  refine wpAny_bind ?_
  show wpAny _ _ (seqItems? (.ref TO) >>= _) _ _ _
  refine wpAny_bind (wpAny_seqItems f2_TO rfl (wpAny_pure ?_))
  refine wpAny_bind (wpAny_updateSeq_pair f2_TO fun h24_ h24_t h24_s => ?_)
  replace h24_t : IsPair h24_ TO (fill) (x2) := h24_t
  have h24_e := h24_s.extBut
  have f3_z := h24_e _ _ D.TOz.symm f2_z
  have f3_TI := h24_e _ _ D.TITO f2_TI
  have f3_i1 := f2_i1.extBut h24_e D.TOi1.symm
  have f3_i2 := h21_i.extBut h24_e D.TOi2.symm
  have f3_l1 := f2_l1.extBut h24_e D.l1TO
  have f3_l2 := f2_l2.extBut h24_e D.l2TO
  refine wpAny_bind (wpAny_letGo (wpAny_pure (wpAny_pure ?_)))
  refine wpAny_bind ?_
  show wpAny _ _ (seqItems? (.ref TO) >>= _) _ _ _
  refine wpAny_bind (wpAny_seqItems h24_t rfl (wpAny_pure ?_))
  refine wpAny_bind (wpAny_newTuple ?_)
  have hk₅ : ∀ c o, c ≠ z → c ≠ TO → c ≠ TI → c ≠ i1 → c ≠ i2 → s.heap.get? c = some o → h24_.get? c = some o := fun c o c1 c2 c3 c4 c5 e => (h24_e _ _ c2 (h21_e _ _ c5 (h14_e _ _ c2 (eb₁ _ _ c1 e))))
  have hsz : s.heap.objs.size ≤ h24_.objs.size := (Nat.le_trans (Nat.le_trans (Nat.le_trans (Nat.le_of_eq hs₁.1.symm) (Nat.le_of_eq h14_s.1.symm)) (Nat.le_of_eq h21_s.1.symm)) (Nat.le_of_eq h24_s.1.symm))
  have hzlt : z < h24_.objs.size := Heap.lt_size f3_z
  show wpAny _ _ (Builtin.Itertools.itOwnedHandOut (.ref z) (.ref h24_.objs.size) >>= _) _ _ _
  refine wpAny_bind ?_
  unfold Builtin.Itertools.itOwnedHandOut
  have hz₆ : IsZl (h24_.push { cls := .type "tuple", data := .seq #[fill, x2] }) z TI TO .ellipsis fill 1 := Heap.get?_push_of_some _ f3_z
  refine wpAny_bind (wpAny_setField_rec hz₆ (by simp) fun h₇ hz₇ hs₇ => ?_)
  replace hz₇ : IsZl h₇ z TI TO (rawInt h24_.objs.size) fill 1 := hz₇
  refine wpAny_setField_rec hz₇ (by simp) fun h₈ hz₈ hs₈ => ?_
  replace hz₈ : IsZl h₈ z TI TO (rawInt h24_.objs.size) fill 1 := hz₈
  have up : ∀ c o, c ≠ z → h24_.get? c = some o → h₈.get? c = some o := fun c o c1 e => hs₈.extBut _ _ c1 (hs₇.extBut _ _ c1 (Heap.get?_push_of_some _ e))
  have hT₈ : IsPair h₈ h24_.objs.size fill x2 := hs₈.extBut _ _ (Nat.ne_of_gt hzlt) (hs₇.extBut _ _ (Nat.ne_of_gt hzlt) (Heap.get?_push_size _ rfl))
  refine wpAny_pure ⟨_, rfl, ?_⟩
  exact hQ h₈ _ hsz hz₈ (up _ _ D.TIz f3_TI) (up _ _ D.TOz h24_t) (f3_i1.at fun o e => up _ o D.i1z e) (f3_i2.at fun o e => up _ o D.i2z e) hT₈ (fun c o c1 c2 c3 c4 c5 e => up c o c1 (hk₅ c o c1 c2 c3 c4 c5 e))
theorem zl_stop_ee {z TI TO i1 i2 l1 l2 : Addr} {k1 k2 : Nat} {xs ys : Array Value} {a b fill : Value} {Q : Fin → Shared → Prop} (hh : A.handled = none) (D : ZipApart z TI TO i1 i2 l1 l2) (n1 : l1 ≠ TI) (n2 : l2 ≠ TI)
    (hz : IsZl s.heap z TI TO .none fill 2) (hTI : IsPair s.heap TI (.ref i1) (.ref i2)) (hTO : IsPair s.heap TO a b) (h1 : s.heap.IsListIter i1 l1 k1) (h2 : s.heap.IsListIter i2 l2 k2) (hl1 : s.heap.IsList l1 xs) (hl2 : s.heap.IsList l2 ys) (hx1 : xs[k1]? = none) (hx2 : ys[k2]? = none)
    (hE : ∀ h' e, (∀ c o, c ≠ z → c ≠ TO → c ≠ TI → c ≠ i1 → c ≠ i2 → s.heap.get? c = some o → h'.get? c = some o) → (∃ o, h'.get? e = some o ∧ o.cls = .type "StopIteration") → E (.ref e) { s with heap := h' }) :
    wpAny (model prog w) A (Builtin.«itertools.zip_longest.__next__» ⟨[.ref z], []⟩) Q E s := by
  show wpAny _ _ ((field (.ref z) 3 >>= _) >>= _) _ _ _
  refine wpAny_bind (wpAny_bind (wpAny_field hz rfl (x := rawInt 2) rfl ?_))
  show wpAny _ _ (pure (2 : Int)) _ _ _
  refine wpAny_pure ?_
  show wpAny _ _ (if ((2 : Int) == 0) = true then _ else _) _ _ _
  rw [if_neg (by decide)]
  show wpAny _ _ (field (.ref z) 4 >>= _) _ _ _
  refine wpAny_bind (wpAny_field hz rfl (x := .ref TI) rfl ?_)
  refine wpAny_bind ?_
  show wpAny _ _ (seqItems? (.ref TI) >>= _) _ _ _
  refine wpAny_bind (wpAny_seqItems hTI rfl (wpAny_pure ?_))
  refine wpAny_bind ?_
  show wpAny _ _ (field (.ref z) 0 >>= _) _ _ _
  refine wpAny_bind (wpAny_field hz rfl (x := .none) rfl (wpAny_pure ?_))
  simp only [if_true]
  refine wpAny_bind (wpAny_rule ?_)
  refine wpAny_bind (wpAny_field hz rfl (x := .ref TO) rfl ?_)
  refine wpAny_bind (wpAny_setField_rec hz (by simp) fun h₁ hz₁ hs₁ => ?_)
  replace hz₁ : IsZl h₁ z TI TO .ellipsis fill 2 := hz₁
  have eb₁ := hs₁.extBut
  have f0_TI := eb₁ _ _ D.TIz hTI
  have f0_TO := eb₁ _ _ D.TOz hTO
  have f0_i1 := h1.extBut eb₁ D.i1z
  have f0_i2 := h2.extBut eb₁ D.i2z
  have f0_l1 := hl1.extBut eb₁ D.l1z
  have f0_l2 := hl2.extBut eb₁ D.l2z
  refine wpAny_bind ?_
  rw [show List.range (#[Value.ref i1, Value.ref i2] : Array Value).size = [0, 1] from rfl]
  simp only [List.forIn_cons, List.forIn_nil]
  refine wpAny_bind (wpAny_bind (wpAny_onRaise ?_))
  show wpAny _ _ (field (.ref z) 4 >>= _) _ _ _
  refine wpAny_bind (wpAny_field hz₁ rfl (x := .ref TI) rfl ?_)
  refine wpAny_bind ?_
  show wpAny _ _ (seqItems? (.ref TI) >>= _) _ _ _
  refine wpAny_bind (wpAny_seqItems f0_TI rfl (wpAny_pure ?_))
  refine wpAny_bind (wpAny_field hz₁ rfl (x := fill) rfl ?_)
  show wpAny _ _ (if (Value.ref i1 == Value.none) = true then _ else _) _ _ _
  rw [if_neg (show ¬ ((Value.ref i1 == Value.none) = true) from Bool.false_ne_true)]
  refine wpAny_bind (wpAny_onRaise (next_list_end hh f0_i1 f0_l1 hx1 fun h11_ h11_e h11_i h11_z => ?_))
  have f1_z := h11_e _ _ D.i1z.symm hz₁
  have f1_TI := h11_e _ _ D.TIi1 f0_TI
  have f1_TO := h11_e _ _ D.TOi1 f0_TO
  have f1_i2 := f0_i2.extBut h11_e D.i12.symm
  have f1_l1 := f0_l1.extBut h11_e D.l1i1
  have f1_l2 := f0_l2.extBut h11_e D.l2i1
  refine wpAny_bind ?_
  show wpAny _ _ (seqItems? (.ref TI) >>= _) _ _ _
  refine wpAny_bind (wpAny_seqItems f1_TI rfl (wpAny_pure ?_))
  show wpAny _ _ (if (Value.ref i1 == Value.none) = true then _ else _) _ _ _
  rw [if_neg (show ¬ ((Value.ref i1 == Value.none) = true) from Bool.false_ne_true)]
  refine wpAny_bind ?_
  show wpAny _ _ (field (.ref z) 3 >>= _) _ _ _
  refine wpAny_bind (wpAny_field f1_z rfl (x := rawInt 2) rfl (wpAny_pure ?_))
  refine wpAny_bind (wpAny_setField_rec f1_z (by simp) fun h12_ h12_z h12_s => ?_)
  replace h12_z : IsZl h12_ z TI TO .ellipsis fill 1 := h12_z
  have h12_e := h12_s.extBut
  have f2_TI := h12_e _ _ D.TIz f1_TI
  have f2_TO := h12_e _ _ D.TOz f1_TO
  have f2_i1 := h11_i.extBut h12_e D.i1z
  have f2_i2 := f1_i2.extBut h12_e D.i2z
  have f2_l1 := f1_l1.extBut h12_e D.l1z
  have f2_l2 := f1_l2.extBut h12_e D.l2z
  show wpAny _ _ (if ((2 : Int) == 1) = true then _ else _) _ _ _
  rw [if_neg (by decide)]
  refine wpAny_bind (wpAny_rule ?_)
  refine wpAny_bind (wpAny_updateSeq_pair f2_TI fun h13_ h13_t h13_s => ?_)
  replace h13_t : IsPair h13_ TI (.none) (.ref i2) := h13_t
  have h13_e := h13_s.extBut
  have f3_z := h13_e _ _ D.TIz.symm h12_z
  have f3_TO := h13_e _ _ D.TITO.symm f2_TO
  have f3_i1 := f2_i1.extBut h13_e D.TIi1.symm
  have f3_i2 := f2_i2.extBut h13_e D.TIi2.symm
  have f3_l1 := f2_l1.extBut h13_e n1
  have f3_l2 := f2_l2.extBut h13_e n2
  refine wpAny_bind (wpAny_letGo (wpAny_pure ?_))
  refine wpAny_bind ?_
  show wpAny _ _ (seqItems? (.ref TO) >>= _) _ _ _
  refine wpAny_bind (wpAny_seqItems f3_TO rfl (wpAny_pure ?_))
  refine wpAny_bind (wpAny_updateSeq_pair f3_TO fun h14_ h14_t h14_s => ?_)
  replace h14_t : IsPair h14_ TO (fill) (b) := h14_t
  have h14_e := h14_s.extBut
  have f4_z := h14_e _ _ D.TOz.symm f3_z
  have f4_TI := h14_e _ _ D.TITO h13_t
  have f4_i1 := f3_i1.extBut h14_e D.TOi1.symm
  have f4_i2 := f3_i2.extBut h14_e D.TOi2.symm
  have f4_l1 := f3_l1.extBut h14_e D.l1TO
  have f4_l2 := f3_l2.extBut h14_e D.l2TO
  refine wpAny_bind (wpAny_letGo (wpAny_pure ?_))
  refine wpAny_bind (wpAny_bind (wpAny_onRaise ?_))
  show wpAny _ _ (field (.ref z) 4 >>= _) _ _ _
  refine wpAny_bind (wpAny_field f4_z rfl (x := .ref TI) rfl ?_)
  refine wpAny_bind ?_
  show wpAny _ _ (seqItems? (.ref TI) >>= _) _ _ _
  refine wpAny_bind (wpAny_seqItems f4_TI rfl (wpAny_pure ?_))
  refine wpAny_bind (wpAny_field f4_z rfl (x := fill) rfl ?_)
  show wpAny _ _ (if (Value.ref i2 == Value.none) = true then _ else _) _ _ _
  rw [if_neg (show ¬ ((Value.ref i2 == Value.none) = true) from Bool.false_ne_true)]
  refine wpAny_bind (wpAny_onRaise (next_list_end hh f4_i2 f4_l2 hx2 fun h21_ h21_e h21_i h21_z => ?_))
  have f5_z := h21_e _ _ D.i2z.symm f4_z
  have f5_TI := h21_e _ _ D.TIi2 f4_TI
  have f5_TO := h21_e _ _ D.TOi2 h14_t
  have f5_i1 := f4_i1.extBut h21_e D.i12
  have f5_l1 := f4_l1.extBut h21_e D.l1i2
  have f5_l2 := f4_l2.extBut h21_e D.l2i2
  refine wpAny_bind ?_
  show wpAny _ _ (seqItems? (.ref TI) >>= _) _ _ _
  refine wpAny_bind (wpAny_seqItems f5_TI rfl (wpAny_pure ?_))
  show wpAny _ _ (if (Value.ref i2 == Value.none) = true then _ else _) _ _ _
  rw [if_neg (show ¬ ((Value.ref i2 == Value.none) = true) from Bool.false_ne_true)]
  refine wpAny_bind ?_
  show wpAny _ _ (field (.ref z) 3 >>= _) _ _ _
  refine wpAny_bind (wpAny_field f5_z rfl (x := rawInt 1) rfl (wpAny_pure ?_))
  refine wpAny_bind (wpAny_setField_rec f5_z (by simp) fun h22_ h22_z h22_s => ?_)
  replace h22_z : IsZl h22_ z TI TO .ellipsis fill 0 := h22_z
  have h22_e := h22_s.extBut
  have f6_TI := h22_e _ _ D.TIz f5_TI
  have f6_TO := h22_e _ _ D.TOz f5_TO
  have f6_i1 := f5_i1.extBut h22_e D.i1z
  have f6_i2 := h21_i.extBut h22_e D.i2z
  have f6_l1 := f5_l1.extBut h22_e D.l1z
  have f6_l2 := f5_l2.extBut h22_e D.l2z
  show wpAny _ _ (if ((1 : Int) == 1) = true then _ else _) _ _ _
  rw [if_pos (by decide)]
  refine wpAny_pure ?_
  refine wpAny_bind (wpAny_setField_rec h22_z (by simp) fun h40_ h40_z h40_s => ?_)
  have h40_e := h40_s.extBut
  have hk₅ : ∀ c o, c ≠ z → c ≠ TO → c ≠ TI → c ≠ i1 → c ≠ i2 → s.heap.get? c = some o → h40_.get? c = some o := fun c o c1 c2 c3 c4 c5 e => (h40_e _ _ c1 (h22_e _ _ c1 (h21_e _ _ c5 (h14_e _ _ c2 (h13_e _ _ c3 (h12_e _ _ c1 (h11_e _ _ c4 (eb₁ _ _ c1 e))))))))
  refine wpAny_bind ?_
  show wpAny _ _ (newExc (.type "StopIteration") [] >>= _) _ _ _
  refine wpAny_bind ?_
  simp only [newExc, newTuple]
  refine wpAny_bind (wpAny_newObj_type ?_ (by size_fits))
  refine wpAny_bind (m := firstArgMember _ _) (wpAny_of_eq (a := Value.none) (by first | rfl | (simp only [firstArgMember]; rfl)) ?_)
  refine wpAny_newObj_type ?_ (by size_fits)
  simp only [raiseNew]
  refine wpAny_bind (wpAny_handled ?_)
  first | rw [show A.in1.handled = none from hh] | rw [hh]
  refine wpAny_bind (wpAny_pure (wpAny_throw ?_))
  exact hE _ _ (fun c o c1 c2 c3 c4 c5 e => Heap.get?_push_of_some _ (Heap.get?_push_of_some _ (hk₅ c o c1 c2 c3 c4 c5 e))) ⟨_, Heap.get?_push_size _ rfl, rfl⟩
theorem zl_stop_ed {z TI TO i1 i2 l1 l2 : Addr} {k1 k2 : Nat} {xs ys : Array Value} {a b fill : Value} {Q : Fin → Shared → Prop} (hh : A.handled = none) (D : ZipApart z TI TO i1 i2 l1 l2) (n1 : l1 ≠ TI) (n2 : l2 ≠ TI)
    (hz : IsZl s.heap z TI TO .none fill 1) (hTI : IsPair s.heap TI (.ref i1) (.none)) (hTO : IsPair s.heap TO a b) (h1 : s.heap.IsListIter i1 l1 k1) (h2 : IsRec s.heap i2) (hl1 : s.heap.IsList l1 xs) (hl2 : s.heap.IsList l2 ys) (hx1 : xs[k1]? = none)
    (hE : ∀ h' e, (∀ c o, c ≠ z → c ≠ TO → c ≠ TI → c ≠ i1 → c ≠ i2 → s.heap.get? c = some o → h'.get? c = some o) → (∃ o, h'.get? e = some o ∧ o.cls = .type "StopIteration") → E (.ref e) { s with heap := h' }) :
    wpAny (model prog w) A (Builtin.«itertools.zip_longest.__next__» ⟨[.ref z], []⟩) Q E s := by
  show wpAny _ _ ((field (.ref z) 3 >>= _) >>= _) _ _ _
  refine wpAny_bind (wpAny_bind (wpAny_field hz rfl (x := rawInt 1) rfl ?_))
  show wpAny _ _ (pure (1 : Int)) _ _ _
  refine wpAny_pure ?_
  show wpAny _ _ (if ((1 : Int) == 0) = true then _ else _) _ _ _
  rw [if_neg (by decide)]
  show wpAny _ _ (field (.ref z) 4 >>= _) _ _ _
  refine wpAny_bind (wpAny_field hz rfl (x := .ref TI) rfl ?_)
  refine wpAny_bind ?_
  show wpAny _ _ (seqItems? (.ref TI) >>= _) _ _ _
  refine wpAny_bind (wpAny_seqItems hTI rfl (wpAny_pure ?_))
  refine wpAny_bind ?_
  show wpAny _ _ (field (.ref z) 0 >>= _) _ _ _
  refine wpAny_bind (wpAny_field hz rfl (x := .none) rfl (wpAny_pure ?_))
  simp only [if_true]
  refine wpAny_bind (wpAny_rule ?_)
  refine wpAny_bind (wpAny_field hz rfl (x := .ref TO) rfl ?_)
  refine wpAny_bind (wpAny_setField_rec hz (by simp) fun h₁ hz₁ hs₁ => ?_)
  replace hz₁ : IsZl h₁ z TI TO .ellipsis fill 1 := hz₁
  have eb₁ := hs₁.extBut
  have f0_TI := eb₁ _ _ D.TIz hTI
  have f0_TO := eb₁ _ _ D.TOz hTO
  have f0_i1 := h1.extBut eb₁ D.i1z
  have f0_i2 := h2.extBut eb₁ D.i2z
  have f0_l1 := hl1.extBut eb₁ D.l1z
  have f0_l2 := hl2.extBut eb₁ D.l2z
  refine wpAny_bind ?_
  rw [show List.range (#[Value.ref i1, Value.none] : Array Value).size = [0, 1] from rfl]
  simp only [List.forIn_cons, List.forIn_nil]
  refine wpAny_bind (wpAny_bind (wpAny_onRaise ?_))
  show wpAny _ _ (field (.ref z) 4 >>= _) _ _ _
  refine wpAny_bind (wpAny_field hz₁ rfl (x := .ref TI) rfl ?_)
  refine wpAny_bind ?_
  show wpAny _ _ (seqItems? (.ref TI) >>= _) _ _ _
  refine wpAny_bind (wpAny_seqItems f0_TI rfl (wpAny_pure ?_))
  refine wpAny_bind (wpAny_field hz₁ rfl (x := fill) rfl ?_)
  show wpAny _ _ (if (Value.ref i1 == Value.none) = true then _ else _) _ _ _
  rw [if_neg (show ¬ ((Value.ref i1 == Value.none) = true) from Bool.false_ne_true)]
  refine wpAny_bind (wpAny_onRaise (next_list_end hh f0_i1 f0_l1 hx1 fun h11_ h11_e h11_i h11_z => ?_))
  have f1_z := h11_e _ _ D.i1z.symm hz₁
  have f1_TI := h11_e _ _ D.TIi1 f0_TI
  have f1_TO := h11_e _ _ D.TOi1 f0_TO
  have f1_i2 := f0_i2.extBut h11_e D.i12.symm
  have f1_l1 := f0_l1.extBut h11_e D.l1i1
  have f1_l2 := f0_l2.extBut h11_e D.l2i1
  refine wpAny_bind ?_
  show wpAny _ _ (seqItems? (.ref TI) >>= _) _ _ _
  refine wpAny_bind (wpAny_seqItems f1_TI rfl (wpAny_pure ?_))
  show wpAny _ _ (if (Value.ref i1 == Value.none) = true then _ else _) _ _ _
  rw [if_neg (show ¬ ((Value.ref i1 == Value.none) = true) from Bool.false_ne_true)]
  refine wpAny_bind ?_
  show wpAny _ _ (field (.ref z) 3 >>= _) _ _ _
  refine wpAny_bind (wpAny_field f1_z rfl (x := rawInt 1) rfl (wpAny_pure ?_))
  refine wpAny_bind (wpAny_setField_rec f1_z (by simp) fun h12_ h12_z h12_s => ?_)
  replace h12_z : IsZl h12_ z TI TO .ellipsis fill 0 := h12_z
  have h12_e := h12_s.extBut
  have f2_TI := h12_e _ _ D.TIz f1_TI
  have f2_TO := h12_e _ _ D.TOz f1_TO
  have f2_i1 := h11_i.extBut h12_e D.i1z
  have f2_i2 := f1_i2.extBut h12_e D.i2z
  have f2_l1 := f1_l1.extBut h12_e D.l1z
  have f2_l2 := f1_l2.extBut h12_e D.l2z
  show wpAny _ _ (if ((1 : Int) == 1) = true then _ else _) _ _ _
  rw [if_pos (by decide)]
  refine wpAny_pure ?_
  refine wpAny_bind (wpAny_setField_rec h12_z (by simp) fun h40_ h40_z h40_s => ?_)
  have h40_e := h40_s.extBut
  have hk₅ : ∀ c o, c ≠ z → c ≠ TO → c ≠ TI → c ≠ i1 → c ≠ i2 → s.heap.get? c = some o → h40_.get? c = some o := fun c o c1 c2 c3 c4 c5 e => (h40_e _ _ c1 (h12_e _ _ c1 (h11_e _ _ c4 (eb₁ _ _ c1 e))))
  refine wpAny_bind ?_
  show wpAny _ _ (newExc (.type "StopIteration") [] >>= _) _ _ _
  refine wpAny_bind ?_
  simp only [newExc, newTuple]
  refine wpAny_bind (wpAny_newObj_type ?_ (by size_fits))
  refine wpAny_bind (m := firstArgMember _ _) (wpAny_of_eq (a := Value.none) (by first | rfl | (simp only [firstArgMember]; rfl)) ?_)
  refine wpAny_newObj_type ?_ (by size_fits)
  simp only [raiseNew]
  refine wpAny_bind (wpAny_handled ?_)
  first | rw [show A.in1.handled = none from hh] | rw [hh]
  refine wpAny_bind (wpAny_pure (wpAny_throw ?_))
  exact hE _ _ (fun c o c1 c2 c3 c4 c5 e => Heap.get?_push_of_some _ (Heap.get?_push_of_some _ (hk₅ c o c1 c2 c3 c4 c5 e))) ⟨_, Heap.get?_push_size _ rfl, rfl⟩
theorem zl_stop_de {z TI TO i1 i2 l1 l2 : Addr} {k1 k2 : Nat} {xs ys : Array Value} {a b fill : Value} {Q : Fin → Shared → Prop} (hh : A.handled = none) (D : ZipApart z TI TO i1 i2 l1 l2) (n1 : l1 ≠ TI) (n2 : l2 ≠ TI)
    (hz : IsZl s.heap z TI TO .none fill 1) (hTI : IsPair s.heap TI (.none) (.ref i2)) (hTO : IsPair s.heap TO a b) (h1 : IsRec s.heap i1) (h2 : s.heap.IsListIter i2 l2 k2) (hl1 : s.heap.IsList l1 xs) (hl2 : s.heap.IsList l2 ys) (hx2 : ys[k2]? = none)
    (hE : ∀ h' e, (∀ c o, c ≠ z → c ≠ TO → c ≠ TI → c ≠ i1 → c ≠ i2 → s.heap.get? c = some o → h'.get? c = some o) → (∃ o, h'.get? e = some o ∧ o.cls = .type "StopIteration") → E (.ref e) { s with heap := h' }) :
    wpAny (model prog w) A (Builtin.«itertools.zip_longest.__next__» ⟨[.ref z], []⟩) Q E s := by
  show wpAny _ _ ((field (.ref z) 3 >>= _) >>= _) _ _ _
  refine wpAny_bind (wpAny_bind (wpAny_field hz rfl (x := rawInt 1) rfl ?_))
  show wpAny _ _ (pure (1 : Int)) _ _ _
  refine wpAny_pure ?_
  show wpAny _ _ (if ((1 : Int) == 0) = true then _ else _) _ _ _
  rw [if_neg (by decide)]
  show wpAny _ _ (field (.ref z) 4 >>= _) _ _ _
  refine wpAny_bind (wpAny_field hz rfl (x := .ref TI) rfl ?_)
  refine wpAny_bind ?_
  show wpAny _ _ (seqItems? (.ref TI) >>= _) _ _ _
  refine wpAny_bind (wpAny_seqItems hTI rfl (wpAny_pure ?_))
  refine wpAny_bind ?_
  show wpAny _ _ (field (.ref z) 0 >>= _) _ _ _
  refine wpAny_bind (wpAny_field hz rfl (x := .none) rfl (wpAny_pure ?_))
  simp only [if_true]
  refine wpAny_bind (wpAny_rule ?_)
  refine wpAny_bind (wpAny_field hz rfl (x := .ref TO) rfl ?_)
  refine wpAny_bind (wpAny_setField_rec hz (by simp) fun h₁ hz₁ hs₁ => ?_)
  replace hz₁ : IsZl h₁ z TI TO .ellipsis fill 1 := hz₁
  have eb₁ := hs₁.extBut
  have f0_TI := eb₁ _ _ D.TIz hTI
  have f0_TO := eb₁ _ _ D.TOz hTO
  have f0_i1 := h1.extBut eb₁ D.i1z
  have f0_i2 := h2.extBut eb₁ D.i2z
  have f0_l1 := hl1.extBut eb₁ D.l1z
  have f0_l2 := hl2.extBut eb₁ D.l2z
  refine wpAny_bind ?_
  rw [show List.range (#[Value.none, Value.ref i2] : Array Value).size = [0, 1] from rfl]
  simp only [List.forIn_cons, List.forIn_nil]
  refine wpAny_bind (wpAny_bind (wpAny_onRaise ?_))
  show wpAny _ _ (field (.ref z) 4 >>= _) _ _ _
  refine wpAny_bind (wpAny_field hz₁ rfl (x := .ref TI) rfl ?_)
  refine wpAny_bind ?_
  show wpAny _ _ (seqItems? (.ref TI) >>= _) _ _ _
  refine wpAny_bind (wpAny_seqItems f0_TI rfl (wpAny_pure ?_))
  refine wpAny_bind (wpAny_field hz₁ rfl (x := fill) rfl ?_)
  show wpAny _ _ (if (Value.none == Value.none) = true then _ else _) _ _ _
  rw [if_pos (show (Value.none == Value.none) = true from rfl)]
  refine wpAny_pure ?_
  refine wpAny_bind ?_
  show wpAny _ _ (seqItems? (.ref TO) >>= _) _ _ _
  refine wpAny_bind (wpAny_seqItems f0_TO rfl (wpAny_pure ?_))
  refine wpAny_bind (wpAny_updateSeq_pair f0_TO fun h14_ h14_t h14_s => ?_)
  replace h14_t : IsPair h14_ TO (fill) (b) := h14_t
  have h14_e := h14_s.extBut
  have f1_z := h14_e _ _ D.TOz.symm hz₁
  have f1_TI := h14_e _ _ D.TITO f0_TI
  have f1_i1 := f0_i1.extBut h14_e D.TOi1.symm
  have f1_i2 := f0_i2.extBut h14_e D.TOi2.symm
  have f1_l1 := f0_l1.extBut h14_e D.l1TO
  have f1_l2 := f0_l2.extBut h14_e D.l2TO
  refine wpAny_bind (wpAny_letGo (wpAny_pure ?_))
  refine wpAny_bind (wpAny_bind (wpAny_onRaise ?_))
  show wpAny _ _ (field (.ref z) 4 >>= _) _ _ _
  refine wpAny_bind (wpAny_field f1_z rfl (x := .ref TI) rfl ?_)
  refine wpAny_bind ?_
  show wpAny _ _ (seqItems? (.ref TI) >>= _) _ _ _
  refine wpAny_bind (wpAny_seqItems f1_TI rfl (wpAny_pure ?_))
  refine wpAny_bind (wpAny_field f1_z rfl (x := fill) rfl ?_)
  show wpAny _ _ (if (Value.ref i2 == Value.none) = true then _ else _) _ _ _
  rw [if_neg (show ¬ ((Value.ref i2 == Value.none) = true) from Bool.false_ne_true)]
  refine wpAny_bind (wpAny_onRaise (next_list_end hh f1_i2 f1_l2 hx2 fun h21_ h21_e h21_i h21_z => ?_))
  have f2_z := h21_e _ _ D.i2z.symm f1_z
  have f2_TI := h21_e _ _ D.TIi2 f1_TI
  have f2_TO := h21_e _ _ D.TOi2 h14_t
  have f2_i1 := f1_i1.extBut h21_e D.i12
  have f2_l1 := f1_l1.extBut h21_e D.l1i2
  have f2_l2 := f1_l2.extBut h21_e D.l2i2
  refine wpAny_bind ?_
  show wpAny _ _ (seqItems? (.ref TI) >>= _) _ _ _
  refine wpAny_bind (wpAny_seqItems f2_TI rfl (wpAny_pure ?_))
  show wpAny _ _ (if (Value.ref i2 == Value.none) = true then _ else _) _ _ _
  rw [if_neg (show ¬ ((Value.ref i2 == Value.none) = true) from Bool.false_ne_true)]
  refine wpAny_bind ?_
  show wpAny _ _ (field (.ref z) 3 >>= _) _ _ _
  refine wpAny_bind (wpAny_field f2_z rfl (x := rawInt 1) rfl (wpAny_pure ?_))
  refine wpAny_bind (wpAny_setField_rec f2_z (by simp) fun h22_ h22_z h22_s => ?_)
  replace h22_z : IsZl h22_ z TI TO .ellipsis fill 0 := h22_z
  have h22_e := h22_s.extBut
  have f3_TI := h22_e _ _ D.TIz f2_TI
  have f3_TO := h22_e _ _ D.TOz f2_TO
  have f3_i1 := f2_i1.extBut h22_e D.i1z
  have f3_i2 := h21_i.extBut h22_e D.i2z
  have f3_l1 := f2_l1.extBut h22_e D.l1z
  have f3_l2 := f2_l2.extBut h22_e D.l2z
  show wpAny _ _ (if ((1 : Int) == 1) = true then _ else _) _ _ _
  rw [if_pos (by decide)]
  refine wpAny_pure ?_
  refine wpAny_bind (wpAny_setField_rec h22_z (by simp) fun h40_ h40_z h40_s => ?_)
  have h40_e := h40_s.extBut
  have hk₅ : ∀ c o, c ≠ z → c ≠ TO → c ≠ TI → c ≠ i1 → c ≠ i2 → s.heap.get? c = some o → h40_.get? c = some o := fun c o c1 c2 c3 c4 c5 e => (h40_e _ _ c1 (h22_e _ _ c1 (h21_e _ _ c5 (h14_e _ _ c2 (eb₁ _ _ c1 e)))))
  refine wpAny_bind ?_
  show wpAny _ _ (newExc (.type "StopIteration") [] >>= _) _ _ _
  refine wpAny_bind ?_
  simp only [newExc, newTuple]
  refine wpAny_bind (wpAny_newObj_type ?_ (by size_fits))
  refine wpAny_bind (m := firstArgMember _ _) (wpAny_of_eq (a := Value.none) (by first | rfl | (simp only [firstArgMember]; rfl)) ?_)
  refine wpAny_newObj_type ?_ (by size_fits)
  simp only [raiseNew]
  refine wpAny_bind (wpAny_handled ?_)
  first | rw [show A.in1.handled = none from hh] | rw [hh]
  refine wpAny_bind (wpAny_pure (wpAny_throw ?_))
  exact hE _ _ (fun c o c1 c2 c3 c4 c5 e => Heap.get?_push_of_some _ (Heap.get?_push_of_some _ (hk₅ c o c1 c2 c3 c4 c5 e))) ⟨_, Heap.get?_push_size _ rfl, rfl⟩
end
end ZLg
namespace ZLg
open PySem PySem.Spec L2
section
variable {prog : Program} {w : World} {A : Around} {E : Value → Shared → Prop} {s : Shared}
theorem zl_pyNext {z TI TO : Addr} {f0 fill : Value} {r : Int} {Q : Option Value → Shared → Prop} (hz : IsZl s.heap z TI TO f0 fill r)
    (h : ∀ E' : Value → Shared → Prop, wpAny (model prog w) A.in1 (Builtin.«itertools.zip_longest.__next__» ⟨[.ref z], []⟩) (fun fin s' => ∃ v, fin = .done (.ret v) ∧ Q (some v) s') E' s) :
    wpAny (model prog w) A (pyNext (.ref z)) Q E s := by
  have hT : s.TypeIs (.ref z) "itertools.zip_longest" := ⟨_, hz, rfl⟩
  unfold pyNext
  refine wpAny_bind (wpAny_attempt (wpAny_callSpecial?_slot (name := Str.ofString "__next__") hT slot_zl_next
    (wpAny_call_entry slot_zl_next hT entry_zl_next ?_ (args_zl_next _))))
  refine wpAny_mono (h _) (fun fin s' q => ?_) fun _ _ x => x
  obtain ⟨v, e, q⟩ := q
  exact ⟨v, e, wpAny_pure q⟩
theorem zl_pyEnd {z TI TO : Addr} {f0 fill : Value} {r : Int} {Q : Option Value → Shared → Prop} (hz : IsZl s.heap z TI TO f0 fill r)
    (h : ∀ (Q' : Fin → Shared → Prop) (E' : Value → Shared → Prop), (∀ h' e, (∃ o, h'.get? e = some o ∧ o.cls = .type "StopIteration") → Q none { s with heap := h' } → E' (.ref e) { s with heap := h' }) →
      wpAny (model prog w) A.in1 (Builtin.«itertools.zip_longest.__next__» ⟨[.ref z], []⟩) Q' E' s) :
    wpAny (model prog w) A (pyNext (.ref z)) Q E s := by
  have hT : s.TypeIs (.ref z) "itertools.zip_longest" := ⟨_, hz, rfl⟩
  unfold pyNext
  refine wpAny_bind (wpAny_attempt (wpAny_callSpecial?_slot (name := Str.ofString "__next__") hT slot_zl_next
    (wpAny_call_entry slot_zl_next hT entry_zl_next ?_ (args_zl_next _))))
  refine h _ _ fun h' e ⟨o, ho, hc⟩ q => ?_
  refine wpAny_bind (wpAny_isInstance (T := "StopIteration") (b := true) ⟨o, ho, hc⟩ isSubtype_stop ?_)
  exact wpAny_pure q
theorem zl_letGo {elts : List Expr} {x1} {pos : Pos} {z TI TO T : Addr} {fill : Value} {r : Int} {Q : Unit → Shared → Prop} (hz : IsZl s.heap z TI TO (rawInt T) fill r)
    (hQ : ∀ h', IsZl h' z TI TO .none fill r → Heap.SameBut z s.heap h' → Q () { s with heap := h' }) :
    wpAny (model prog w) A (letOwnedTupleGo (.Tuple elts x1 pos) (.ref z) (.ref T)) Q E s := by
  unfold letOwnedTupleGo
  refine wpAny_bind (wpAny_load hz ?_)
  show wpAny _ _ (if (["enumerate", "zip", "dict_itemiterator", "dict_reverseitemiterator", "odict_iterator", "itertools.zip_longest", "itertools.pairwise"].contains "itertools.zip_longest" &&
      (#[rawInt T, .bool false, fill, rawInt r, .ref TI, .ref TO] : Array Value)[0]? == some (rawInt T)) = true then _ else _) Q E s
  rw [if_pos (by simp)]
  refine wpAny_bind (wpAny_rule ?_)
  show wpAny _ _ (setField (.ref z) 0 .none) Q E s
  exact wpAny_setField_rec hz (by simp) fun h' hz' hs' => hQ h' hz' hs'
theorem zl_iter {z TI TO : Addr} {f0 fill : Value} {r : Int} {Q : Value → Shared → Prop} (hz : IsZl s.heap z TI TO f0 fill r) (h : Q (.ref z) s) : wpAny (model prog w) A (pyIter (.ref z)) Q E s := by
  have hT : s.TypeIs (.ref z) "itertools.zip_longest" := ⟨_, hz, rfl⟩
  refine wpAny_pyIter_slot hT slot_zl_iter (wpAny_call_entry slot_zl_iter hT entry_zl_iter ?_ (args_zl_iter _))
  show wpAny _ _ (ret (.ref z)) _ _ s
  exact wpAny_pure ⟨_, rfl, "itertools.zip_longest", _, hT, slot_zl_next.lookup, h⟩
end

/-- how many of the two still run at turn i -/
def runs (n m i : Nat) : Int := (if i ≤ n then 1 else 0) + if i ≤ m then 1 else 0
def colV (n i : Nat) (a : Addr) : Value := if i ≤ n then .ref a else .none
def ColSt (n i : Nat) (h : Heap) (it l : Addr) : Prop := if i ≤ n then h.IsListIter it l i else IsRec h it
theorem ColSt.at {n i : Nat} {h h' : Heap} {it l : Addr} (x : ColSt n i h it l) (e : ∀ o, h.get? it = some o → h'.get? it = some o) : ColSt n i h' it l := by
  unfold ColSt at *
  split <;> rename_i c
  · rw [if_pos c] at x; exact x.at e
  · rw [if_neg c] at x; exact x.at e
theorem ColSt.rec {n i : Nat} {h : Heap} {it l : Addr} (x : ColSt n i h it l) : IsRec h it := by
  unfold ColSt at x
  split at x
  · obtain ⟨o, e, _, d⟩ := x; exact ⟨o, _, e, d⟩
  · exact x
def ZlSt (z TI TO i1 i2 a b : Addr) (n m : Nat) (f : Value) (i : Nat) (h : Heap) : Prop :=
  IsZl h z TI TO .none f (runs n m i) ∧ IsPair h TI (colV n i i1) (colV m i i2) ∧ (∃ x y, IsPair h TO x y) ∧ ColSt n i h i1 a ∧ ColSt m i h i2 b
/-- the lists at a and b, the shorter one filled up with c, the items in new pairs -/
def Itzl (K : PySem.W.Frag) (a b : Addr) (xs ys : List V) (c : Int) : It :=
  ⟨fun i H => SqL K H a xs ∧ SqL K H b ys ∧ i < max xs.length ys.length,
    fun i H v H' => ∃ T, v = .ref T ∧ H T = none ∧ H' = upd H T (.tup [xs.getD i (.int c), ys.getD i (.int c)]),
    fun i H => SqL K H a xs ∧ SqL K H b ys ∧ i = max xs.length ys.length⟩
theorem getD_lt {xs : List V} {i : Nat} {c : V} (h : i < xs.length) : xs.getD i c = xs[i] := by
  rw [List.getD_eq_getElem?_getD, List.getElem?_eq_getElem h]; rfl
theorem getD_ge {xs : List V} {i : Nat} {c : V} (h : xs.length ≤ i) : xs.getD i c = c := by
  rw [List.getD_eq_getElem?_getD, List.getElem?_eq_none h]; rfl

theorem turn_zl {P : Program} {w : World} {K : PySem.W.Frag} {elts : List Expr} {kk : Nat} {tpos : Pos} {a b z TI TO i1 i2 : Addr} {xs ys : List V} {c : Int} {t : Tok} (D : ZipApart z TI TO i1 i2 a b) (n1 : a ≠ TI) (n2 : b ≠ TI) :
    Turn P w K (.Tuple elts kk tpos) (Itzl K a b xs ys c) [z, TI, TO, i1, i2] z (ZlSt z TI TO i1 i2 a b xs.length ys.length (.int c t)) where
  mem := by simp
  obj := fun i h st c hc => by
    obtain ⟨hz, hTI, ⟨x, y, hTO⟩, h1, h2⟩ := st
    obtain ⟨o1, _, e1, d1⟩ := h1.rec
    obtain ⟨o2, _, e2, d2⟩ := h2.rec
    have e' : c = z ∨ c = TI ∨ c = TO ∨ c = i1 ∨ c = i2 := by simpa using hc
    rcases e' with q | q | q | q | q
    · rw [q]; exact ⟨_, hz, fun v q => nomatch q⟩
    · rw [q]; exact ⟨_, hTI, fun v q => nomatch q⟩
    · rw [q]; exact ⟨_, hTO, fun v q => nomatch q⟩
    · rw [q]; exact ⟨o1, e1, fun v q => by rw [d1] at q; cases q⟩
    · rw [q]; exact ⟨o2, e2, fun v q => by rw [d2] at q; cases q⟩
  keep := fun i h h' st k => by
    obtain ⟨hz, hTI, ⟨x, y, hTO⟩, h1, h2⟩ := st
    exact ⟨k z (by simp) _ hz, k TI (by simp) _ hTI, ⟨x, y, k TO (by simp) _ hTO⟩, h1.at fun o q => k i1 (by simp) o q, h2.at fun o q => k i2 (by simp) o q⟩
  item := by
    intro X hP hw hK hc i pins s σ H E I hf st hg
    subst hP hw hK
    obtain ⟨hz, hTI, ⟨x0, y0, hTO⟩, h1, h2⟩ := st
    obtain ⟨hqx, hqy, him⟩ := hg
    obtain ⟨its, rv, p, _⟩ := I.list hqx
    obtain ⟨its2, rv2, p2, _⟩ := I.list hqy
    have lx := rv.length
    have ly := rv2.length
    have hh := I.ok.hd hc
    have fin : ∀ (h' : Heap) (T : Nat) (u1 u2 : Value), s.heap.objs.size ≤ T → RelV (xs.getD i (.int c)) u1 → RelV (ys.getD i (.int c)) u2 → IsZl h' z TI TO (rawInt T) (.int c t) (runs xs.length ys.length (i + 1)) →
        IsPair h' TI (colV xs.length (i + 1) i1) (colV ys.length (i + 1) i2) → IsPair h' TO u1 u2 → ColSt xs.length (i + 1) h' i1 a → ColSt ys.length (i + 1) h' i2 b → IsPair h' T u1 u2 →
        (∀ c o, c ≠ z → c ≠ TO → c ≠ TI → c ≠ i1 → c ≠ i2 → s.heap.get? c = some o → h'.get? c = some o) →
        (fun r s1 => ∃ u, r = some u ∧ wpAny (model X.prog X.w) X.A (letOwnedTupleGo (.Tuple elts kk tpos) (.ref z) u) (fun _ s2 => ∃ x H', Inv X pins σ H' s2 ∧ RelV x u ∧ (Itzl X.K a b xs ys c).yld i H x H' ∧ ZlSt z TI TO i1 i2 a b xs.length ys.length (.int c t) (i + 1) s2.heap ∧ ∀ b ∈ [z, TI, TO, i1, i2], H' b = none) E s1) (some (.ref T)) { s with heap := h' } := by
      intro h' T u1 u2 hT r1 r2 hz' hTI' hTO' h1' h2' hp hk
      have hzl : z < s.heap.objs.size := Heap.lt_size hz
      have hzT : T ≠ z := fun q => by rw [q] at hT; exact absurd hzl (Nat.not_lt.mpr hT)
      refine ⟨_, rfl, zl_letGo (s := { s with heap := h' }) hz' fun h'' z'' sb => ?_⟩
      have hT2 : h''.get? T = some { cls := .type "tuple", data := .seq #[u1, u2] } := (sb.2 _ hzT).trans hp
      have new : ObjOk X.prog X.w (upd H T (.tup [xs.getD i (.int c), ys.getD i (.int c)])) h'' T (.tup [xs.getD i (.int c), ys.getD i (.int c)]) :=
        ⟨by show 2 ≤ sizeLine; decide, [u1, u2], .cons r1 (.cons r2 .nil), ⟨_, hT2, rfl, _, rfl⟩⟩
      have I1 : Inv X pins σ (upd H T (.tup [xs.getD i (.int c), ys.getD i (.int c)])) { s with heap := h'' } :=
        I.turnedNew (t' := s.toks) (ch := [z, TI, TO, i1, i2]) (fun c o hb q => (sb.2 c (fun q' => hb (by simp [q']))).trans (hk c o (fun q' => hb (by simp [q'])) (fun q' => hb (by simp [q'])) (fun q' => hb (by simp [q'])) (fun q' => hb (by simp [q'])) (fun q' => hb (by simp [q'])) q)) hf hT new
      refine ⟨.ref T, _, I1, rfl, ⟨_, rfl, I.hok.fresh hT, rfl⟩, ⟨z'', (sb.2 _ D.TIz).trans hTI', ⟨u1, u2, (sb.2 _ D.TOz).trans hTO'⟩, h1'.at fun o q => (sb.2 _ D.i1z).trans q, h2'.at fun o q => (sb.2 _ D.i2z).trans q⟩, fun c hcm => ?_⟩
      have hlt : c < s.heap.objs.size := by
        obtain ⟨o1, _, e1, _⟩ := h1.rec
        obtain ⟨o2, _, e2, _⟩ := h2.rec
        have e' : c = z ∨ c = TI ∨ c = TO ∨ c = i1 ∨ c = i2 := by simpa using hcm
        rcases e' with q | q | q | q | q
        · rw [q]; exact hzl
        · rw [q]; exact Heap.lt_size hTI
        · rw [q]; exact Heap.lt_size hTO
        · rw [q]; exact Heap.lt_size e1
        · rw [q]; exact Heap.lt_size e2
      rw [upd_ne (Nat.ne_of_lt (Nat.lt_of_lt_of_le hlt hT))]
      exact (hf c hcm).1
    have fl : RelV (.int c) (.int c t) := ⟨t, rfl⟩
    unfold runs at hz fin
    unfold colV at hTI fin
    unfold ColSt at h1 h2 fin
    refine zl_pyNext hz fun E' => ?_
    by_cases cx : i < xs.length
    · obtain ⟨u, hu, ru⟩ := rv.get (List.getElem?_eq_getElem cx)
      have hu' : its.toArray[i]? = some u := by simpa using hu
      rw [← getD_lt (c := .int c) cx] at ru
      rw [if_pos (Nat.le_of_lt cx)] at hz hTI h1
      simp only [if_pos (show i + 1 ≤ xs.length from cx)] at fin
      by_cases cy : i < ys.length
      · obtain ⟨u2, hu2, ru2⟩ := rv2.get (List.getElem?_eq_getElem cy)
        have hu2' : its2.toArray[i]? = some u2 := by simpa using hu2
        rw [← getD_lt (c := .int c) cy] at ru2
        rw [if_pos (Nat.le_of_lt cy)] at hz hTI h2
        simp only [if_pos (show i + 1 ≤ ys.length from cy)] at fin
        exact zl_item_ii hh D n1 n2 hz hTI hTO h1 h2 p.isList p2.isList hu' hu2' fun h' T b1 b2 b3 b4 b5 b6 b7 b8 => fin h' T _ _ b1 ru ru2 b2 b3 b4 b5 b6 b7 b8
      · have yd : RelV (ys.getD i (.int c)) (.int c t) := by rw [getD_ge (by omega)]; exact fl
        simp only [if_neg (show ¬ i + 1 ≤ ys.length by omega)] at fin
        by_cases ce : i = ys.length
        · rw [if_pos (Nat.le_of_eq ce)] at hz hTI h2
          exact zl_item_ie (x2 := .none) hh D n1 n2 hz hTI hTO h1 h2 p.isList p2.isList hu' (by simp; omega) fun h' T b1 b2 b3 b4 b5 b6 b7 b8 => fin h' T _ _ b1 ru yd b2 b3 b4 b5 b6 b7 b8
        · rw [if_neg (show ¬ i ≤ ys.length by omega)] at hz hTI h2
          exact zl_item_id (x2 := .none) (k2 := 0) hh D n1 n2 hz hTI hTO h1 h2 p.isList p2.isList hu' fun h' T b1 b2 b3 b4 b5 b6 b7 b8 => fin h' T _ _ b1 ru yd b2 b3 b4 b5 b6 b7 b8
    · have cy : i < ys.length := by omega
      have xd : RelV (xs.getD i (.int c)) (.int c t) := by rw [getD_ge (by omega)]; exact fl
      obtain ⟨u2, hu2, ru2⟩ := rv2.get (List.getElem?_eq_getElem cy)
      have hu2' : its2.toArray[i]? = some u2 := by simpa using hu2
      rw [← getD_lt (c := .int c) cy] at ru2
      rw [if_pos (Nat.le_of_lt cy)] at hz hTI h2
      simp only [if_pos (show i + 1 ≤ ys.length from cy), if_neg (show ¬ i + 1 ≤ xs.length by omega)] at fin
      by_cases ce : i = xs.length
      · rw [if_pos (Nat.le_of_eq ce)] at hz hTI h1
        exact zl_item_ei (x1 := .none) hh D n1 n2 hz hTI hTO h1 h2 p.isList p2.isList (by simp; omega) hu2' fun h' T b1 b2 b3 b4 b5 b6 b7 b8 => fin h' T _ _ b1 xd ru2 b2 b3 b4 b5 b6 b7 b8
      · rw [if_neg (show ¬ i ≤ xs.length by omega)] at hz hTI h1
        exact zl_item_di (x1 := .none) (k1 := 0) hh D n1 n2 hz hTI hTO h1 h2 p.isList p2.isList hu2' fun h' T b1 b2 b3 b4 b5 b6 b7 b8 => fin h' T _ _ b1 xd ru2 b2 b3 b4 b5 b6 b7 b8
  done := by
    intro X hP hw hK hc i pins s σ H E I hf st hg
    subst hP hw hK
    obtain ⟨hz, hTI, ⟨x0, y0, hTO⟩, h1, h2⟩ := st
    obtain ⟨hqx, hqy, him⟩ := hg
    obtain ⟨its, rv, p, _⟩ := I.list hqx
    obtain ⟨its2, rv2, p2, _⟩ := I.list hqy
    have lx := rv.length
    have ly := rv2.length
    have hh := I.ok.hd hc
    have fin : ∀ h' : Heap, (∀ c o, c ≠ z → c ≠ TO → c ≠ TI → c ≠ i1 → c ≠ i2 → s.heap.get? c = some o → h'.get? c = some o) → (fun (r : Option Value) s1 => r = none ∧ Inv X pins σ H s1) none { s with heap := h' } := fun h' hk => ⟨rfl, I.turnedL (t' := s.toks) (ch := [z, TI, TO, i1, i2]) (fun c o hb q =>
      hk c o (fun q' => hb (by simp [q'])) (fun q' => hb (by simp [q'])) (fun q' => hb (by simp [q'])) (fun q' => hb (by simp [q'])) (fun q' => hb (by simp [q'])) q) hf⟩
    unfold runs at hz
    unfold colV at hTI
    unfold ColSt at h1 h2
    refine zl_pyEnd hz fun Q' E' hE => ?_
    by_cases cx : i ≤ xs.length
    · rw [if_pos cx] at hz hTI h1
      have ex : i = xs.length := by omega
      by_cases cy : i ≤ ys.length
      · rw [if_pos cy] at hz hTI h2
        exact zl_stop_ee hh D n1 n2 hz hTI hTO h1 h2 p.isList p2.isList (by simp; omega) (by simp; omega) fun h' e hk he => hE h' e he (fin h' hk)
      · rw [if_neg cy] at hz hTI h2
        exact zl_stop_ed (k2 := 0) hh D n1 n2 hz hTI hTO h1 h2 p.isList p2.isList (by simp; omega) fun h' e hk he => hE h' e he (fin h' hk)
    · rw [if_neg cx] at hz hTI h1
      have cy : i ≤ ys.length := by omega
      rw [if_pos cy] at hz hTI h2
      exact zl_stop_de (k1 := 0) hh D n1 n2 hz hTI hTO h1 h2 p.isList p2.isList (by simp; omega) fun h' e hk he => hE h' e he (fin h' hk)
  self := fun A i s Q E st h => zl_iter st.1 h

theorem callWith_type_kw {M : Model} {A : Around} {E : Value → Shared → Prop} {s : Shared} {env : Env} {pos : Pos} {T : String} {e : Expr} {rest : List Expr} {kws : List Keyword} {Q : Value → Shared → Prop}
    (h : wpAny M A (spliced (backTo pos (starEach (e :: rest) env))) (fun vs s₁ => wpAny M A (evalAll ((backToKw pos (keywordEach kws env)).map (·.2)))
      (fun kvs s₂ => wpAny M A (call (.type T) vs (((backToKw pos (keywordEach kws env)).filterMap (·.1)).zip kvs)) Q E s₂) E s₁) E s)
    (he : backTo pos (starEach (e :: rest) env) = (false, eval e env) :: backTo pos (starEach rest env) := by rfl)
    (hplain : (backTo pos (starEach (e :: rest) env)).any (·.1) = false := by rfl)
    (hall : (backToKw pos (keywordEach kws env)).all (·.1.isSome) = true := by rfl)
    (hkw : (backToKw pos (keywordEach kws env)).any (·.1.isNone) = false := by rfl) :
    wpAny M A (callWith pos (.type T) [] (backTo pos (starEach (e :: rest) env)) (backToKw pos (keywordEach kws env))) Q E s := by
  have h' : wpAny M A (evalArgs (.type T) true (backTo pos (starEach (e :: rest) env)) (backToKw pos (keywordEach kws env))) (fun a s₁ => wpAny M A (call (.type T) ([] ++ a.pos) a.kw) Q E s₁) E s := by
    rw [he] at h ⊢
    exact PyProof.Rows.evalArgs_kwB hall h
  unfold callWith
  refine wpAny_bind (wpAny_holding (wpAny_mono h' (fun a s₁ h₁ => wpAny_bind (wpAny_standAt ?_)) fun _ _ x => x))
  simp only [hplain, hkw, Bool.or_false]
  refine wpAny_bind (wpAny_pure ?_)
  exact wpAny_bind (wpAny_mono h₁ (fun r s₂ hr => wpAny_bind (wpAny_holding (wpAny_point (wpAny_pure hr)))) fun _ _ x => x)
def iZlg (K : PySem.W.Frag) (ta : TA) (tk : TE) : TI := fun σ H R => ta σ H fun vs H1 => tk σ H1 fun v H2 => ∃ a b xs ys c, vs = [.ref a, .ref b] ∧ v = .int c ∧ SqL K H2 a xs ∧ SqL K H2 b ys ∧ R (Itzl K a b xs ys c) H2

theorem pi_zl {X : Cx} {e e2 ek : Expr} {ta : TA} {tk : TE} {p pos tpos kp : Pos} {elts : List Expr} {kk : Nat} (hg : Gl X "zip_longest") (hm : X.mg "zip_longest" = some (.type "itertools.zip_longest")) (ha : PA X [e, e2] ta) (hk : PE X ek tk)
    (he : backTo pos (starEach [e, e2] X.env) = (false, eval e X.env) :: backTo pos (starEach [e2] X.env) := by rfl) (hpl : (backTo pos (starEach [e, e2] X.env)).any (·.1) = false := by rfl) :
    PI X (.Tuple elts kk tpos) (.Call (.Name "zip_longest" p) [e, e2] [⟨some "fillvalue", ek, kp⟩] pos) (iZlg X.K ta tk) := by
  refine ⟨fun pins s σ H R I h => ?_⟩
  refine wpAny_Call_Name_kw (ld_glob I hg hm (callWith_type_kw (thn (ha.run pos pins s σ H _ I h) fun us s1 ⟨vs, H1, I1, r1, q1⟩ => ?_) he hpl))
  refine PyProof.Rows.kws_cons (thn (hk.run pins s1 σ H1 _ I1 q1) fun u s2 ⟨v, H2, I2, r2, q2⟩ => PyProof.Rows.kws_nil ?_)
  obtain ⟨a, b, xs, ys, c, ex, rfl, hqx, hqy, q⟩ := q2
  subst ex
  obtain ⟨t, rfl⟩ := r2
  cases r1 with
  | cons r rr =>
    cases rr with
    | cons r' rr =>
      cases rr
      cases r
      cases r'
      obtain ⟨its, rv, p1, _⟩ := I2.list hqx
      obtain ⟨its2, rv2, p2, _⟩ := I2.list hqy
      have la : a < s2.heap.objs.size := p1.lt
      have lb : b < s2.heap.objs.size := p2.lt
      show wpAny _ _ (call (.type "itertools.zip_longest") [.ref a, .ref b] [(Str.ofString "fillvalue", .int c t)]) _ _ _
      refine call_zl p1.isList p2.isList fun h' hz hTI hTO h1 h2 hsz hk => zl_iter hz ?_
      have I3 : Inv X pins σ H2 { s2 with heap := h' } := I2.kept (t' := s2.toks) hk
      have st : ZlSt (s2.heap.objs.size + 4) (s2.heap.objs.size + 2) (s2.heap.objs.size + 3) s2.heap.objs.size (s2.heap.objs.size + 1) a b xs.length ys.length (.int c t) 0 h' :=
        ⟨hz, hTI, ⟨_, _, hTO⟩, h1, h2⟩
      refine ⟨s2.heap.objs.size + 4, [s2.heap.objs.size + 4, s2.heap.objs.size + 2, s2.heap.objs.size + 3, s2.heap.objs.size, s2.heap.objs.size + 1], _, _, H2, rfl, I3, turn_zl (PySem.W.ktu_apart s2.heap.objs.size a b la lb) (Nat.ne_of_lt (Nat.lt_of_lt_of_le la (Nat.le_add_right _ _))) (Nat.ne_of_lt (Nat.lt_of_lt_of_le lb (Nat.le_add_right _ _))), st, fun c hcm => ?_, q⟩
      have e' : c = s2.heap.objs.size + 4 ∨ c = s2.heap.objs.size + 2 ∨ c = s2.heap.objs.size + 3 ∨ c = s2.heap.objs.size ∨ c = s2.heap.objs.size + 1 := by simpa using hcm
      have hle : s2.heap.objs.size ≤ c := by
        rcases e' with z | z | z | z | z
        · rw [z]; exact Nat.le_add_right _ _
        · rw [z]; exact Nat.le_add_right _ _
        · rw [z]; exact Nat.le_add_right _ _
        · rw [z]; exact Nat.le_refl _
        · rw [z]; exact Nat.le_add_right _ _
      exact I2.fpOk hle (I2.hok.fresh hle)

/-- a comprehension over zip_longest of two lists of ints that the block leaves as they are -/
theorem lc_zl {K : PySem.W.Frag} {a b : Addr} {xs ys : List V} {c : Int} {g : TG} {tt : TT} {te : TE} {vs : List Nat} {σ : L2.St} {H1 : Hp} {D : Addr} {Qd : Hp → Prop} (Pv : Nat → Hp → Prop) (h0 : Pv 0 (upd H1 D (.lst []))) (hl : ∀ i H, Pv i H → SqL K H a xs ∧ SqL K H b ys)
    (hs : ∀ i T H, i < max xs.length ys.length → Pv i H → H T = none → g (.ref T) (wipe σ vs) (upd H T (.tup [xs.getD i (.int c), ys.getD i (.int c)])) fun σ2 H2 => wipe σ2 vs = wipe σ vs ∧ tt σ2 H2 fun b H3 =>
      if b = true then te σ2 H3 fun y H4 => ∃ acc, H4 D = some (.lst acc) ∧ acc.length < sizeLine ∧ Pv (i + 1) (upd H4 D (.lst (acc ++ [y]))) else Pv (i + 1) H3) (hd : ∀ H, Pv (max xs.length ys.length) H → Qd H) :
    ∃ W : Nat → Nat → Hp → Prop, (∃ m, W 0 m (upd H1 D (.lst []))) ∧ ∀ i m H, W i m H →
      ((Itzl K a b xs ys c).stop i H ∧ Qd H) ∨ ((Itzl K a b xs ys c).go i H ∧ ∃ Nx : Hp → Prop, (∀ H', Nx H' → ∃ m', m' < m ∧ W (i + 1) m' H') ∧ ∀ x H', (Itzl K a b xs ys c).yld i H x H' → g x (wipe σ vs) H' fun σ2 H2 => wipe σ2 vs = wipe σ vs ∧ tt σ2 H2 fun b H3 =>
        if b = true then te σ2 H3 fun y H4 => ∃ acc, H4 D = some (.lst acc) ∧ acc.length < sizeLine ∧ Nx (upd H4 D (.lst (acc ++ [y]))) else Nx H3) := by
  refine ⟨fun i m H => m = max xs.length ys.length - i ∧ i ≤ max xs.length ys.length ∧ Pv i H, ⟨max xs.length ys.length, by simp, Nat.zero_le _, h0⟩, ?_⟩
  rintro i m H ⟨rfl, hi, p⟩
  obtain ⟨q1, q2⟩ := hl i H p
  by_cases hlt : i < max xs.length ys.length
  · refine .inr ⟨⟨q1, q2, hlt⟩, Pv (i + 1), fun H' p' => ⟨max xs.length ys.length - (i + 1), by omega, rfl, hlt, p'⟩, fun x H' y => ?_⟩
    obtain ⟨T, rfl, hT, rfl⟩ := y
    exact hs i T _ hlt p hT
  · have e : i = max xs.length ys.length := by omega
    subst e
    exact .inl ⟨⟨q1, q2, rfl⟩, hd H p⟩
/-- a comprehension over zip of two lists that the block leaves as they are -/
theorem lc_zip {K : PySem.W.Frag} {a b : Addr} {xs ys : List V} {g : TG} {tt : TT} {te : TE} {vs : List Nat} {σ : L2.St} {H1 : Hp} {D : Addr} {Qd : Hp → Prop} (Pv : Nat → Hp → Prop) (h0 : Pv 0 (upd H1 D (.lst []))) (hl : ∀ i H, Pv i H → SqL K H a xs ∧ SqL K H b ys)
    (hs : ∀ i x y T H, xs[i]? = some x → ys[i]? = some y → Pv i H → H T = none → g (.ref T) (wipe σ vs) (upd H T (.tup [x, y])) fun σ2 H2 => wipe σ2 vs = wipe σ vs ∧ tt σ2 H2 fun b H3 =>
      if b = true then te σ2 H3 fun y H4 => ∃ acc, H4 D = some (.lst acc) ∧ acc.length < sizeLine ∧ Pv (i + 1) (upd H4 D (.lst (acc ++ [y]))) else Pv (i + 1) H3) (hd : ∀ H, Pv (min xs.length ys.length) H → Qd H) :
    ∃ W : Nat → Nat → Hp → Prop, (∃ m, W 0 m (upd H1 D (.lst []))) ∧ ∀ i m H, W i m H →
      ((Itz K a b).stop i H ∧ Qd H) ∨ ((Itz K a b).go i H ∧ ∃ Nx : Hp → Prop, (∀ H', Nx H' → ∃ m', m' < m ∧ W (i + 1) m' H') ∧ ∀ x H', (Itz K a b).yld i H x H' → g x (wipe σ vs) H' fun σ2 H2 => wipe σ2 vs = wipe σ vs ∧ tt σ2 H2 fun b H3 =>
        if b = true then te σ2 H3 fun y H4 => ∃ acc, H4 D = some (.lst acc) ∧ acc.length < sizeLine ∧ Nx (upd H4 D (.lst (acc ++ [y]))) else Nx H3) := by
  refine ⟨fun i m H => m = min xs.length ys.length - i ∧ i ≤ min xs.length ys.length ∧ Pv i H, ⟨min xs.length ys.length, by simp, Nat.zero_le _, h0⟩, ?_⟩
  rintro i m H ⟨rfl, hi, p⟩
  obtain ⟨q1, q2⟩ := hl i H p
  by_cases hlt : i < min xs.length ys.length
  · have hx : xs[i]? = some xs[i] := List.getElem?_eq_getElem (by omega)
    have hy : ys[i]? = some ys[i] := List.getElem?_eq_getElem (by omega)
    refine .inr ⟨⟨xs, ys, _, _, q1, q2, hx, hy⟩, Pv (i + 1), fun H' p' => ⟨min xs.length ys.length - (i + 1), by omega, rfl, hlt, p'⟩, fun x H' y => ?_⟩
    obtain ⟨T, x', y', rfl, hT, rfl, f1, f2⟩ := y
    exact hs i x' y' T _ (f1 xs q1) (f2 ys q2) p hT
  · have e : i = min xs.length ys.length := by omega
    refine .inl ⟨⟨xs, ys, q1, q2, by omega⟩, hd H (by rw [← e]; exact p)⟩
end ZLg
namespace Fw
open PySem PySem.Spec PyProof.Rows L2
/-- the items of xs[lo:hi:st] -/
def pickL {α : Type} (xs : List α) (lo hi st : Option Int) : List α := (sliceRange (sliceBounds lo hi st xs.length).1 (sliceBounds lo hi st xs.length).2.1 (sliceBounds lo hi st xs.length).2.2).filterMap (xs[·]?)
theorem pickL_map {α β : Type} (f : α → β) (xs : List α) (lo hi st : Option Int) : pickL (xs.map f) lo hi st = (pickL xs lo hi st).map f := by
  unfold pickL
  rw [List.length_map, List.map_filterMap]
  congr 1
  funext i
  rw [List.getElem?_map]
theorem pickL_mem {α : Type} {xs : List α} {lo hi st : Option Int} {x : α} (h : x ∈ pickL xs lo hi st) : x ∈ xs := by
  obtain ⟨i, _, e⟩ := List.mem_filterMap.mp h
  exact List.mem_of_getElem? e
def pickV (xs : List V) (lo hi st : Option Int) : List V := (sliceRange (sliceBounds lo hi st xs.length).1 (sliceBounds lo hi st xs.length).2.1 (sliceBounds lo hi st xs.length).2.2).filterMap (xs[·]?)
theorem vals_get : ∀ {xs : List V} {us : List Value}, Vals xs us → ∀ i : Nat, (xs[i]? = none ∧ us[i]? = none) ∨ ∃ x u, xs[i]? = some x ∧ us[i]? = some u ∧ RelV x u := by
  intro xs us h
  induction h with
  | nil => intro i; exact .inl ⟨rfl, rfl⟩
  | cons r _ ih =>
    intro i
    cases i with
    | zero => exact .inr ⟨_, _, rfl, rfl, r⟩
    | succ i => exact ih i
theorem vals_pick {xs : List V} {us : List Value} (h : Vals xs us) : ∀ is : List Nat, Vals (is.filterMap (xs[·]?)) (is.filterMap (us[·]?))
  | [] => .nil
  | i :: is => by
    rcases vals_get h i with ⟨e1, e2⟩ | ⟨x, u, e1, e2, r⟩
    · rw [List.filterMap_cons_none e1, List.filterMap_cons_none e2]
      exact vals_pick h is
    · rw [List.filterMap_cons_some e1, List.filterMap_cons_some e2]
      exact .cons r (vals_pick h is)
theorem pickV_L (xs : List V) (lo hi st : Option Int) : pickV xs lo hi st = pickL xs lo hi st := rfl
def tSlS (K : PySem.W.Frag) (te : TE) (tl th ts : TO) : TE := fun σ H Q => te σ H fun x H1 => tl σ H1 fun l H2 => th σ H2 fun u H3 => ts σ H3 fun c H4 => c ≠ some 0 ∧ ∃ a xs, x = .ref a ∧ SqL K H4 a xs ∧ ∀ p, H4 p = none → Q (.ref p) (upd H4 p (.lst (pickV xs l u c)))
section
variable {X : Cx} {e st : Expr} {te : TE} {lo hi : Option Expr} {tl th ts : TO} {pos p2 : Pos}
theorem pe_sliceS (he : PE X e te) (hl : PO X lo tl) (hu : PO X hi th) (hs : PO X (some st) ts) : PE X (.Subscript e (.Slice lo hi (some st) p2) pos) (tSlS X.K te tl th ts) := by
  refine ⟨fun pins s σ H Q I h => Subscript_ (thn (he.run pins s σ H _ I h) fun v s1 ⟨x, H1, I1, r1, q1⟩ => ?_)⟩
  refine wpAny_Slice (thn (hl.run pins s1 σ H1 _ I1 q1) fun vl s2 ⟨l, H2, I2, pl, q2⟩ => thn (hu.run pins s2 σ H2 _ I2 q2) fun vu s3 ⟨u, H3, I3, pu, q3⟩ => thn (hs.run pins s3 σ H3 _ I3 q3) fun vs s4 ⟨c, H4, I4, pc, q4⟩ => ?_)
  obtain ⟨c0, a, xs, rfl, hx, q⟩ := q4
  cases r1
  have I5 : Inv X pins σ H4 { s4 with heap := s4.heap.push { cls := .type "slice", data := .fields #[vl, vu, vs] } } := I4.kept (t' := s4.toks) fun b ob z => Heap.get?_push_of_some _ z
  obtain ⟨its, r, ht, hz⟩ := I5.list hx
  have hlen := r.length
  show wpAny (model X.prog X.w) X.A (subscriptTail e (.Slice lo hi (some st) p2) (.ref a) (.ref s4.heap.objs.size)) (EP X pins σ Q) X.xe { s4 with heap := s4.heap.push { cls := .type "slice", data := .fields #[vl, vu, vs] } }
  refine tail_any (ops := [.ref a, .ref s4.heap.objs.size]) ht.isList.typeIs slot_list_getitem.lookup (wpAny_getItem_list_slice ht.isList (Heap.IsSliceOf.new ..) pl pu pc c0 ?_ (by rw [List.size_toArray] <;> omega)) (by with_unfolding_all rfl)
  have ev : (slicePick its.toArray l u c) = ((sliceRange (sliceBounds l u c xs.length).1 (sliceBounds l u c xs.length).2.1 (sliceBounds l u c xs.length).2.2).filterMap (its[·]?)).toArray := by
    unfold slicePick
    rw [List.size_toArray, ← hlen]
    simp
  have ln : (pickV xs l u c).length ≤ xs.length := by
    have := slicePick_size_le its.toArray l u c
    rw [ev, List.size_toArray, List.size_toArray, ← hlen] at this
    rw [show (pickV xs l u c).length = _ from (vals_pick r _).length]
    exact this
  rw [ev]
  refine ⟨.ref _, _, I5.laid (t' := s4.toks) (o := .lst (pickV xs l u c)) (fun b ob z => Heap.get?_push_of_some _ z) (Nat.le_refl _) ?_, rfl, q _ (I5.hok.fresh (Nat.le_refl _))⟩
  exact ⟨Nat.le_trans ln hz, _, 0, vals_pick r _, Heap.get?_push_size _ rfl⟩
end
theorem w_slS {K : PySem.W.Frag} {te : TE} {tl th ts : TO} {σ : L2.St} {H : Hp} {Q : VK} (q : te σ H fun x H1 => tl σ H1 fun l H2 => th σ H2 fun u H3 => ts σ H3 fun c H4 => c ≠ some 0 ∧ ∃ a xs, x = .ref a ∧ SqL K H4 a xs ∧ ∀ p, H4 p = none → Q (.ref p) (upd H4 p (.lst (pickV xs l u c)))) : tSlS K te tl th ts σ H Q := q
/-- the length of a dict -/
def rLenD : List V → Hp → VK → Prop := fun xs H Q => ∃ a kvs, xs = [V.ref a] ∧ H a = some (.dK kvs) ∧ Q (.int kvs.length) H
end Fw
namespace Fw
/-! ### polynomials by 1, x, x * (x - 1) and so on -/
/-- the values at k of what is left of a list when its head goes, again and again -/
def sfv (k : Int) : List Int → List Int
  | [] => []
  | c :: cs => pvl (c :: cs) k :: sfv k cs
theorem sfv_len (k : Int) : ∀ cs : List Int, (sfv k cs).length = cs.length
  | [] => rfl
  | c :: cs => by show (sfv k cs).length + 1 = _; rw [sfv_len k cs]; rfl
theorem pv_sfv (k x : Int) : ∀ cs : List Int, pvl cs x = pvl cs k + (x - k) * pvl (sfv k cs.tail) x
  | [] => by simp [pvl, sfv]
  | [c] => by simp [pvl, sfv]
  | c :: d :: r => by
    have ih := pv_sfv k x (d :: r)
    show c + x * pvl (d :: r) x = (c + k * pvl (d :: r) k) + (x - k) * (pvl (d :: r) k + x * pvl (sfv k r) x)
    have ih : pvl (d :: r) x = pvl (d :: r) k + (x - k) * pvl (sfv k r) x := ih
    generalize pvl (d :: r) x = A at ih ⊢
    generalize pvl (d :: r) k = B at ih ⊢
    generalize pvl (sfv k r) x = C at ih ⊢
    grind
/-- the factors of 1, x - k, (x - k) * (x - k - 1), .. -/
def nwt : Nat → Int → List Int → List Int
  | 0, _, _ => []
  | n + 1, k, cs => pvl cs k :: nwt n (k + 1) (sfv k cs.tail)
theorem nwt_len : ∀ (n : Nat) (k : Int) (cs : List Int), (nwt n k cs).length = n
  | 0, _, _ => rfl
  | n + 1, k, cs => by show (nwt n _ _).length + 1 = _; rw [nwt_len]
/-- the value by these factors -/
def ffv (k : Int) : List Int → Int → Int
  | [], _ => 0
  | a :: as, x => a + (x - k) * ffv (k + 1) as x
theorem ffv_nwt (x : Int) : ∀ (n : Nat) (k : Int) (cs : List Int), cs.length ≤ n → ffv k (nwt n k cs) x = pvl cs x
  | 0, k, cs, h => by
    have e : cs = [] := List.length_eq_zero_iff.mp (by omega)
    subst e; rfl
  | n + 1, k, cs, h => by
    show pvl cs k + (x - k) * ffv (k + 1) (nwt n (k + 1) (sfv k cs.tail)) x = _
    rw [ffv_nwt x n (k + 1) (sfv k cs.tail) (by rw [sfv_len, List.length_tail]; omega)]
    exact (pv_sfv k x cs).symm
theorem ff_uniq : ∀ {as bs : List Int} (k : Int), as.length = bs.length → (∀ x, k ≤ x → ffv k as x = ffv k bs x) → as = bs
  | [], [], _, _, _ => rfl
  | [], b :: bs, _, h, _ => by cases h
  | a :: as, [], _, h, _ => by cases h
  | a :: as, b :: bs, k, h, e => by
    have e0 := e k (Int.le_refl k)
    have e0 : a + (k - k) * ffv (k + 1) as k = b + (k - k) * ffv (k + 1) bs k := e0
    rw [Int.sub_self, Int.zero_mul, Int.zero_mul, Int.add_zero, Int.add_zero] at e0
    subst e0
    rw [ff_uniq (as := as) (bs := bs) (k + 1) (by simpa using h) (fun x hx => by
      have ex := e x (by omega)
      have ex : a + (x - k) * ffv (k + 1) as x = a + (x - k) * ffv (k + 1) bs x := ex
      exact Int.eq_of_mul_eq_mul_left (show x - k ≠ 0 by omega) (by omega))]
/-- weights m, m + 1, .. -/
def wts (m : Int) : List Int → List Int
  | [] => []
  | a :: as => m * a :: wts (m + 1) as
theorem wts_len : ∀ (as : List Int) (m : Int), (wts m as).length = as.length
  | [], _ => rfl
  | a :: as, m => by show (wts _ as).length + 1 = _; rw [wts_len as]; rfl
theorem wts_get : ∀ (as : List Int) (m : Int) (i : Nat), (wts m as)[i]? = as[i]?.map fun a => (m + i) * a
  | [], _, _ => rfl
  | a :: as, m, 0 => by show some (m * a) = some ((m + 0) * a); rw [Int.add_zero]
  | a :: as, m, i + 1 => by
    show (wts (m + 1) as)[i]? = as[i]?.map _
    rw [wts_get as (m + 1) i]
    congr 1
    funext b
    rw [show m + 1 + (i : Int) = m + ((i + 1 : Nat) : Int) by omega]
theorem ffv_wts (x : Int) : ∀ (as : List Int) (k m : Int), ffv k as x + ffv k (wts m as) x = ffv k (wts (m + 1) as) x
  | [], _, _ => rfl
  | a :: as, k, m => by
    have ih := ffv_wts x as (k + 1) (m + 1)
    show (a + (x - k) * ffv (k + 1) as x) + (m * a + (x - k) * ffv (k + 1) (wts (m + 1) as) x) = (m + 1) * a + (x - k) * ffv (k + 1) (wts (m + 1 + 1) as) x
    rw [← ih]
    grind
theorem ffv_sh (x : Int) : ∀ (as : List Int) (k : Int), ffv (k + 1) as (x + 1) = ffv k as x
  | [], _ => rfl
  | a :: as, k => by
    show a + (x + 1 - (k + 1)) * ffv (k + 1 + 1) as (x + 1) = a + (x - k) * ffv (k + 1) as x
    rw [ffv_sh x as (k + 1), show x + 1 - (k + 1) = x - k by omega]
theorem ffv_two (x : Int) : ∀ (as : List Int) (k : Int), (x + 1 - k) * ffv k as x - (x - k) * ffv (k + 1) as x = ffv k (wts 1 as) x
  | [], k => by show (x + 1 - k) * 0 - (x - k) * 0 = 0; rw [Int.mul_zero, Int.mul_zero]; rfl
  | a :: as, k => by
    have ih := ffv_two x as (k + 1)
    have w2 := ffv_wts x as (k + 1) 1
    show (x + 1 - k) * (a + (x - k) * ffv (k + 1) as x) - (x - k) * (a + (x - (k + 1)) * ffv (k + 1 + 1) as x) = 1 * a + (x - k) * ffv (k + 1) (wts (1 + 1) as) x
    rw [← w2, ← ih]
    generalize ffv (k + 1) as x = A
    generalize ffv (k + 1 + 1) as x = B
    grind
/-- the differences -/
theorem ffv_dif (as : List Int) (x : Int) : ffv 0 as (x + 1) - ffv 0 as x = ffv 0 (wts 1 as.tail) x := by
  cases as with
  | nil => rfl
  | cons a as =>
    have h := ffv_two x as 0
    have s := ffv_sh x as 0
    show (a + (x + 1 - 0) * ffv (0 + 1) as (x + 1)) - (a + (x - 0) * ffv (0 + 1) as x) = ffv 0 (wts 1 as) x
    rw [← h, s]
    generalize ffv 0 as x = A
    generalize ffv (0 + 1) as x = B
    grind
/-- (j + 1) * .. * (j + k) -/
def rfc : Nat → Nat → Int
  | _, 0 => 1
  | j, k + 1 => ((j : Int) + 1) * rfc (j + 1) k
theorem rfc_last : ∀ k j : Nat, rfc j (k + 1) = rfc j k * ((j : Int) + k + 1)
  | 0, j => by show ((j : Int) + 1) * 1 = 1 * ((j : Int) + ((0 : Nat) : Int) + 1); omega
  | k + 1, j => by
    show ((j : Int) + 1) * rfc (j + 1) (k + 1) = (((j : Int) + 1) * rfc (j + 1) k) * ((j : Int) + ((k + 1 : Nat) : Int) + 1)
    rw [rfc_last k (j + 1), show ((j + 1 : Nat) : Int) + (k : Int) + 1 = (j : Int) + ((k + 1 : Nat) : Int) + 1 by omega, Int.mul_assoc]
theorem rfc_pos : ∀ k j : Nat, 0 < rfc j k
  | 0, _ => by show (0 : Int) < 1; decide
  | k + 1, j => Int.mul_pos (by omega) (rfc_pos k (j + 1))
/-- the factors of the k-th differences -/
def drs : Nat → List Int → List Int
  | 0, as => as
  | k + 1, as => wts 1 (drs k as).tail
theorem drs_get : ∀ (k : Nat) (as : List Int) (j : Nat), (drs k as)[j]? = as[j + k]?.map fun a => rfc j k * a
  | 0, as, j => by
    show as[j]? = as[j + 0]?.map fun a => 1 * a
    cases as[j]? <;> simp
  | k + 1, as, j => by
    show (wts 1 (drs k as).tail)[j]? = _
    rw [wts_get, List.getElem?_tail, drs_get k as (j + 1), Option.map_map, show j + 1 + k = j + (k + 1) by omega]
    congr 1
    funext a
    show (1 + (j : Int)) * (rfc (j + 1) k * a) = ((j : Int) + 1) * rfc (j + 1) k * a
    rw [Int.mul_assoc, Int.add_comm 1]
theorem ffv_zero (as : List Int) : ffv 0 as 0 = as.headD 0 := by
  cases as with
  | nil => rfl
  | cons a as => show a + (0 - 0) * _ = a; rw [Int.sub_self, Int.zero_mul, Int.add_zero]
theorem drs_head {k : Nat} {as : List Int} {a : Int} (h : as[k]? = some a) : ffv 0 (drs k as) 0 = rfc 0 k * a := by
  have g := drs_get k as 0
  rw [Nat.zero_add, h] at g
  rw [ffv_zero]
  cases e : drs k as with
  | nil => rw [e] at g; cases g
  | cons x r =>
    rw [e] at g
    exact Option.some.inj g
/-- without the zeros at its end -/
def trm : List Int → List Int
  | [] => []
  | a :: as => match trm as with
    | [] => if a = 0 then [] else [a]
    | b :: bs => a :: b :: bs
theorem trm_app0 : ∀ as : List Int, trm (as ++ [0]) = trm as
  | [] => rfl
  | a :: as => by
    show (match trm (as ++ [0]) with | [] => if a = 0 then [] else [a] | b :: bs => a :: b :: bs) = _
    rw [trm_app0 as]; rfl
theorem trm_last : ∀ {as : List Int} {b : Int}, b ≠ 0 → trm (as ++ [b]) = as ++ [b]
  | [], b, h => by show (if b = 0 then [] else [b]) = [b]; rw [if_neg h]
  | a :: as, b, h => by
    show (match trm (as ++ [b]) with | [] => if a = 0 then [] else [a] | b :: bs => a :: b :: bs) = a :: (as ++ [b])
    rw [trm_last h]
    cases as <;> rfl
theorem trm_split : ∀ as : List Int, ∃ n : Nat, as = trm as ++ List.replicate n 0
  | [] => ⟨0, rfl⟩
  | a :: as => by
    obtain ⟨n, hn⟩ := trm_split as
    show ∃ m, a :: as = (match trm as with | [] => if a = 0 then [] else [a] | b :: bs => a :: b :: bs) ++ _
    cases e : trm as with
    | nil =>
      rw [e, List.nil_append] at hn
      by_cases c : a = 0
      · exact ⟨n + 1, by simp only [c, if_true]; rw [hn]; simp [List.replicate_succ]⟩
      · exact ⟨n, by simp only [c, if_false]; rw [hn]; simp⟩
    | cons b bs =>
      exact ⟨n, by rw [e] at hn; simp only; rw [hn]; simp⟩
theorem trm_end : ∀ (as : List Int), trm as = [] ∨ ∃ bs b, trm as = bs ++ [b] ∧ b ≠ 0
  | [] => .inl rfl
  | a :: as => by
    show (match trm as with | [] => if a = 0 then [] else [a] | b :: bs => a :: b :: bs) = [] ∨ ∃ bs b, (match trm as with | [] => if a = 0 then [] else [a] | b :: bs => a :: b :: bs) = bs ++ [b] ∧ b ≠ 0
    have ih := trm_end as
    cases e : trm as with
    | nil =>
      by_cases c : a = 0
      · simp only [c, if_true]; exact .inl trivial
      · simp only [c, if_false]; exact .inr ⟨[], a, rfl, c⟩
    | cons b bs =>
      rcases ih with z | ⟨cs, c, h, hc⟩
      · rw [e] at z; cases z
      · simp only
        exact .inr ⟨a :: cs, c, by rw [← e, h]; rfl, hc⟩
theorem trm_idem (as : List Int) : trm (trm as) = trm as := by
  rcases trm_end as with h | ⟨bs, b, h, hb⟩
  · rw [h]; rfl
  · rw [h]; exact trm_last hb
theorem trm_len (as : List Int) : (trm as).length ≤ as.length := by
  obtain ⟨n, h⟩ := trm_split as
  have := congrArg List.length h
  rw [List.length_append] at this
  omega
theorem trm_get {as : List Int} {i : Nat} {a : Int} (h : (trm as)[i]? = some a) : as[i]? = some a := by
  obtain ⟨n, e⟩ := trm_split as
  rw [e, List.getElem?_append_left (List.getElem?_eq_some_iff.mp h).1]
  exact h
theorem pv_rep (x : Int) : ∀ n : Nat, pvl (List.replicate n 0) x = 0
  | 0 => rfl
  | n + 1 => by show 0 + x * pvl (List.replicate n 0) x = 0; rw [pv_rep x n, Int.mul_zero]; rfl
theorem pv_trm (as : List Int) (x : Int) : pvl (trm as) x = pvl as x := by
  obtain ⟨n, e⟩ := trm_split as
  conv => rhs; rw [e, pv_append, pv_rep, Int.mul_zero, Int.add_zero]
/-- u and x - k times a polynomial -/
def mlk (k : Int) : Int → List Int → List Int
  | u, [] => [u - k * 0]
  | u, p :: ps => (u - k * p) :: mlk k p ps
theorem mlk_len (k : Int) : ∀ (ps : List Int) (u : Int), (mlk k u ps).length = ps.length + 1
  | [], _ => rfl
  | p :: ps, u => by show (mlk k p ps).length + 1 = _; rw [mlk_len k ps]; rfl
theorem pv_mlk (k x : Int) : ∀ (ps : List Int) (u : Int), pvl (mlk k u ps) x = u + (x - k) * pvl ps x
  | [], u => by simp [mlk, pvl]
  | p :: ps, u => by
    show (u - k * p) + x * pvl (mlk k p ps) x = u + (x - k) * (p + x * pvl ps x)
    rw [pv_mlk k x ps p]
    generalize pvl ps x = A
    grind
theorem mlk_get (k : Int) : ∀ (ps : List Int) (u : Int) (i : Nat), i < ps.length + 1 → (mlk k u ps)[i]? = some ((u :: ps).getD i 0 - k * (ps ++ [0]).getD i 0)
  | [], u, 0, _ => rfl
  | [], u, i + 1, h => absurd h (by simp)
  | p :: ps, u, 0, _ => rfl
  | p :: ps, u, i + 1, h => by
    show (mlk k p ps)[i]? = _
    rw [mlk_get k ps p i (by simpa using h)]
    simp [List.getD_eq_getElem?_getD]
theorem mlk_b {k : Int} {A b : Nat} (hk : k.natAbs ≤ 9) : ∀ {ps : List Int} {u : Int}, u.natAbs ≤ A → b ≤ A → (∀ p ∈ ps, p.natAbs ≤ b) → ∀ p ∈ mlk k u ps, p.natAbs ≤ A + 9 * b
  | [], u, hu, hb, _, p, hp => by
    have : p = u - k * 0 := List.mem_singleton.mp hp
    rw [this, Int.mul_zero]; omega
  | q :: ps, u, hu, hb, hps, p, hp => by
    have hq := hps q List.mem_cons_self
    rcases List.mem_cons.mp hp with rfl | hp
    · have h1 : (k * q).natAbs ≤ 9 * b := by rw [Int.natAbs_mul]; exact Nat.mul_le_mul hk hq
      omega
    · exact mlk_b hk (by omega) hb (fun p hp => hps p (List.mem_cons_of_mem _ hp)) p hp
theorem mlk_snoc (k : Int) : ∀ (gs : List Int) (u b : Int), ∃ hs, mlk k u (gs ++ [b]) = hs ++ [b] ∧ hs.length = gs.length + 1
  | [], u, b => ⟨[u - k * b], by show [u - k * b, b - k * 0] = _; rw [Int.mul_zero, Int.sub_zero]; rfl, rfl⟩
  | g :: gs, u, b => by
    obtain ⟨hs, h, l⟩ := mlk_snoc k gs g b
    exact ⟨(u - k * g) :: hs, by show (u - k * g) :: mlk k g (gs ++ [b]) = _; rw [h]; rfl, by simp [l]⟩
theorem mlk_head (k a : Int) : ∀ g : List Int, ∃ h t, mlk k 0 g = h :: t ∧ mlk k a g = (h + a) :: t
  | [] => ⟨0 - k * 0, [], rfl, by show [a - k * 0] = _; rw [show a - k * 0 = 0 - k * 0 + a by omega]⟩
  | p :: ps => ⟨0 - k * p, mlk k p ps, rfl, by show (a - k * p) :: _ = _; rw [show a - k * p = 0 - k * p + a by omega]⟩
/-- the polynomial of a form, from k on -/
def grw (k : Int) : List Int → List Int
  | [] => []
  | a :: as => mlk k a (grw (k + 1) as)
theorem grw_len : ∀ (as : List Int) (k : Int), (grw k as).length = as.length
  | [], _ => rfl
  | a :: as, k => by show (mlk k a (grw (k + 1) as)).length = _; rw [mlk_len, grw_len as]; rfl
theorem pv_grw (x : Int) : ∀ (as : List Int) (k : Int), pvl (grw k as) x = ffv k as x
  | [], _ => rfl
  | a :: as, k => by show pvl (mlk k a (grw (k + 1) as)) x = _; rw [pv_mlk, pv_grw x as]; rfl
theorem grw_b {A : Nat} : ∀ (as : List Int) (k : Nat), k + as.length ≤ 9 → (∀ a ∈ as, a.natAbs ≤ A) → ∀ p ∈ grw k as, p.natAbs ≤ A * 11 ^ as.length
  | [], k, _, _, p, hp => by cases hp
  | a :: as, k, hk, ha, p, hp => by
    have hk : k + (as.length + 1) ≤ 9 := hk
    have ih := grw_b as (k + 1) (by omega) (fun a h => ha a (List.mem_cons_of_mem _ h))
    rw [show ((k + 1 : Nat) : Int) = (k : Int) + 1 by omega] at ih
    have h0 := ha a List.mem_cons_self
    have p1 : 1 ≤ 11 ^ as.length := Nat.one_le_pow _ _ (by decide)
    have h1 : A ≤ A * 11 ^ as.length := by
      have := Nat.mul_le_mul_left A p1
      omega
    have hp : p ∈ mlk k a (grw ((k : Int) + 1) as) := hp
    have := mlk_b (k := k) (A := A * 11 ^ as.length) (b := A * 11 ^ as.length) (by omega) (by omega) (Nat.le_refl _) ih p hp
    show p.natAbs ≤ A * 11 ^ (as.length + 1)
    rw [Nat.pow_succ, ← Nat.mul_assoc]
    omega
theorem grw_snoc : ∀ (as : List Int) (k b : Int), ∃ hs, grw k (as ++ [b]) = hs ++ [b]
  | [], k, b => ⟨[], by show [b - k * 0] = [b]; rw [Int.mul_zero, Int.sub_zero]⟩
  | a :: as, k, b => by
    obtain ⟨gs, h⟩ := grw_snoc as (k + 1) b
    obtain ⟨hs, h2, _⟩ := mlk_snoc k gs a b
    exact ⟨hs, by show mlk k a (grw (k + 1) (as ++ [b])) = _; rw [h, h2]⟩
/-- (x - k) * .. * (x - k - n + 1) -/
def fal : Nat → Int → Int → Int
  | 0, _, _ => 1
  | n + 1, k, x => (x - k) * fal n (k + 1) x
theorem fal_last (x : Int) : ∀ (n : Nat) (k : Int), fal (n + 1) k x = fal n k x * (x - k - n)
  | 0, k => by show (x - k) * 1 = 1 * (x - k - ((0 : Nat) : Int)); omega
  | n + 1, k => by
    show (x - k) * fal (n + 1) (k + 1) x = ((x - k) * fal n (k + 1) x) * (x - k - ((n + 1 : Nat) : Int))
    rw [fal_last x n (k + 1), show x - (k + 1) - (n : Int) = x - k - ((n + 1 : Nat) : Int) by omega, Int.mul_assoc]
theorem ffv_snoc (x b : Int) : ∀ (as : List Int) (k : Int), ffv k (as ++ [b]) x = ffv k as x + b * fal as.length k x
  | [], k => by show b + (x - k) * 0 = 0 + b * 1; omega
  | a :: as, k => by
    show a + (x - k) * ffv (k + 1) (as ++ [b]) x = a + (x - k) * ffv (k + 1) as x + b * ((x - k) * fal as.length (k + 1) x)
    rw [ffv_snoc x b as (k + 1)]
    generalize ffv (k + 1) as x = A
    generalize fal as.length (k + 1) x = B
    grind
/-- how often 2 divides max(1, k), and 1 * .. * k -/
def tw1 (k : Nat) : Nat := [0, 0, 1, 0, 2, 0, 1, 0, 3].getD k 0
def twT (k : Nat) : Nat := [0, 0, 1, 1, 3, 3, 4, 4, 7].getD k 0
theorem tw_step : ∀ k : Nat, k < 8 → twT (k + 1) = twT k + tw1 (k + 1)
  | 0, _ => rfl
  | 1, _ => rfl
  | 2, _ => rfl
  | 3, _ => rfl
  | 4, _ => rfl
  | 5, _ => rfl
  | 6, _ => rfl
  | 7, _ => rfl
  | n + 8, h => absurd h (by omega)
theorem tw1_max : ∀ k : Nat, k < 9 → max 1 (k : Int) = 2 ^ tw1 k * (2 * ([0, 0, 0, 1, 0, 2, 1, 3, 0] : List Int).getD k 0 + 1) := by
  have h : ∀ k : Fin 9, max 1 (k.val : Int) = 2 ^ tw1 k.val * (2 * ([0, 0, 0, 1, 0, 2, 1, 3, 0] : List Int).getD k.val 0 + 1) := by decide +kernel
  exact fun k hk => h ⟨k, hk⟩
theorem tw_left {w i : Nat} (h : i < 9) : max (0 : Int) (((w - twT (i - 1) : Nat) : Int) - (tw1 i : Nat)) = ((w - twT i : Nat) : Int) := by
  rcases Nat.eq_zero_or_pos i with z | z
  · subst z
    show max (0 : Int) (((w - 0 : Nat) : Int) - ((0 : Nat) : Int)) = ((w - 0 : Nat) : Int)
    omega
  · have := tw_step (i - 1) (by omega)
    rw [show i - 1 + 1 = i by omega] at this
    omega
theorem rfc_tw : ∀ k o : Nat, k < 9 → o ≤ twT k → ((rfc 0 k / 2 ^ o) % 2 = 0 ↔ o < twT k) := by
  have h : ∀ k : Fin 9, ∀ o : Fin 8, o.val ≤ twT k.val → ((rfc 0 k.val / 2 ^ o.val) % 2 = 0 ↔ o.val < twT k.val) := by decide +kernel
  intro k o hk ho
  have h7 : ∀ k : Fin 9, twT k.val ≤ 7 := by decide +kernel
  have := h7 ⟨k, hk⟩
  exact h ⟨k, hk⟩ ⟨o, by have : twT k ≤ 7 := this; omega⟩ ho
theorem twT7 {k : Nat} (h : k < 9) : twT k ≤ 7 := by
  have h7 : ∀ k : Fin 9, twT k.val ≤ 7 := by decide +kernel
  exact h7 ⟨k, h⟩
/-- what is left after i divisions, from x - k on -/
def qnk (k : Int) : Nat → List Int → List Int
  | 0, cs => cs
  | i + 1, cs => sfv (k + i) (qnk k i cs).tail
theorem qnk_succ (k : Int) (cs : List Int) : ∀ i : Nat, qnk (k + 1) i (sfv k cs.tail) = qnk k (i + 1) cs
  | 0 => by show sfv k cs.tail = sfv (k + ((0 : Nat) : Int)) cs.tail; rw [show k + ((0 : Nat) : Int) = k by omega]
  | i + 1 => by
    show sfv (k + 1 + i) (qnk (k + 1) i (sfv k cs.tail)).tail = sfv (k + ((i + 1 : Nat) : Int)) (qnk k (i + 1) cs).tail
    rw [qnk_succ k cs i, show k + 1 + (i : Int) = k + ((i + 1 : Nat) : Int) by omega]
theorem qnk_len (k : Int) (cs : List Int) : ∀ i : Nat, (qnk k i cs).length = cs.length - i
  | 0 => rfl
  | i + 1 => by show (sfv _ (qnk k i cs).tail).length = _; rw [sfv_len, List.length_tail, qnk_len k cs i]; omega
theorem nwt_get : ∀ (n : Nat) (k : Int) (cs : List Int) (i : Nat), i < n → (nwt n k cs)[i]? = some (pvl (qnk k i cs) (k + i))
  | 0, _, _, _, h => absurd h (Nat.not_lt_zero _)
  | n + 1, k, cs, 0, _ => by show some (pvl cs k) = some (pvl cs (k + ((0 : Nat) : Int))); rw [show k + ((0 : Nat) : Int) = k by omega]
  | n + 1, k, cs, i + 1, h => by
    show (nwt n (k + 1) (sfv k cs.tail))[i]? = _
    rw [nwt_get n (k + 1) (sfv k cs.tail) i (by omega), qnk_succ, show k + 1 + (i : Int) = k + ((i + 1 : Nat) : Int) by omega]
theorem pv_bd {A : Nat} {k : Int} (hk : k.natAbs ≤ 9) : ∀ cs : List Int, (∀ c ∈ cs, c.natAbs ≤ A) → (pvl cs k).natAbs ≤ A * 10 ^ cs.length
  | [], _ => Nat.zero_le _
  | c :: cs, h => by
    have ih := pv_bd hk cs (fun c hc => h c (List.mem_cons_of_mem _ hc))
    have h0 := h c List.mem_cons_self
    have p1 : 1 ≤ 10 ^ cs.length := Nat.one_le_pow _ _ (by decide)
    have h1 : A ≤ A * 10 ^ cs.length := by
      have := Nat.mul_le_mul_left A p1
      omega
    have h2 : (k * pvl cs k).natAbs ≤ 9 * (A * 10 ^ cs.length) := by rw [Int.natAbs_mul]; exact Nat.mul_le_mul hk ih
    show (c + k * pvl cs k).natAbs ≤ A * 10 ^ (cs.length + 1)
    rw [Nat.pow_succ, ← Nat.mul_assoc]
    omega
theorem sfv_b {A : Nat} {k : Int} (hk : k.natAbs ≤ 9) : ∀ cs : List Int, cs.length ≤ 9 → (∀ c ∈ cs, c.natAbs ≤ A) → ∀ p ∈ sfv k cs, p.natAbs ≤ A * 10 ^ 9
  | [], _, _, p, hp => by cases hp
  | c :: cs, hl, h, p, hp => by
    rcases List.mem_cons.mp hp with rfl | hp
    · exact Nat.le_trans (pv_bd hk (c :: cs) h) (Nat.mul_le_mul_left _ (Nat.pow_le_pow_right (by decide) hl))
    · exact sfv_b hk cs (by simp at hl; omega) (fun c hc => h c (List.mem_cons_of_mem _ hc)) p hp
theorem qnk_b {A : Nat} (cs : List Int) (hl : cs.length ≤ 9) (h : ∀ c ∈ cs, c.natAbs ≤ A) : ∀ i : Nat, i ≤ 9 → ∀ p ∈ qnk 0 i cs, p.natAbs ≤ A * (10 ^ 9) ^ i
  | 0, _, p, hp => by rw [Nat.pow_zero, Nat.mul_one]; exact h p hp
  | i + 1, hi, p, hp => by
    have ih := qnk_b cs hl h i (by omega)
    rw [Nat.pow_succ, ← Nat.mul_assoc]
    have hp : p ∈ sfv (0 + (i : Int)) (qnk 0 i cs).tail := hp
    exact sfv_b (k := 0 + (i : Int)) (by omega) _ (by rw [List.length_tail, qnk_len]; omega) (fun c hc => ih c (List.mem_of_mem_tail hc)) p hp
/-- the normal form, zeros at its end kept -/
def nfm (w : Nat) (cs : List Int) : List Int := (List.range cs.length).map fun k => (nwt cs.length 0 cs).getD k 0 % 2 ^ (w - twT k)
theorem nfm_len (w : Nat) (cs : List Int) : (nfm w cs).length = cs.length := by unfold nfm; rw [List.length_map, List.length_range]
theorem nfm_get {w : Nat} {cs : List Int} {k : Nat} (h : k < cs.length) : (nfm w cs)[k]? = some ((nwt cs.length 0 cs).getD k 0 % 2 ^ (w - twT k)) := by
  unfold nfm
  rw [List.getElem?_map, List.getElem?_range h]; rfl
theorem nfm_at {w : Nat} {cs : List Int} {k : Nat} (h : k < cs.length) : (nfm w cs)[k]? = some (pvl (qnk 0 k cs) k % 2 ^ (w - twT k)) := by
  rw [nfm_get h, List.getD_eq_getElem?_getD, nwt_get cs.length 0 cs k h, Option.getD_some, Int.zero_add]
theorem nfm_b {w : Nat} {cs : List Int} : ∀ {k : Nat} {a : Int}, (nfm w cs)[k]? = some a → 0 ≤ a ∧ a < 2 ^ (w - twT k) := fun {k a} h => by
  have hk : k < cs.length := by have := (List.getElem?_eq_some_iff.mp h).1; rwa [nfm_len] at this
  rw [nfm_get hk] at h
  rw [← Option.some.inj h]
  have p : (0 : Int) < 2 ^ (w - twT k) := Int.pow_pos (by decide)
  exact ⟨Int.emod_nonneg _ (Int.ne_of_gt p), Int.emod_lt_of_pos _ p⟩
/-- the polynomial of a form, 0 for none -/
def ofF (fs : List Int) : List Int := if trm (grw 0 fs) = [] then [0] else trm (grw 0 fs)
theorem nf_of {w : Nat} {fs : List Int} (h : ∀ (k : Nat) (a : Int), fs[k]? = some a → 0 ≤ a ∧ a < 2 ^ (w - twT k)) (ht : trm fs = fs) : trm (nfm w (ofF fs)) = fs := by
  rcases trm_end fs with e | ⟨bs, b, e, hb⟩
  · rw [ht] at e
    subst e
    show trm (nfm w [0]) = []
    unfold nfm
    show trm [(0 + 0 * 0) % 2 ^ (w - twT 0)] = []
    rw [Int.zero_mul, Int.add_zero, Int.zero_emod]; rfl
  · rw [ht] at e
    have el : grw 0 fs = trm (grw 0 fs) := by
      rw [e]
      obtain ⟨hs, h2⟩ := grw_snoc bs 0 b
      rw [h2, trm_last hb]
    have ne : trm (grw 0 fs) ≠ [] := by
      rw [← el]
      intro z
      have := grw_len fs 0
      rw [z, e, List.length_append] at this
      simp at this
    have eo : ofF fs = grw 0 fs := by unfold ofF; rw [if_neg ne, ← el]
    rw [eo]
    have en : nwt (grw 0 fs).length 0 (grw 0 fs) = fs := ff_uniq 0 (by rw [nwt_len, grw_len]) fun x _ => by
      rw [ffv_nwt x _ 0 _ (Nat.le_refl _), pv_grw]
    have ef : nfm w (grw 0 fs) = fs := by
      refine List.ext_getElem? fun k => ?_
      by_cases c : k < (grw 0 fs).length
      · rw [nfm_get c, en]
        have ck : k < fs.length := by rwa [grw_len] at c
        have ek : fs[k]? = some fs[k] := List.getElem?_eq_getElem ck
        obtain ⟨h0, h1⟩ := h k _ ek
        rw [List.getD_eq_getElem?_getD, ek, Option.getD_some, Int.emod_eq_of_lt h0 h1]
      · rw [List.getElem?_eq_none (by rw [nfm_len]; omega), List.getElem?_eq_none (by rw [grw_len] at c; omega)]
    rw [ef, ht]
end Fw
namespace Fw
/-- the derivative's value -/
def dpl : List Int → Int → Int
  | [], _ => 0
  | _ :: r, x => pvl r x + x * dpl r x
theorem dvd_odd : ∀ {w : Nat} {a z : Int}, a % 2 = 1 → (2 : Int) ^ w ∣ z * a → (2 : Int) ^ w ∣ z
  | 0, _, _, _, _ => by rw [Int.pow_zero]; exact Int.one_dvd _
  | w + 1, a, z, ha, h => by
    have h2 : (2 : Int) ∣ z * a := Int.dvd_trans ⟨2 ^ w, by rw [Int.pow_succ, Int.mul_comm]⟩ h
    have ze : z % 2 = 0 := by
      have e := Int.emod_eq_zero_of_dvd h2
      rw [Int.mul_emod, ha] at e
      rcases Int.emod_two_eq z with z0 | z1
      · exact z0
      · rw [z1] at e
        exact absurd e (by decide)
    obtain ⟨y, rfl⟩ : ∃ y, z = 2 * y := ⟨z / 2, by omega⟩
    obtain ⟨k, hk⟩ := h
    have e2 : y * a = 2 ^ w * k := by
      rw [Int.pow_succ, Int.mul_assoc, Int.mul_comm ((2 : Int) ^ w), Int.mul_assoc] at hk
      have := Int.eq_of_mul_eq_mul_left (by decide : (2 : Int) ≠ 0) hk
      rw [this, Int.mul_comm]
    rw [Int.pow_succ, Int.mul_comm]
    exact Int.mul_dvd_mul_left 2 (dvd_odd ha ⟨k, e2⟩)
theorem pvl_diff : ∀ (cs : List Int) (x y : Int), ∃ r, pvl cs x - pvl cs y = (x - y) * r ∧ ((2 : Int) ∣ x - y → (2 : Int) ∣ r - dpl cs x)
  | [], x, y => ⟨0, by simp [pvl], fun _ => by simp [dpl]⟩
  | c :: cs, x, y => by
    obtain ⟨r, e, h⟩ := pvl_diff cs x y
    refine ⟨pvl cs x + y * r, ?_, fun z => ?_⟩
    · show c + x * pvl cs x - (c + y * pvl cs y) = _
      have : pvl cs y = pvl cs x - (x - y) * r := by omega
      rw [this]
      generalize hD : x - y = D
      have ex : x = y + D := by omega
      rw [ex, Int.mul_add, Int.mul_sub, Int.add_mul, Int.mul_left_comm D y r]
      omega
    · show (2 : Int) ∣ pvl cs x + y * r - (pvl cs x + x * dpl cs x)
      obtain ⟨u, hu⟩ := h z
      obtain ⟨v, hv⟩ := z
      refine ⟨y * u - v * dpl cs x, ?_⟩
      have e1 : r = dpl cs x + 2 * u := by omega
      have e2 : x = y + 2 * v := by omega
      rw [e1, Int.mul_add, Int.mul_sub]
      rw [show x * dpl cs x = y * dpl cs x + 2 * (v * dpl cs x) by rw [e2, Int.add_mul, Int.mul_assoc]]
      rw [show y * (2 * u) = 2 * (y * u) by rw [← Int.mul_assoc, Int.mul_comm y 2, Int.mul_assoc]]
      omega
theorem dpl_cong : ∀ (cs : List Int) {x y : Int}, (2 : Int) ∣ x - y → (2 : Int) ∣ dpl cs x - dpl cs y
  | [], _, _, _ => by simp [dpl]
  | c :: cs, x, y, h => by
    show (2 : Int) ∣ pvl cs x + x * dpl cs x - (pvl cs y + y * dpl cs y)
    obtain ⟨u, hu⟩ := dpl_cong cs h
    obtain ⟨v, hv⟩ := pv_congx cs h
    obtain ⟨t, ht⟩ := h
    refine ⟨v + y * u + t * dpl cs x, ?_⟩
    have e1 : dpl cs y = dpl cs x - 2 * u := by omega
    have e2 : x * dpl cs x = y * dpl cs x + 2 * (t * dpl cs x) := by rw [show x = y + 2 * t by omega, Int.add_mul, Int.mul_assoc]
    rw [e1, e2, Int.mul_sub, Int.mul_add, Int.mul_add, show y * (2 * u) = 2 * (y * u) by rw [← Int.mul_assoc, Int.mul_comm y 2, Int.mul_assoc]]
    omega
/-- the criterion -/
def PermQ (w : Nat) (cs : List Int) : Prop := (pvl cs 1 - pvl cs 0) % 2 = 1 ∧ (w ≠ 1 → dpl cs 0 % 2 = 1 ∧ dpl cs 1 % 2 = 1)
theorem dvd2_pow {w : Nat} (h : 1 ≤ w) : (2 : Int) ∣ 2 ^ w := by
  obtain ⟨v, rfl⟩ : ∃ v, w = v + 1 := ⟨w - 1, by omega⟩
  exact ⟨2 ^ v, by rw [Int.pow_succ, Int.mul_comm]⟩
theorem par (x : Int) : (2 : Int) ∣ x - 0 ∨ (2 : Int) ∣ x - 1 := by
  rcases Int.emod_two_eq x with h | h
  · exact .inl (by omega)
  · exact .inr (by omega)
theorem perm_inj {w : Nat} {cs : List Int} (h1 : 1 ≤ w) (q : PermQ w cs) {x y : Int} (h : (2 : Int) ^ w ∣ pvl cs x - pvl cs y) : (2 : Int) ^ w ∣ x - y := by
  have h2 : (2 : Int) ∣ pvl cs x - pvl cs y := Int.dvd_trans (dvd2_pow h1) h
  have q1 := q.1
  have same : (2 : Int) ∣ x - y := by
    rcases par x with hx | hx <;> rcases par y with hy | hy
    · omega
    · have a := pv_congx cs hx
      have b := pv_congx cs hy
      omega
    · have a := pv_congx cs hx
      have b := pv_congx cs hy
      omega
    · omega
  by_cases c : w = 1
  · rw [c, Int.pow_one]; exact same
  · obtain ⟨d0, d1⟩ := q.2 c
    obtain ⟨r, e, hr⟩ := pvl_diff cs x y
    have hr := hr same
    have ro : r % 2 = 1 := by
      rcases par x with hx | hx
      · have := dpl_cong cs hx; omega
      · have := dpl_cong cs hx; omega
    rw [e] at h
    exact dvd_odd ro h
/-- where the criterion fails, two have the same value or all values are alike modulo 2 -/
theorem perm_not {w : Nat} {cs : List Int} (h1 : 1 ≤ w) (q : ¬ PermQ w cs) : (∃ x y : Int, ¬ (2 : Int) ^ w ∣ x - y ∧ (2 : Int) ^ w ∣ pvl cs x - pvl cs y) ∨ ∀ x y : Int, (2 : Int) ∣ pvl cs x - pvl cs y := by
  by_cases c : (pvl cs 1 - pvl cs 0) % 2 = 1
  · refine .inl ?_
    have w2 : w ≠ 1 ∧ ¬ (dpl cs 0 % 2 = 1 ∧ dpl cs 1 % 2 = 1) := by
      by_cases w1 : w = 1
      · exact absurd ⟨c, fun z => absurd w1 z⟩ q
      · exact ⟨w1, fun z => q ⟨c, fun _ => z⟩⟩
    obtain ⟨w1, nd⟩ := w2
    obtain ⟨b, hb⟩ : ∃ b : Int, dpl cs b % 2 = 0 := by
      by_cases z : dpl cs 0 % 2 = 1
      · exact ⟨1, by rcases Int.emod_two_eq (dpl cs 1) with e | e; exact e; exact absurd ⟨z, e⟩ nd⟩
      · exact ⟨0, by rcases Int.emod_two_eq (dpl cs 0) with e | e; exact e; exact absurd e z⟩
    have hp : (0 : Int) < 2 ^ (w - 1) := Int.pow_pos (by decide)
    have hw : (2 : Int) ^ w = 2 ^ (w - 1) * 2 := by
      obtain ⟨v, rfl⟩ : ∃ v, w = v + 1 := ⟨w - 1, by omega⟩
      rw [Nat.add_sub_cancel, Int.pow_succ]
    obtain ⟨r, e, hr⟩ := pvl_diff cs (b + 2 ^ (w - 1)) b
    have e3 : b + 2 ^ (w - 1) - b = (2 : Int) ^ (w - 1) := by omega
    rw [e3] at e hr
    have h2 : (2 : Int) ∣ 2 ^ (w - 1) := dvd2_pow (by omega)
    have re : (2 : Int) ∣ r := by
      have a := hr h2
      have a2 := dpl_cong cs (x := b + 2 ^ (w - 1)) (y := b) (by rw [e3]; exact h2)
      omega
    refine ⟨b + 2 ^ (w - 1), b, ?_, ?_⟩
    · rw [e3, hw]
      intro z
      have := Int.le_of_dvd hp z
      omega
    · rw [e, hw]
      exact Int.mul_dvd_mul_left _ re
  · refine .inr fun x y => ?_
    have c0 : (2 : Int) ∣ pvl cs 1 - pvl cs 0 := by omega
    rcases par x with hx | hx <;> rcases par y with hy | hy
    all_goals
      have a := pv_congx cs hx
      have b := pv_congx cs hy
      omega
end Fw
namespace Fw
/-! ### normal forms and alikeness -/
theorem ffv_zw (x : Int) : ∀ (as bs : List Int) (k : Int), as.length = bs.length → ffv k (List.zipWith (· - ·) as bs) x = ffv k as x - ffv k bs x
  | [], [], _, _ => rfl
  | [], b :: bs, _, h => by cases h
  | a :: as, [], _, h => by cases h
  | a :: as, b :: bs, k, h => by
    show (a - b) + (x - k) * ffv (k + 1) (List.zipWith (· - ·) as bs) x = (a + (x - k) * ffv (k + 1) as x) - (b + (x - k) * ffv (k + 1) bs x)
    rw [ffv_zw x as bs (k + 1) (by simpa using h), Int.mul_sub]
    omega
theorem ffv_rep (x : Int) : ∀ (as : List Int) (m : Nat) (k : Int), ffv k (as ++ List.replicate m 0) x = ffv k as x
  | [], 0, _ => rfl
  | [], m + 1, k => by
    show 0 + (x - k) * ffv (k + 1) ([] ++ List.replicate m 0) x = 0
    rw [ffv_rep x [] m (k + 1)]
    show 0 + (x - k) * 0 = (0 : Int)
    rw [Int.mul_zero]; rfl
  | a :: as, m, k => by
    show a + (x - k) * ffv (k + 1) (as ++ List.replicate m 0) x = a + (x - k) * ffv (k + 1) as x
    rw [ffv_rep x as m (k + 1)]
theorem nwt_pad {n : Nat} {cs : List Int} (h : cs.length ≤ n) : nwt n 0 cs = nwt cs.length 0 cs ++ List.replicate (n - cs.length) 0 :=
  ff_uniq 0 (by rw [nwt_len, List.length_append, nwt_len, List.length_replicate]; omega) fun x _ => by
    rw [ffv_nwt x n 0 cs h, ffv_rep, ffv_nwt x _ 0 cs (Nat.le_refl _)]
theorem drs_comm : ∀ (k : Nat) (as : List Int), drs k (wts 1 as.tail) = drs (k + 1) as
  | 0, _ => rfl
  | k + 1, as => by show wts 1 (drs k (wts 1 as.tail)).tail = wts 1 (drs (k + 1) as).tail; rw [drs_comm k as]
/-- all differences at 0 divisible: the value everywhere -/
theorem ffv_all {S : Int} : ∀ (n : Nat) (as : List Int), as.length ≤ n → (∀ k : Nat, k < n → S ∣ ffv 0 (drs k as) 0) → ∀ x, S ∣ ffv 0 as x
  | 0, as, h, _, x => by
    have : as = [] := List.length_eq_zero_iff.mp (by omega)
    subst this
    exact Int.dvd_zero _
  | n + 1, as, h, hz, x => by
    have hd := ffv_all n (wts 1 as.tail) (by rw [wts_len, List.length_tail]; omega) (fun k hk => by
      rw [drs_comm]
      exact hz (k + 1) (by omega))
    have h1 := dvd_all (S := S) (f := ffv 0 as) 0 (fun x => by rw [ffv_dif]; exact hd x) x
    have h2 := hz 0 (by omega)
    have h2 : S ∣ ffv 0 as 0 := h2
    have := Int.dvd_add h1 h2
    rwa [show ffv 0 as x - ffv 0 as 0 + ffv 0 as 0 = ffv 0 as x by omega] at this
theorem drs_dvd {S : Int} : ∀ (k : Nat) (as : List Int), (∀ x, S ∣ ffv 0 as x) → ∀ x, S ∣ ffv 0 (drs k as) x
  | 0, _, h, x => h x
  | k + 1, as, h, x => by
    rw [← drs_comm]
    refine drs_dvd k (wts 1 as.tail) (fun x => ?_) x
    rw [← ffv_dif]
    exact Int.dvd_sub (h _) (h _)
theorem rfc_split : ∀ k : Nat, k < 9 → ∃ m : Int, rfc 0 k = 2 ^ twT k * m ∧ m % 2 = 1 := by
  have h : ∀ k : Fin 9, rfc 0 k.val = 2 ^ twT k.val * (rfc 0 k.val / 2 ^ twT k.val) ∧ (rfc 0 k.val / 2 ^ twT k.val) % 2 = 1 := by decide +kernel
  exact fun k hk => ⟨_, (h ⟨k, hk⟩).1, (h ⟨k, hk⟩).2⟩
theorem dvd_fac {w k : Nat} {z : Int} (hk : k < 9) : (2 : Int) ^ w ∣ rfc 0 k * z ↔ (2 : Int) ^ (w - twT k) ∣ z := by
  obtain ⟨m, hm, mo⟩ := rfc_split k hk
  rw [hm]
  have p : (0 : Int) < 2 ^ twT k := Int.pow_pos (by decide)
  rcases Nat.lt_or_ge (twT k) w with c | c
  · have e : (2 : Int) ^ w = 2 ^ twT k * 2 ^ (w - twT k) := by rw [← Int.pow_add, show twT k + (w - twT k) = w by omega]
    rw [e, Int.mul_assoc, Int.mul_dvd_mul_iff_left (Int.ne_of_gt p)]
    constructor
    · intro h
      rw [Int.mul_comm] at h
      exact dvd_odd mo h
    · intro h
      exact Int.dvd_trans h (Int.dvd_mul_left _ _)
  · rw [show w - twT k = 0 by omega]
    constructor
    · intro _; exact Int.one_dvd _
    · intro _
      have e : (2 : Int) ^ twT k = 2 ^ w * 2 ^ (twT k - w) := by rw [← Int.pow_add, show w + (twT k - w) = twT k by omega]
      rw [e, Int.mul_assoc, Int.mul_assoc]
      exact Int.dvd_mul_right _ _
/-- a form's value is 0 modulo 2 ^ w everywhere just if each factor is, modulo what is left of the bits -/
theorem ffv_iff {w : Nat} {as : List Int} (hl : as.length ≤ 9) : (∀ x, (2 : Int) ^ w ∣ ffv 0 as x) ↔ ∀ k : Nat, k < 9 → (2 : Int) ^ (w - twT k) ∣ as.getD k 0 := by
  have hd : ∀ k : Nat, ffv 0 (drs k as) 0 = rfc 0 k * as.getD k 0 := fun k => by
    rw [List.getD_eq_getElem?_getD]
    cases e : as[k]? with
    | some a => rw [drs_head e]; rfl
    | none =>
      have g := drs_get k as 0
      rw [Nat.zero_add, e] at g
      rw [ffv_zero]
      cases e2 : drs k as with
      | nil => show (0 : Int) = rfc 0 k * 0; rw [Int.mul_zero]
      | cons x r => rw [e2] at g; cases g
  constructor
  · intro h k hk
    have := drs_dvd k as h 0
    rw [hd] at this
    exact (dvd_fac hk).mp this
  · intro h
    refine ffv_all 9 as hl fun k hk => ?_
    rw [hd]
    exact (dvd_fac hk).mpr (h k hk)
theorem trm_getD (as : List Int) (k : Nat) : (trm as).getD k 0 = as.getD k 0 := by
  obtain ⟨n, e⟩ := trm_split as
  have h2 : as.getD k 0 = (trm as ++ List.replicate n 0).getD k 0 := by rw [← e]
  rw [h2, List.getD_eq_getElem?_getD, List.getD_eq_getElem?_getD]
  by_cases c : k < (trm as).length
  · rw [List.getElem?_append_left c]
  · rw [List.getElem?_append_right (by omega), List.getElem?_eq_none (by omega)]
    by_cases c2 : k - (trm as).length < n
    · rw [List.getElem?_replicate, if_pos c2]; rfl
    · rw [List.getElem?_eq_none (by rw [List.length_replicate]; omega)]
theorem trm_nil : ∀ as : List Int, (∀ k : Nat, as.getD k 0 = 0) → trm as = []
  | [], _ => rfl
  | a :: as, h => by
    have h0 := h 0
    have h0 : a = 0 := h0
    have ih := trm_nil as (fun k => h (k + 1))
    show (match trm as with | [] => if a = 0 then [] else [a] | b :: bs => a :: b :: bs) = []
    rw [ih]; simp only [h0, if_true]
theorem trm_ext : ∀ as bs : List Int, (∀ k : Nat, as.getD k 0 = bs.getD k 0) → trm as = trm bs
  | [], bs, h => (trm_nil bs fun k => by rw [← h k]; simp).symm
  | a :: as, [], h => trm_nil (a :: as) fun k => by rw [h k]; simp
  | a :: as, b :: bs, h => by
    have h0 : a = b := h 0
    have ih := trm_ext as bs (fun k => h (k + 1))
    show (match trm as with | [] => if a = 0 then [] else [a] | b :: bs => a :: b :: bs) = (match trm bs with | [] => if b = 0 then [] else [b] | c :: cs => b :: c :: cs)
    rw [ih, h0]
theorem trm_iff {as bs : List Int} : trm as = trm bs ↔ ∀ k : Nat, as.getD k 0 = bs.getD k 0 :=
  ⟨fun h k => by rw [← trm_getD as k, h, trm_getD], trm_ext as bs⟩
theorem nfm_getD {w : Nat} {cs : List Int} (hl : cs.length ≤ 9) (k : Nat) : (nfm w cs).getD k 0 = (nwt 9 0 cs).getD k 0 % 2 ^ (w - twT k) := by
  rw [nwt_pad hl, List.getD_eq_getElem?_getD, List.getD_eq_getElem?_getD]
  by_cases c : k < cs.length
  · rw [nfm_get c, List.getElem?_append_left (by rw [nwt_len]; exact c), List.getD_eq_getElem?_getD]; rfl
  · rw [List.getElem?_eq_none (by rw [nfm_len]; omega), List.getElem?_append_right (by rw [nwt_len]; omega), nwt_len]
    by_cases c2 : k - cs.length < 9 - cs.length
    · rw [List.getElem?_replicate, if_pos c2]; show (0 : Int) = 0 % _; rw [Int.zero_emod]
    · rw [List.getElem?_eq_none (by rw [List.length_replicate]; omega)]; show (0 : Int) = 0 % _; rw [Int.zero_emod]
/-- two polynomials are alike just if their normal forms are the same -/
theorem nf_alike {w : Nat} {cs ds : List Int} (hc : cs.length ≤ 9) (hd : ds.length ≤ 9) : (∀ x, (2 : Int) ^ w ∣ pvl cs x - pvl ds x) ↔ trm (nfm w cs) = trm (nfm w ds) := by
  have e : ∀ x, pvl cs x - pvl ds x = ffv 0 (List.zipWith (· - ·) (nwt 9 0 cs) (nwt 9 0 ds)) x := fun x => by
    rw [ffv_zw x _ _ 0 (by rw [nwt_len, nwt_len]), ffv_nwt x 9 0 cs hc, ffv_nwt x 9 0 ds hd]
  have g : ∀ k : Nat, k < 9 → (List.zipWith (· - ·) (nwt 9 0 cs) (nwt 9 0 ds)).getD k 0 = (nwt 9 0 cs).getD k 0 - (nwt 9 0 ds).getD k 0 := fun k hk => by
    have h1 : (nwt 9 0 cs)[k]? = some ((nwt 9 0 cs)[k]'(by rw [nwt_len]; exact hk)) := List.getElem?_eq_getElem _
    have h2 : (nwt 9 0 ds)[k]? = some ((nwt 9 0 ds)[k]'(by rw [nwt_len]; exact hk)) := List.getElem?_eq_getElem _
    rw [List.getD_eq_getElem?_getD, List.getD_eq_getElem?_getD, List.getD_eq_getElem?_getD, List.getElem?_zipWith, h1, h2]; rfl
  rw [show (∀ x, (2 : Int) ^ w ∣ pvl cs x - pvl ds x) ↔ ∀ x, (2 : Int) ^ w ∣ ffv 0 (List.zipWith (· - ·) (nwt 9 0 cs) (nwt 9 0 ds)) x from ⟨fun h x => by rw [← e]; exact h x, fun h x => by rw [e]; exact h x⟩,
    ffv_iff (by rw [List.length_zipWith, nwt_len, nwt_len]; decide), trm_iff]
  constructor
  · intro h k
    rw [nfm_getD hc, nfm_getD hd]
    by_cases c : k < 9
    · have := h k c
      rw [g k c] at this
      exact Int.emod_eq_emod_iff_emod_sub_eq_zero.mpr (Int.emod_eq_zero_of_dvd this)
    · rw [List.getD_eq_getElem?_getD, List.getElem?_eq_none (by rw [nwt_len]; omega), List.getD_eq_getElem?_getD, List.getElem?_eq_none (by rw [nwt_len]; omega)]
  · intro h k hk
    have := h k
    rw [nfm_getD hc, nfm_getD hd] at this
    rw [g k hk]
    exact Int.dvd_of_emod_eq_zero (Int.emod_eq_emod_iff_emod_sub_eq_zero.mp this)
/-- m times (x)_k -/
theorem fal_iff {w k : Nat} {m : Int} (hk : k < 9) : (∀ x, (2 : Int) ^ w ∣ m * fal k 0 x) ↔ (2 : Int) ^ (w - twT k) ∣ m := by
  have e : ∀ x, m * fal k 0 x = ffv 0 (List.replicate k 0 ++ [m]) x := fun x => by
    rw [ffv_snoc, List.length_replicate]
    have := ffv_rep x [] k 0
    rw [List.nil_append] at this
    rw [this]
    show _ = 0 + _
    rw [Int.zero_add]
  rw [show (∀ x, (2 : Int) ^ w ∣ m * fal k 0 x) ↔ ∀ x, (2 : Int) ^ w ∣ ffv 0 (List.replicate k 0 ++ [m]) x from ⟨fun h x => by rw [← e]; exact h x, fun h x => by rw [e]; exact h x⟩,
    ffv_iff (by rw [List.length_append, List.length_replicate]; simp; omega)]
  have gk : (List.replicate k 0 ++ [m]).getD k 0 = m := by
    rw [List.getD_eq_getElem?_getD, List.getElem?_append_right (by rw [List.length_replicate]; exact Nat.le_refl _), List.length_replicate, Nat.sub_self]; rfl
  constructor
  · intro h
    have := h k hk
    rwa [gk] at this
  · intro h j hj
    rcases Nat.lt_trichotomy j k with c | c | c
    · rw [List.getD_eq_getElem?_getD, List.getElem?_append_left (by rw [List.length_replicate]; exact c), List.getElem?_replicate, if_pos c]
      exact Int.dvd_zero _
    · subst c; rw [gk]; exact h
    · rw [List.getD_eq_getElem?_getD, List.getElem?_eq_none (by rw [List.length_append, List.length_replicate]; simp; omega)]
      exact Int.dvd_zero _
end Fw
local macro_rules | `(tactic| walk_at "rd") => `(tactic| repeat (first
  | (with_reducible show L2.tVar _ _ _ _; first | with_reducible refine Fw.w_v0 ?_ | with_reducible refine Fw.w_v1 ?_ | with_reducible refine Fw.w_v2 ?_ | with_reducible refine Fw.w_v3 ?_ | with_reducible refine Fw.w_v4 ?_ | with_reducible refine Fw.w_v5 ?_ | with_reducible refine Fw.w_v6 ?_ | with_reducible refine Fw.w_v7 ?_ | with_reducible refine Fw.w_v8 ?_ | with_reducible refine Fw.w_v9 ?_ | with_reducible refine Fw.w_v10 ?_ | with_reducible refine Fw.w_v11 ?_ | with_reducible refine Fw.w_v12 ?_ | with_reducible refine Fw.w_v13 ?_ | with_reducible refine Fw.w_v14 ?_ | with_reducible refine Fw.w_v15 ?_ | with_reducible refine Fw.w_v16 ?_ | with_reducible refine Fw.w_v17 ?_ | with_reducible refine Fw.w_v18 ?_ | with_reducible refine Fw.w_v19 ?_ | with_reducible refine Fw.w_v20 ?_ | with_reducible refine Fw.w_v21 ?_ | with_reducible refine Fw.w_v22 ?_ | with_reducible refine Fw.w_v23 ?_ | with_reducible refine Fw.w_v24 ?_ | with_reducible refine Fw.w_v25 ?_ | with_reducible refine Fw.w_v26 ?_ | with_reducible refine Fw.w_v27 ?_ | with_reducible refine Fw.w_v28 ?_ | with_reducible refine Fw.w_v29 ?_ | with_reducible refine Fw.w_v30 ?_ | with_reducible refine Fw.w_v31 ?_ | with_reducible refine Fw.w_var (by with_unfolding_all exact rfl) ?_)
  | with_reducible refine Fw.w_cons ?_
  | with_reducible refine Fw.w_c ?_
  | with_reducible refine Fw.w_op ?_
  | with_reducible refine Fw.w_nil ?_
  | with_reducible refine Fw.w_I0 ?_
  | with_reducible refine Fw.w_seq ?_
  | with_reducible refine Fw.w_asg ?_
  | (with_reducible show L2.gName _ _ (L2.wipe _ _) _ _; dsimp only [L2.wipe, List.set, List.map])
  | (with_reducible show L2.gTup _ _ _ _ (L2.wipe _ _) _ _; dsimp only [L2.wipe, List.set, List.map])
  | (with_reducible show L2.gName _ _ _ _ _; first | with_reducible refine Fw.w_n0 ?_ | with_reducible refine Fw.w_n1 ?_ | with_reducible refine Fw.w_n2 ?_ | with_reducible refine Fw.w_n3 ?_ | with_reducible refine Fw.w_n4 ?_ | with_reducible refine Fw.w_n5 ?_ | with_reducible refine Fw.w_n6 ?_ | with_reducible refine Fw.w_n7 ?_ | with_reducible refine Fw.w_n8 ?_ | with_reducible refine Fw.w_n9 ?_ | with_reducible refine Fw.w_n10 ?_ | with_reducible refine Fw.w_n11 ?_ | with_reducible refine Fw.w_n12 ?_ | with_reducible refine Fw.w_n13 ?_ | with_reducible refine Fw.w_n14 ?_ | with_reducible refine Fw.w_n15 ?_ | with_reducible refine Fw.w_n16 ?_ | with_reducible refine Fw.w_n17 ?_ | with_reducible refine Fw.w_n18 ?_ | with_reducible refine Fw.w_n19 ?_ | with_reducible refine Fw.w_n20 ?_ | with_reducible refine Fw.w_n21 ?_ | with_reducible refine Fw.w_n22 ?_ | with_reducible refine Fw.w_n23 ?_ | with_reducible refine Fw.w_n24 ?_ | with_reducible refine Fw.w_n25 ?_ | with_reducible refine Fw.w_n26 ?_ | with_reducible refine Fw.w_n27 ?_ | with_reducible refine Fw.w_n28 ?_ | with_reducible refine Fw.w_n29 ?_ | with_reducible refine Fw.w_n30 ?_ | with_reducible refine Fw.w_n31 ?_ | with_reducible refine Fw.w_name ?_)
  | with_reducible refine Fw.w_call ?_
  | with_reducible refine Fw.w_exb ?_
  | with_reducible refine Fw.w_test ?_
  | (with_reducible show L2.rI _ _ _ _ _ _; with_reducible refine Fw.w_I (by with_unfolding_all first | exact Or.inl ⟨by decide, by decide⟩ | exact Or.inr ⟨by decide, by decide⟩ | exact ⟨by decide, by decide⟩ | exact ⟨by decide, by decide, by decide⟩ | (show (0 : Int) < _; decide)) ?_)
  | with_reducible refine Fw.w_neI ?_
  | with_reducible refine Fw.w_ifS ?_
  | with_reducible refine Fw.w_next ?_
  | with_reducible refine Fw.w_callK ?_
  | with_reducible refine Fw.w_ret ?_
  | with_reducible refine Fw.w_cb ?_
  | with_reducible refine Fw.w_int ?_
  | (with_reducible show L2.rIxL _ _ _ _ _; with_reducible refine Fw.w_ixL (by first | assumption | exact L2.upd_same) (by with_unfolding_all rfl) ?_)
  | (with_reducible show L2.rIxT _ _ _ _ _; with_reducible refine Fw.w_ixT (by first | assumption | exact L2.upd_same) (by with_unfolding_all rfl) ?_)
  | (with_reducible show L2.rSetL _ _ _ _ _; with_reducible refine Fw.w_setL (by first | assumption | exact L2.upd_same) (by with_unfolding_all rfl) ?_)
  | (with_reducible show L2.gTup _ _ _ _ _ _ _; with_reducible refine Fw.w_gtup (by first | assumption | exact L2.upd_same) rfl ?_)
  | with_reducible refine Fw.w_U ?_
  | with_reducible refine Fw.w_un ?_
  | with_reducible refine Fw.w_eqI ?_
  | with_reducible refine Fw.w_eqB ?_
  | with_reducible refine Fw.w_neB ?_
  | with_reducible refine Fw.w_eqS ?_
  | with_reducible refine Fw.w_exi ?_
  | with_reducible refine Fw.w_exr ?_
  | with_reducible refine Fw.w_B ?_
  | with_reducible refine Fw.w_and ?_
  | with_reducible refine Fw.w_or ?_
  | with_reducible refine Fw.w_not ?_
  | with_reducible refine Fw.w_andV ?_
  | with_reducible refine Fw.w_notV ?_
  | with_reducible refine Fw.w_make ?_
  | with_reducible refine Fw.w_intB ?_
  | with_reducible refine Fw.w_abs ?_
  | with_reducible refine Fw.w_bits ?_
  | with_reducible refine Fw.w_sl ?_
  | with_reducible refine Fw.w_part ?_
  | with_reducible refine Fw.w_nopart ?_
  | with_reducible refine Fw.w_lst ?_
  | with_reducible refine Fw.w_tup ?_
  | with_reducible refine Fw.w_dnewK ?_
  | with_reducible refine Fw.w_dget ?_
  | with_reducible refine Fw.w_isNn ?_
  | with_reducible refine Fw.w_isNi ?_
  | with_reducible refine Fw.w_meth0 ?_
  | with_reducible refine Fw.w_match ?_
  | with_reducible refine Fw.w_caseA ?_
  | with_reducible refine Fw.w_caseT ?_
  | with_reducible refine Fw.w_par ?_
  | (with_reducible refine Fw.w_exvw ?_; try dsimp only [List.set])
  | with_reducible refine Fw.w_drop ?_
  | with_reducible refine Fw.w_retN ?_
  | with_reducible refine Fw.w_gnil ?_
  | with_reducible refine Fw.w_gcons ?_
  | with_reducible refine Fw.w_gsub ?_
  | with_reducible refine Fw.w_for ?_
  | with_reducible refine Fw.w_lc ?_
  | with_reducible refine Fw.w_yes ?_
  | with_reducible refine Fw.w_iList ?_
  | with_reducible refine Fw.w_iRng1 ?_
  | with_reducible refine Fw.w_sfld ?_))
namespace Fw
open PySem L2
def top (i : Nat) : Stmt := PySem.Challenge.pw_farwrap_k60_whole_alike_by_normal_forms.main.body.getD i (.Pass ⟨0, 0, 0, 0⟩)
abbrev s_joined : Stmt := top 6
abbrev s_family_size : Stmt := top 7
abbrev s_total_size : Stmt := top 8
abbrev s_total_inside : Stmt := top 9
abbrev s_is_integer : Stmt := top 12
abbrev s_check_integer : Stmt := top 13
abbrev s_is_sixty_digits : Stmt := top 14
abbrev s_is_count : Stmt := top 15
abbrev s_check_number : Stmt := top 16
abbrev s_factors_of_two : Stmt := top 17
abbrev s_Kind___init__ : Stmt := inClass (top 20) 0
abbrev s_check_kind : Stmt := top 21
abbrev s_check_value : Stmt := top 22
abbrev s_least : Stmt := top 23
abbrev s_greatest : Stmt := top 24
abbrev s_is_value : Stmt := top 25
abbrev s_wrapped : Stmt := top 26
abbrev s_wanted_at : Stmt := top 28
abbrev s_wanted_of : Stmt := top 29
abbrev s_is_polynomial : Stmt := top 32
abbrev s_check_polynomial : Stmt := top 33
abbrev s__value : Stmt := top 34
abbrev s_value_at : Stmt := top 35
abbrev s__one_behind : Stmt := top 36
abbrev s__doubled : Stmt := top 37
abbrev s__halves : Stmt := top 38
abbrev s_root_families : Stmt := top 39
abbrev s_roots : Stmt := top 40
abbrev s_root_total : Stmt := top 41
abbrev s__check_two : Stmt := top 43
abbrev s__check_range : Stmt := top 44
abbrev s__first_unlike : Stmt := top 45
abbrev s_are_alike : Stmt := top 46
abbrev s_first_unlike : Stmt := top 47
abbrev s__alike_families : Stmt := top 48
abbrev s__unlike_total : Stmt := top 49
abbrev s_unlike_total : Stmt := top 50
abbrev s_unlike_at : Stmt := top 51
abbrev s__without_zeros : Stmt := top 52
abbrev s__divided : Stmt := top 53
abbrev s_normal_form : Stmt := top 54
abbrev s__is_form : Stmt := top 55
abbrev s_of_form : Stmt := top 56
abbrev s__law_jar : Stmt := top 58
abbrev s__law_sip : Stmt := top 59
abbrev s__law_some : Stmt := top 60
abbrev s__law_times : Stmt := top 61
abbrev s__law_polynomial : Stmt := top 62
abbrev s__law_joined : Stmt := top 64
abbrev s__law_nothing : Stmt := top 65
abbrev s__law_pair_right : Stmt := top 66
abbrev s__law_right : Stmt := top 67
abbrev s_law : Stmt := top 68
theorem sc_joined : FnScope ["families", "bits", "found", "family", "k", "half", "first", "depth"] ["families", "bits"] (defScope s_joined) := ⟨rfl, rfl, rfl, by decide +kernel, rfl, by decide +kernel, by decide +kernel⟩
theorem sc_family_size : FnScope ["family", "bits"] ["family", "bits"] (defScope s_family_size) := ⟨rfl, rfl, rfl, by decide +kernel, rfl, by decide +kernel, by decide +kernel⟩
theorem sc_total_size : FnScope ["families", "bits", "family"] ["families", "bits"] (defScope s_total_size) := ⟨rfl, rfl, rfl, by decide +kernel, rfl, by decide +kernel, by decide +kernel⟩
theorem sc_total_inside : FnScope ["families", "first", "last", "start", "k"] ["families", "first", "last"] (defScope s_total_inside) := ⟨rfl, rfl, rfl, by decide +kernel, rfl, by decide +kernel, by decide +kernel⟩
theorem sc_is_integer : FnScope ["value"] ["value"] (defScope s_is_integer) := ⟨rfl, rfl, rfl, by decide +kernel, rfl, by decide +kernel, by decide +kernel⟩
theorem sc_check_integer : FnScope ["value", "argument"] ["value", "argument"] (defScope s_check_integer) := ⟨rfl, rfl, rfl, by decide +kernel, rfl, by decide +kernel, by decide +kernel⟩
theorem sc_is_sixty_digits : FnScope ["value"] ["value"] (defScope s_is_sixty_digits) := ⟨rfl, rfl, rfl, by decide +kernel, rfl, by decide +kernel, by decide +kernel⟩
theorem sc_is_count : FnScope ["value"] ["value"] (defScope s_is_count) := ⟨rfl, rfl, rfl, by decide +kernel, rfl, by decide +kernel, by decide +kernel⟩
theorem sc_check_number : FnScope ["j", "total"] ["j", "total"] (defScope s_check_number) := ⟨rfl, rfl, rfl, by decide +kernel, rfl, by decide +kernel, by decide +kernel⟩
theorem sc_factors_of_two : FnScope ["n"] ["n"] (defScope s_factors_of_two) := ⟨rfl, rfl, rfl, by decide +kernel, rfl, by decide +kernel, by decide +kernel⟩
theorem sc_Kind___init__ : FnScope ["self", "bits", "is_signed"] ["self", "bits", "is_signed"] (defScope s_Kind___init__) := ⟨rfl, rfl, rfl, by decide +kernel, rfl, by decide +kernel, by decide +kernel⟩
theorem sc_check_kind : FnScope ["kind"] ["kind"] (defScope s_check_kind) := ⟨rfl, rfl, rfl, by decide +kernel, rfl, by decide +kernel, by decide +kernel⟩
theorem sc_check_value : FnScope ["kind", "x", "argument"] ["kind", "x", "argument"] (defScope s_check_value) := ⟨rfl, rfl, rfl, by decide +kernel, rfl, by decide +kernel, by decide +kernel⟩
theorem sc_least : FnScope ["kind"] ["kind"] (defScope s_least) := ⟨rfl, rfl, rfl, by decide +kernel, rfl, by decide +kernel, by decide +kernel⟩
theorem sc_greatest : FnScope ["kind"] ["kind"] (defScope s_greatest) := ⟨rfl, rfl, rfl, by decide +kernel, rfl, by decide +kernel, by decide +kernel⟩
theorem sc_is_value : FnScope ["kind", "x"] ["kind", "x"] (defScope s_is_value) := ⟨rfl, rfl, rfl, by decide +kernel, rfl, by decide +kernel, by decide +kernel⟩
theorem sc_wrapped : FnScope ["kind", "n", "low"] ["kind", "n"] (defScope s_wrapped) := ⟨rfl, rfl, rfl, by decide +kernel, rfl, by decide +kernel, by decide +kernel⟩
theorem sc_wanted_at : FnScope ["total", "first", "last", "j", "many"] ["total", "first", "last", "j"] (defScope s_wanted_at) := ⟨rfl, rfl, rfl, by decide +kernel, rfl, by decide +kernel, by decide +kernel⟩
theorem sc_wanted_of : FnScope ["total", "first", "last", "many", "j", "doubt", "width", "room", "guess", "middle", "is_low", "split", "ahead", "is_ahead"] ["total", "first", "last", "many", "j"] (defScope s_wanted_of) := ⟨rfl, rfl, rfl, by decide +kernel, rfl, by decide +kernel, by decide +kernel⟩
theorem sc_is_polynomial : FnScope ["value", "coefficient"] ["value"] (defScope s_is_polynomial) := ⟨rfl, rfl, rfl, by decide +kernel, rfl, by decide +kernel, by decide +kernel⟩
theorem sc_check_polynomial : FnScope ["kind", "polynomial"] ["kind", "polynomial"] (defScope s_check_polynomial) := ⟨rfl, rfl, rfl, by decide +kernel, rfl, by decide +kernel, by decide +kernel⟩
theorem sc__value : FnScope ["polynomial", "x", "size", "total", "coefficient"] ["polynomial", "x", "size"] (defScope s__value) := ⟨rfl, rfl, rfl, by decide +kernel, rfl, by decide +kernel, by decide +kernel⟩
theorem sc_value_at : FnScope ["kind", "polynomial", "x"] ["kind", "polynomial", "x"] (defScope s_value_at) := ⟨rfl, rfl, rfl, by decide +kernel, rfl, by decide +kernel, by decide +kernel⟩
theorem sc__one_behind : FnScope ["polynomial", "moved", "done", "i"] ["polynomial"] (defScope s__one_behind) := ⟨rfl, rfl, rfl, by decide +kernel, rfl, by decide +kernel, by decide +kernel⟩
theorem sc__doubled : FnScope ["polynomial", "i", "coefficient"] ["polynomial"] (defScope s__doubled) := ⟨rfl, rfl, rfl, by decide +kernel, rfl, by decide +kernel, by decide +kernel⟩
theorem sc__halves : FnScope ["node", "first", "k", "polynomial", "left", "shared", "coefficient", "reduced", "halves"] ["node"] (defScope s__halves) := ⟨rfl, rfl, rfl, by decide +kernel, rfl, by decide +kernel, by decide +kernel⟩
theorem sc_root_families : FnScope ["polynomial", "bits", "nodes", "found", "below", "first", "k", "coefficients", "left", "rest", "coefficient"] ["polynomial", "bits"] (defScope s_root_families) := ⟨rfl, rfl, rfl, by decide +kernel, rfl, by decide +kernel, by decide +kernel⟩
theorem sc_roots : FnScope ["kind", "polynomial"] ["kind", "polynomial"] (defScope s_roots) := ⟨rfl, rfl, rfl, by decide +kernel, rfl, by decide +kernel, by decide +kernel⟩
theorem sc_root_total : FnScope ["kind", "polynomial"] ["kind", "polynomial"] (defScope s_root_total) := ⟨rfl, rfl, rfl, by decide +kernel, rfl, by decide +kernel, by decide +kernel⟩
theorem sc__check_two : FnScope ["kind", "one", "other"] ["kind", "one", "other"] (defScope s__check_two) := ⟨rfl, rfl, rfl, by decide +kernel, rfl, by decide +kernel, by decide +kernel⟩
theorem sc__check_range : FnScope ["kind", "one", "other", "first", "last"] ["kind", "one", "other", "first", "last"] (defScope s__check_range) := ⟨rfl, rfl, rfl, by decide +kernel, rfl, by decide +kernel, by decide +kernel⟩
theorem sc__first_unlike : FnScope ["kind", "one", "other", "x"] ["kind", "one", "other"] (defScope s__first_unlike) := ⟨rfl, rfl, rfl, by decide +kernel, rfl, by decide +kernel, by decide +kernel⟩
theorem sc_are_alike : FnScope ["kind", "one", "other"] ["kind", "one", "other"] (defScope s_are_alike) := ⟨rfl, rfl, rfl, by decide +kernel, rfl, by decide +kernel, by decide +kernel⟩
theorem sc_first_unlike : FnScope ["kind", "one", "other"] ["kind", "one", "other"] (defScope s_first_unlike) := ⟨rfl, rfl, rfl, by decide +kernel, rfl, by decide +kernel, by decide +kernel⟩
theorem sc__alike_families : FnScope ["kind", "one", "other", "c", "d"] ["kind", "one", "other"] (defScope s__alike_families) := ⟨rfl, rfl, rfl, by decide +kernel, rfl, by decide +kernel, by decide +kernel⟩
theorem sc__unlike_total : FnScope ["families", "first", "last"] ["families", "first", "last"] (defScope s__unlike_total) := ⟨rfl, rfl, rfl, by decide +kernel, rfl, by decide +kernel, by decide +kernel⟩
theorem sc_unlike_total : FnScope ["kind", "one", "other", "first", "last"] ["kind", "one", "other", "first", "last"] (defScope s_unlike_total) := ⟨rfl, rfl, rfl, by decide +kernel, rfl, by decide +kernel, by decide +kernel⟩
theorem sc_unlike_at : FnScope ["kind", "one", "other", "first", "last", "j", "families"] ["kind", "one", "other", "first", "last", "j"] (defScope s_unlike_at) := ⟨rfl, rfl, rfl, by decide +kernel, rfl, by decide +kernel, by decide +kernel⟩
theorem sc__without_zeros : FnScope ["numbers", "many"] ["numbers"] (defScope s__without_zeros) := ⟨rfl, rfl, rfl, by decide +kernel, rfl, by decide +kernel, by decide +kernel⟩
theorem sc__divided : FnScope ["polynomial", "k", "quotient", "rest", "coefficient"] ["polynomial", "k"] (defScope s__divided) := ⟨rfl, rfl, rfl, by decide +kernel, rfl, by decide +kernel, by decide +kernel⟩
theorem sc_normal_form : FnScope ["kind", "polynomial", "form", "quotient", "left", "k", "rest"] ["kind", "polynomial"] (defScope s_normal_form) := ⟨rfl, rfl, rfl, by decide +kernel, rfl, by decide +kernel, by decide +kernel⟩
theorem sc__is_form : FnScope ["value", "c"] ["value"] (defScope s__is_form) := ⟨rfl, rfl, rfl, by decide +kernel, rfl, by decide +kernel, by decide +kernel⟩
theorem sc_of_form : FnScope ["form", "polynomial", "k", "upper", "lower"] ["form"] (defScope s_of_form) := ⟨rfl, rfl, rfl, by decide +kernel, rfl, by decide +kernel, by decide +kernel⟩
theorem sc__law_jar : FnScope ["_law_cell"] ["_law_cell"] (defScope s__law_jar) := ⟨rfl, rfl, rfl, by decide +kernel, rfl, by decide +kernel, by decide +kernel⟩
theorem sc__law_sip : FnScope ["_law_jar_here", "_law_many", "_law_figure", "_law_mixed"] ["_law_jar_here", "_law_many"] (defScope s__law_sip) := ⟨rfl, rfl, rfl, by decide +kernel, rfl, by decide +kernel, by decide +kernel⟩
theorem sc__law_some : FnScope ["_law_jar_here", "_law_row"] ["_law_jar_here", "_law_row"] (defScope s__law_some) := ⟨rfl, rfl, rfl, by decide +kernel, rfl, by decide +kernel, by decide +kernel⟩
theorem sc__law_times : FnScope ["_law_one", "_law_other", "_law_found", "_law_k", "_law_mine", "_law_j", "_law_its"] ["_law_one", "_law_other"] (defScope s__law_times) := ⟨rfl, rfl, rfl, by decide +kernel, rfl, by decide +kernel, by decide +kernel⟩
theorem sc__law_polynomial : FnScope ["_law_jar_here", "_law_wide", "_law_found", "_law_turn", "_law_root", "_law_part", "_law_one"] ["_law_jar_here", "_law_wide"] (defScope s__law_polynomial) := ⟨rfl, rfl, rfl, by decide +kernel, rfl, by decide +kernel, by decide +kernel⟩
theorem sc__law_joined : FnScope ["_law_one", "_law_other", "_law_sign", "_law_mine", "_law_its"] ["_law_one", "_law_other", "_law_sign"] (defScope s__law_joined) := ⟨rfl, rfl, rfl, by decide +kernel, rfl, by decide +kernel, by decide +kernel⟩
theorem sc__law_nothing : FnScope ["_law_jar_here", "_law_bits", "_law_less", "_law_k", "_law_part", "_law_twos_here", "_law_at", "_law_many", "_law_one"] ["_law_jar_here", "_law_bits", "_law_less"] (defScope s__law_nothing) := ⟨rfl, rfl, rfl, by decide +kernel, rfl, by decide +kernel, by decide +kernel⟩
theorem sc__law_pair_right : FnScope ["_law_kind", "_law_one", "_law_other", "_law_gaps", "_law_x", "_law_is_same"] ["_law_kind", "_law_one", "_law_other"] (defScope s__law_pair_right) := ⟨rfl, rfl, rfl, by decide +kernel, rfl, by decide +kernel, by decide +kernel⟩
theorem sc__law_right : FnScope ["_law_jar_here", "_law_bits", "_law_is_signed", "_law_kind", "_law_one", "_law_same", "_law_unlike", "_law_other", "_law_low", "_law_top", "_law_size", "_law_rest", "_law_mine", "_law_total", "_law_j", "_law_x", "_law_begin", "_law_ahead", "_law_rest_so", "_law_is_one"] ["_law_jar_here", "_law_bits", "_law_is_signed"] (defScope s__law_right) := ⟨rfl, rfl, rfl, by decide +kernel, rfl, by decide +kernel, by decide +kernel⟩
theorem sc_law : FnScope ["_law_script", "_law_cell", "_law_jar_here", "_law_turn"] ["_law_script"] (defScope s_law) := ⟨rfl, rfl, rfl, by decide +kernel, rfl, by decide +kernel, by decide +kernel⟩

/-- a kind's object -/
def kf (w : Nat) (s : Bool) : List (Str × V) := [("bits", .int (w : Int)), ("is_signed", .bl s)]
structure Kd (C : Addr) (H : Hp) (p : Addr) (w : Nat) (s : Bool) : Prop where
  ex : ∃ dx, H p = some (.ins C dx (kf w s))
  w1 : 1 ≤ w
  w2 : w ≤ 128
theorem kf_bits (w : Nat) (s : Bool) : (kf w s).lookup ("bits" : Str) = some (.int (w : Int)) := by unfold kf; simp [List.lookup]
theorem kf_sign (w : Nat) (s : Bool) : (kf w s).lookup ("is_signed" : Str) = some (.bl s) := by
  have e : (("is_signed" : Str) == ("bits" : Str)) = false := by decide +kernel
  unfold kf; simp [List.lookup, e]
/-- the values of a kind, wrapping -/
def loK (w : Nat) (s : Bool) : Int := if s = true then -(2 ^ (w - 1)) else 0
def hiK (w : Nat) (s : Bool) : Int := loK w s + 2 ^ w - 1
def wr (w : Nat) (s : Bool) (n : Int) : Int := loK w s + (n - loK w s) % 2 ^ w
theorem p2 (w : Nat) : (0 : Int) < 2 ^ w := Int.pow_pos (by decide)
theorem p2s {w : Nat} (h : 1 ≤ w) : (2 : Int) ^ w = 2 * 2 ^ (w - 1) := by
  obtain ⟨k, rfl⟩ : ∃ k, w = k + 1 := ⟨w - 1, by omega⟩
  rw [Nat.add_sub_cancel, Int.pow_succ, Int.mul_comm]
theorem wr_lo (w : Nat) (s : Bool) (n : Int) : loK w s ≤ wr w s n := by
  have := Int.emod_nonneg (n - loK w s) (show (2 : Int) ^ w ≠ 0 from Int.ne_of_gt (p2 w))
  unfold wr; omega
theorem wr_hi (w : Nat) (s : Bool) (n : Int) : wr w s n ≤ hiK w s := by
  have := Int.emod_lt_of_pos (n - loK w s) (p2 w)
  unfold wr hiK; omega
theorem wr_id {w : Nat} {s : Bool} {n : Int} (h1 : loK w s ≤ n) (h2 : n ≤ hiK w s) : wr w s n = n := by
  unfold wr
  rw [Int.emod_eq_of_lt (by omega) (by unfold hiK at h2; omega)]
  omega
/-- what the law takes for the same -/
def pl (w : Nat) (s : Bool) (n : Int) : Int := if s = true ∧ 2 ^ (w - 1) ≤ n % 2 ^ w then n % 2 ^ w - 2 ^ w else n % 2 ^ w
theorem pl_wr {w : Nat} (hw : 1 ≤ w) (s : Bool) (n : Int) : pl w s n = wr w s n := by
  have hp := p2 (w - 1)
  have e := p2s hw
  have h0 := Int.emod_nonneg n (show (2 : Int) ^ w ≠ 0 from Int.ne_of_gt (p2 w))
  have h1 := Int.emod_lt_of_pos n (p2 w)
  cases s with
  | false =>
    have hl : loK w false = 0 := by unfold loK; rw [if_neg Bool.false_ne_true]
    unfold pl wr
    rw [if_neg (by intro z; exact Bool.false_ne_true z.1), hl, Int.sub_zero, Int.zero_add]
  | true =>
    have hl : loK w true = -(2 ^ (w - 1)) := by unfold loK; rw [if_pos rfl]
    unfold pl wr
    rw [hl]
    have ed : n % 2 ^ w = n - 2 ^ w * (n / 2 ^ w) := Int.emod_def n _
    by_cases c : 2 ^ (w - 1) ≤ n % 2 ^ w
    · rw [if_pos ⟨rfl, c⟩]
      have q : (n - -(2 ^ (w - 1))) % 2 ^ w = n % 2 ^ w - 2 ^ (w - 1) := by
        have z : n - -(2 ^ (w - 1)) = (n % 2 ^ w - 2 ^ (w - 1)) + 2 ^ w * (n / 2 ^ w + 1) := by
          rw [Int.mul_add, Int.mul_one]; omega
        rw [z, Int.add_mul_emod_self_left, Int.emod_eq_of_lt (by omega) (by omega)]
      rw [q]; omega
    · rw [if_neg (fun z => c z.2)]
      have q : (n - -(2 ^ (w - 1))) % 2 ^ w = n % 2 ^ w + 2 ^ (w - 1) := by
        have z : n - -(2 ^ (w - 1)) = (n % 2 ^ w + 2 ^ (w - 1)) + 2 ^ w * (n / 2 ^ w) := by omega
        rw [z, Int.add_mul_emod_self_left, Int.emod_eq_of_lt (by omega) (by omega)]
      rw [q]; omega
/-- all but p as it was -/
def Kp (p : Addr) (H H' : Hp) : Prop := ∀ q o, q ≠ p → H q = some o → H' q = some o
theorem Kp.refl (p : Addr) (H : Hp) : Kp p H H := fun _ _ _ h => h
theorem Kp.trans {p : Addr} {H H1 H2 : Hp} (a : Kp p H H1) (b : Kp p H1 H2) : Kp p H H2 := fun q o n h => b q o n (a q o n h)
theorem Kp.upd {p : Addr} {H H1 : Hp} {o : HO} (a : Kp p H H1) : Kp p H (upd H1 p o) := fun q u n h => by rw [upd_ne n]; exact a q u n h
theorem Kp.new {p r : Addr} {H H1 : Hp} {o : HO} (a : Kp p H H1) (h : H1 r = none) : Kp p H (L2.upd H1 r o) := fun q u n e => by
  have z := a q u n e
  rw [upd_ne (ne_of_none z h)]; exact z
theorem Kp.of_same {p : Addr} {H H' : Hp} (a : Same H H') : Kp p H H' := fun q o _ h => a q o h
theorem sm_new {H H1 : Hp} {r : Addr} {o : HO} (a : Same H H1) (h : H1 r = none) : Same H (L2.upd H1 r o) := fun q u e => by
  have z := a q u e
  rw [upd_ne (ne_of_none z h)]; exact z
theorem Kp.free {p r : Addr} {H H' : Hp} (a : Kp p H H') (hr : r ≠ p) (h : H' r = none) : H r = none := by
  cases q : H r with
  | none => rfl
  | some o => rw [a r o hr q] at h; cases h
theorem same_free {H H' : Hp} {r : Addr} (a : Same H H') (h : H' r = none) : H r = none := a.free h
/-- a source of draws -/
def SrcAt (H : Hp) (p : Addr) : Prop := ∃ a b c : Int, H p = some (.lst [.int a, .int b, .int c])
theorem SrcAt.same {H H' : Hp} {p : Addr} (h : SrcAt H p) (s : Same H H') : SrcAt H' p := by
  obtain ⟨a, b, c, e⟩ := h
  exact ⟨a, b, c, s _ _ e⟩
theorem kp_mut {p D : Addr} {H H' : Hp} {o : HO} (a : Kp p H H') (h : H D = none) : Kp p H (L2.upd H' D o) := fun q u n e => by
  rw [upd_ne (ne_of_none e h)]; exact a q u n e
theorem SrcAt.mut {H : Hp} {p D : Addr} {o : HO} (h : SrcAt H p) (n : D ≠ p) : SrcAt (L2.upd H D o) p := by
  obtain ⟨a, b, c, e⟩ := h
  exact ⟨a, b, c, by rw [upd_ne (Ne.symm n)]; exact e⟩
theorem SrcAt.ne {H : Hp} {p q : Addr} (h : SrcAt H p) (n : H q = none) : q ≠ p := by
  obtain ⟨a, b, c, e⟩ := h
  exact (ne_of_none e n).symm
theorem b9 {m : Int} (h : m.natAbs < 2 ^ 200) : m.natAbs < 2 ^ 8999 := Nat.lt_trans h (Nat.pow_lt_pow_right (by decide) (by decide))
theorem SrcAt.new {H : Hp} {p r : Addr} {o : HO} (h : SrcAt H p) (n : H r = none) : SrcAt (L2.upd H r o) p := h.same (sm_new (Same.refl H) n)
theorem Kd.same {C : Addr} {H H' : Hp} {p : Addr} {w : Nat} {s : Bool} (h : Kd C H p w s) (e : Same H H') : Kd C H' p w s := by
  obtain ⟨⟨dx, q⟩, a, b⟩ := h
  exact ⟨⟨dx, e _ _ q⟩, a, b⟩
theorem Kd.kp {C : Addr} {H H' : Hp} {p r : Addr} {w : Nat} {s : Bool} (h : Kd C H p w s) (hr : SrcAt H r) (e : Kp r H H') : Kd C H' p w s := by
  obtain ⟨⟨dx, q⟩, a, b⟩ := h
  obtain ⟨_, _, _, z⟩ := hr
  exact ⟨⟨dx, e _ _ (ne_of q z (by intro y; cases y)) q⟩, a, b⟩
/-- how a value that is asked for whether it is an integer looks -/
def IntQ (K : PySem.W.Frag) (H : Hp) (v : V) (b : Bool) : Prop := ∃ t : String, TyX K H v (.type t) ∧ kitB t "int" = some (b || t == "bool") ∧ (b = true ∨ t = "bool" → True) ∧ (∃ c, kitB t "bool" = some c ∧ ((b || t == "bool") && !c) = b)
theorem IntQ.int {K : PySem.W.Frag} {H : Hp} (i : Int) : IntQ K H (.int i) true := ⟨"int", .base (.int i), by decide +kernel, fun _ => trivial, false, by decide +kernel, rfl⟩
theorem IntQ.bl {K : PySem.W.Frag} {H : Hp} (i : Bool) : IntQ K H (.bl i) false := ⟨"bool", .base (.bl i), by decide +kernel, fun _ => trivial, true, by decide +kernel, rfl⟩
theorem IntQ.non {K : PySem.W.Frag} {H : Hp} : IntQ K H .non false := ⟨"NoneType", .base .non, by decide +kernel, fun _ => trivial, false, by decide +kernel, rfl⟩
theorem IntQ.str {K : PySem.W.Frag} {H : Hp} (z : Str) : IntQ K H (.str z) false := ⟨"str", .base (.str z), by decide +kernel, fun _ => trivial, false, by decide +kernel, rfl⟩
theorem IntQ.lst {K : PySem.W.Frag} {H : Hp} {a : Addr} {xs : List V} (h : H a = some (.lst xs)) : IntQ K H (.ref a) false := ⟨"list", .base (.lst h), by decide +kernel, fun _ => trivial, false, by decide +kernel, rfl⟩
theorem IntQ.tup {K : PySem.W.Frag} {H : Hp} {a : Addr} {xs : List V} (h : H a = some (.tup xs)) : IntQ K H (.ref a) false := ⟨"tuple", .base (.tup h), by decide +kernel, fun _ => trivial, false, by decide +kernel, rfl⟩
theorem IntQ.dK {K : PySem.W.Frag} {H : Hp} {a : Addr} {xs : List (Key × V)} (h : H a = some (.dK xs)) : IntQ K H (.ref a) false := ⟨"dict", .base (.dK h), by decide +kernel, fun _ => trivial, false, by decide +kernel, rfl⟩
/-- a row of kinds' parts: a list at D of tuples -/
structure RowAt (H : Hp) (p D : Addr) (rs : List (Addr × Nat × Bool)) : Prop where
  lst : H D = some (.lst (rs.map fun r => V.ref r.1))
  nD : D ≠ p
  tup : ∀ r ∈ rs, H r.1 = some (.tup [.int (r.2.1 : Int), .bl r.2.2]) ∧ r.1 ≠ p ∧ 1 ≤ r.2.1 ∧ r.2.1 ≤ 128
theorem RowAt.kp {H H' : Hp} {p D : Addr} {rs : List (Addr × Nat × Bool)} (h : RowAt H p D rs) (e : Kp p H H') : RowAt H' p D rs :=
  ⟨e _ _ h.nD h.lst, h.nD, fun r hr => ⟨e _ _ (h.tup r hr).2.1 (h.tup r hr).1, (h.tup r hr).2⟩⟩
/-- a list at E of kinds -/
structure KdsAt (C : Addr) (H : Hp) (p E : Addr) (ks : List (Addr × Nat × Bool)) : Prop where
  lst : H E = some (.lst (ks.map fun r => V.ref r.1))
  nE : E ≠ p
  kd : ∀ r ∈ ks, Kd C H r.1 r.2.1 r.2.2 ∧ r.1 ≠ p
theorem KdsAt.kp {C : Addr} {H H' : Hp} {p E : Addr} {ks : List (Addr × Nat × Bool)} (h : KdsAt C H p E ks) (e : Kp p H H') : KdsAt C H' p E ks :=
  ⟨e _ _ h.nE h.lst, h.nE, fun r hr => by
    obtain ⟨⟨⟨dx, q⟩, a, b⟩, n⟩ := h.kd r hr
    exact ⟨⟨⟨dx, e _ _ n q⟩, a, b⟩, n⟩⟩
def wrs (ks : List (Addr × Nat × Bool)) (n : Int) : Int := ks.foldl (fun n k => wr k.2.1 k.2.2 n) n
theorem wrs_eq : ∀ {ks rs : List (Addr × Nat × Bool)} (_ : ks.map (·.2) = rs.map (·.2)) (n : Int), wrs ks n = wrs rs n
  | [], [], _, _ => rfl
  | [], _ :: _, h, _ => by simp at h
  | _ :: _, [], h, _ => by simp at h
  | k :: ks, r :: rs, h, n => by
    rw [List.map_cons, List.map_cons, List.cons.injEq] at h
    show wrs ks (wr k.2.1 k.2.2 n) = wrs rs (wr r.2.1 r.2.2 n)
    rw [h.1]
    exact wrs_eq h.2 _
theorem wrs_more (ks : List (Addr × Nat × Bool)) (r : Addr × Nat × Bool) (n : Int) : wrs (ks ++ [r]) n = wr r.2.1 r.2.2 (wrs ks n) := by
  unfold wrs; rw [List.foldl_append]; rfl

/-! ### lines -/
def BB (n : Int) : Prop := n.natAbs < 2 ^ 300
def SD (n : Int) : Prop := -(10 ^ 60) < n ∧ n < 10 ^ 60
theorem SD.bb {n : Int} (h : SD n) : BB n := by
  obtain ⟨a, b⟩ := h
  unfold BB
  exact Nat.lt_trans (show n.natAbs < 10 ^ 60 by omega) (by decide +kernel)
theorem bbk {wd : Nat} {s : Bool} (h : wd ≤ 128) {n : Int} (h1 : loK wd s ≤ n) (h2 : n ≤ hiK wd s) : BB n := by
  have e : (2 : Int) ^ wd ≤ 2 ^ 128 := by
    have := Nat.pow_le_pow_right (n := 2) (by decide) h
    exact_mod_cast this
  have e1 : (2 : Int) ^ (wd - 1) ≤ 2 ^ 128 := by
    have := Nat.pow_le_pow_right (n := 2) (by decide) (show wd - 1 ≤ 128 by omega)
    exact_mod_cast this
  have p1 := p2 (wd - 1)
  have l0 : -(2 ^ 128) ≤ loK wd s ∧ loK wd s ≤ 0 := by unfold loK; split <;> omega
  have hh : hiK wd s ≤ 2 ^ 128 := by unfold hiK; omega
  unfold BB
  exact Nat.lt_of_le_of_lt (show n.natAbs ≤ 2 ^ 128 by omega) (by decide +kernel)
theorem bb_pow {wd : Nat} (h : wd ≤ 128) : BB (2 ^ wd) := by
  unfold BB
  rw [Int.natAbs_pow]
  exact Nat.pow_lt_pow_right (by decide) (by show wd < 300; omega)
/-- all but the source stays, the tables are told -/
def Kq (TS : List (Addr × Str)) (p : Addr) (H H' : Hp) : Prop := (∀ q o, q ≠ p → H q = some o → (∀ ps, o ≠ .tbl ps) → H' q = some o) ∧ (LamX.Tabs TS H → LamX.Tabs TS H')
section
variable {TS : List (Addr × Str)} {p : Addr} {H H1 H2 : Hp}
theorem Kq.refl (H : Hp) : Kq TS p H H := ⟨fun _ _ _ h _ => h, fun h => h⟩
theorem Kq.trans (a : Kq TS p H H1) (b : Kq TS p H1 H2) : Kq TS p H H2 := ⟨fun q o n h t => b.1 q o n (a.1 q o n h t) t, fun h => b.2 (a.2 h)⟩
theorem Kq.of (a : Sm TS H H1) : Kq TS p H H1 := ⟨fun q o _ h t => a.1 q o h t, a.2⟩
theorem Kp.toQ (a : Kp p H H1) (hl : ∃ xs, H p = some (.lst xs)) : Kq TS p H H1 := by
  obtain ⟨xs, hp⟩ := hl
  refine ⟨fun q o n h _ => a q o n h, fun t b hb => ?_⟩
  obtain ⟨ps, a1, a2, a3⟩ := t b hb
  refine ⟨ps, a _ _ (ne_of a1 hp (by intro z; cases z)) a1, a2, fun pos cv e => ?_⟩
  obtain ⟨c, e1, e2⟩ := a3 pos cv e
  exact ⟨c, e1, a _ _ (ne_of e2 hp (by unfold LamX.CodeO; intro z; cases z)) e2⟩
theorem Kq.at {a : Addr} {o : HO} (s : Kq TS p H H1) (n : a ≠ p) (h : H a = some o) (t : ∀ ps, o ≠ .tbl ps := by intro ps z; cases z) : H1 a = some o := s.1 a o n h t
theorem Kq.free {r : Addr} {xs : List V} (s : Kq TS p H H1) (hp : H1 p = some (.lst xs)) (t : ∀ ps, H r ≠ some (.tbl ps)) (h : H1 r = none) : H r = none := by
  cases q : H r with
  | none => rfl
  | some o =>
    by_cases e : r = p
    · rw [e, hp] at h; cases h
    · rw [s.1 r o e q (fun ps z => t ps (by rw [q, z]))] at h; cases h
end
/-- a source of draws, after at most n of them -/
def SrcN (n : Nat) (H : Hp) (p : Addr) : Prop := ∃ a b c : Int, H p = some (.lst [.int a, .int b, .int c]) ∧ 0 ≤ b ∧ b < 2147483648 ∧ 0 ≤ c ∧ c ≤ n
section
variable {TS : List (Addr × Str)} {p : Addr} {H H1 : Hp} {n m : Nat}
theorem SrcN.lst (h : SrcN n H p) : ∃ xs, H p = some (.lst xs) := by
  obtain ⟨a, b, c, e, _⟩ := h
  exact ⟨_, e⟩
theorem SrcN.le (h : SrcN n H p) (k : n ≤ m) : SrcN m H p := by
  obtain ⟨a, b, c, e, h1, h2, h3, h4⟩ := h
  exact ⟨a, b, c, e, h1, h2, h3, by omega⟩
theorem SrcN.sm (h : SrcN n H p) (s : Sm TS H H1) : SrcN n H1 p := by
  obtain ⟨a, b, c, e, r⟩ := h
  exact ⟨a, b, c, s.at e, r⟩
theorem SrcN.same (h : SrcN n H p) (s : Same H H1) : SrcN n H1 p := by
  obtain ⟨a, b, c, e, r⟩ := h
  exact ⟨a, b, c, s _ _ e, r⟩
theorem SrcN.new {r : Addr} {o : HO} (h : SrcN n H p) (k : H r = none) : SrcN n (upd H r o) p := h.same (sm_new (Same.refl H) k)
theorem SrcN.ne {q : Addr} (h : SrcN n H p) (k : H q = none) : q ≠ p := by
  obtain ⟨_, e⟩ := h.lst
  exact (ne_of_none e k).symm
theorem SrcN.mut {r : Addr} {o : HO} (h : SrcN n H p) (k : r ≠ p) : SrcN n (upd H r o) p := by
  obtain ⟨a, b, c, e, rest⟩ := h
  exact ⟨a, b, c, by rw [upd_ne k.symm]; exact e, rest⟩
theorem SrcN.ne_of {q : Addr} {o : HO} (h : SrcN n H p) (k : H q = some o) (t : ∀ xs, o ≠ .lst xs := by intro xs z; cases z) : q ≠ p := by
  obtain ⟨xs, e⟩ := h.lst
  exact L2.ne_of k e (t xs)
end
/-- the x whose result is from lo to hi -/
def rsP (wd : Nat) (a b lo hi : Int) : Int → Bool := fun x => inR (2 ^ wd) lo hi (a * x + b)
theorem rsP_wr {wd : Nat} {s : Bool} {a b lo hi x : Int} (h1 : loK wd s ≤ lo) (h2 : hi ≤ hiK wd s) : rsP wd a b lo hi x = decide (lo ≤ wr wd s (a * x + b) ∧ wr wd s (a * x + b) ≤ hi) := by
  have hp := p2 wd
  have a1 := wr_lo wd s (a * x + b)
  have a2 := wr_hi wd s (a * x + b)
  have em : ∃ q, a * x + b = wr wd s (a * x + b) + 2 ^ wd * q := by
    refine ⟨(a * x + b - loK wd s) / 2 ^ wd, ?_⟩
    have := Int.emod_add_mul_ediv (a * x + b - loK wd s) (2 ^ wd)
    unfold wr; omega
  obtain ⟨q, e⟩ := em
  generalize wr wd s (a * x + b) = y at a1 a2 e ⊢
  unfold rsP inR
  rw [e]
  unfold hiK at *
  by_cases c2 : lo ≤ hi
  · by_cases c : lo ≤ y
    · have z : (y + 2 ^ wd * q - lo) % 2 ^ wd = y - lo := by
        rw [show y + 2 ^ wd * q - lo = (y - lo) + 2 ^ wd * q by omega, Int.add_mul_emod_self_left, Int.emod_eq_of_lt (by omega) (by omega)]
      rw [z]
      by_cases c3 : y ≤ hi
      · rw [decide_eq_true ⟨c2, by omega⟩, decide_eq_true ⟨c, c3⟩]
      · rw [decide_eq_false fun z => by omega, decide_eq_false fun z => c3 z.2]
    · have z : (y + 2 ^ wd * q - lo) % 2 ^ wd = y - lo + 2 ^ wd := by
        rw [show y + 2 ^ wd * q - lo = (y - lo + 2 ^ wd) + 2 ^ wd * (q - 1) by rw [Int.mul_sub, Int.mul_one]; omega, Int.add_mul_emod_self_left, Int.emod_eq_of_lt (by omega) (by omega)]
      rw [z, decide_eq_false fun z => by omega, decide_eq_false fun z => c z.1]
  · rw [decide_eq_false fun z => c2 z.1, decide_eq_false fun z => by omega]
def FirstOf (p : Int → Bool) (f l : Int) (v : V) : Prop := (v = .non ∧ tot p f l = 0) ∨ ∃ x, v = .int x ∧ f ≤ x ∧ x ≤ l ∧ p x = true ∧ tot p f (x - 1) = 0
def LastOf (p : Int → Bool) (f l : Int) (v : V) : Prop := (v = .non ∧ tot p f l = 0) ∨ ∃ x, v = .int x ∧ f ≤ x ∧ x ≤ l ∧ p x = true ∧ tot p (x + 1) l = 0
def AtOf (p : Int → Bool) (f l j x : Int) : Prop := f ≤ x ∧ x ≤ l ∧ p x = true ∧ tot p f (x - 1) = j
def spP_ (TS : List (Addr × Str)) (H : Hp) (P : Int → Bool) (first last : Int) : Sp := fun vs H' Q _ => ∃ e : Int, vs = [.int e] ∧ first ≤ e ∧ e < last ∧ Sm TS H H' ∧ ∀ H'', Sm TS H' H'' → Q (.bl (P e)) H''
def spT_ (TS : List (Addr × Str)) (H : Hp) (p : Int → Bool) (first last : Int) : Sp := fun vs H' Q _ => ∃ e : Int, vs = [.int e] ∧ (e = last ∨ (first ≤ e ∧ e ≤ last)) ∧ Sm TS H H' ∧ ∀ H'', Sm TS H' H'' → Q (.int (tot p first e)) H''

theorem Kd.sm {C : Addr} {TS : List (Addr × Str)} {H H' : Hp} {p : Addr} {w : Nat} {s : Bool} (h : Kd C H p w s) (e : Sm TS H H') : Kd C H' p w s := by
  obtain ⟨⟨dx, q⟩, a, b⟩ := h
  exact ⟨⟨dx, e.at q⟩, a, b⟩
theorem Kd.kq {C : Addr} {TS : List (Addr × Str)} {H H' : Hp} {p r : Addr} {w : Nat} {s : Bool} (h : Kd C H p w s) (n : p ≠ r) (e : Kq TS r H H') : Kd C H' p w s := by
  obtain ⟨⟨dx, q⟩, a, b⟩ := h
  exact ⟨⟨dx, e.at n q⟩, a, b⟩

theorem loK_hi (w : Nat) (s : Bool) : hiK w s = loK w s + 2 ^ w - 1 := rfl
theorem loK_b {wd : Nat} {s : Bool} (h : wd ≤ 128) : -(2 ^ 128) ≤ loK wd s ∧ loK wd s ≤ 0 ∧ hiK wd s ≤ 2 ^ 128 ∧ 0 ≤ hiK wd s + 1 ∧ (2 : Int) ^ wd ≤ 2 ^ 128 := by
  have e : (2 : Int) ^ wd ≤ 2 ^ 128 := by
    have := Nat.pow_le_pow_right (n := 2) (by decide) h
    exact_mod_cast this
  have e1 : (2 : Int) ^ (wd - 1) ≤ 2 ^ 128 := by
    have := Nat.pow_le_pow_right (n := 2) (by decide) (show wd - 1 ≤ 128 by omega)
    exact_mod_cast this
  have p1 := p2 (wd - 1)
  have p0 := p2 wd
  have e3 : (2 : Int) ^ (wd - 1) ≤ 2 ^ wd := by
    have := Nat.pow_le_pow_right (n := 2) (by decide) (show wd - 1 ≤ wd by omega)
    exact_mod_cast this
  cases s with
  | false =>
    have l : loK wd false = 0 := by unfold loK; rw [if_neg Bool.false_ne_true]
    refine ⟨by omega, by omega, by unfold hiK; omega, by unfold hiK; omega, e⟩
  | true =>
    have l : loK wd true = -(2 ^ (wd - 1)) := by unfold loK; rw [if_pos rfl]
    refine ⟨by omega, by omega, by unfold hiK; omega, by unfold hiK; omega, e⟩
theorem bb_of {n : Int} (h1 : -(2 ^ 299) ≤ n) (h2 : n ≤ 2 ^ 299) : BB n := by
  unfold BB
  exact Nat.lt_of_le_of_lt (show n.natAbs ≤ 2 ^ 299 by omega) (by decide +kernel)
theorem p128 : (2 : Int) ^ 128 < 2 ^ 290 := by decide +kernel
theorem p290 : (2 : Int) ^ 290 * 8 ≤ 2 ^ 299 := by decide +kernel
theorem wr_q (w : Nat) (s : Bool) (n : Int) : wr w s n = n - 2 ^ w * ((n - loK w s) / 2 ^ w) := by
  have := Int.emod_add_mul_ediv (n - loK w s) (2 ^ w)
  unfold wr; omega
theorem wr_in {w : Nat} {s : Bool} {n k : Int} (h1 : loK w s + 2 ^ w * k ≤ n) (h2 : n ≤ hiK w s + 2 ^ w * k) : wr w s n = n - 2 ^ w * k := by
  unfold hiK at h2
  have e : n - loK w s = (n - loK w s - 2 ^ w * k) + 2 ^ w * k := by omega
  unfold wr
  rw [e, Int.add_mul_emod_self_left, Int.emod_eq_of_lt (by omega) (by omega)]
  omega
theorem wr_add (w : Nat) (s : Bool) (n a : Int) : wr w s (n + a) = if wr w s n + a % 2 ^ w ≤ hiK w s then wr w s n + a % 2 ^ w else wr w s n + a % 2 ^ w - 2 ^ w := by
  have hp := p2 w
  have e1 := wr_q w s n
  have e2 := Int.emod_add_mul_ediv a (2 ^ w)
  have a0 := Int.emod_nonneg a (Int.ne_of_gt hp)
  have a1 := Int.emod_lt_of_pos a hp
  have w0 := wr_lo w s n
  have w1 := wr_hi w s n
  generalize (n - loK w s) / 2 ^ w = q at e1
  generalize a / 2 ^ w = r at e2
  generalize a % 2 ^ w = c at *
  by_cases z : wr w s n + c ≤ hiK w s
  · rw [if_pos z]
    have := wr_in (w := w) (s := s) (n := n + a) (k := q + r) (by rw [Int.mul_add]; omega) (by rw [Int.mul_add]; omega)
    rw [this, Int.mul_add]; omega
  · rw [if_neg z]
    have := wr_in (w := w) (s := s) (n := n + a) (k := q + r + 1) (by rw [Int.mul_add, Int.mul_add]; unfold hiK at z; omega) (by rw [Int.mul_add, Int.mul_add]; unfold hiK at *; omega)
    rw [this, Int.mul_add, Int.mul_add]; omega
/-- the descents -/
def dsP (wd : Nat) (s : Bool) (a b : Int) : Int → Bool := fun x => decide (wr wd s (a * (x + 1) + b) < wr wd s (a * x + b))
theorem dsP_rs (wd : Nat) (s : Bool) (a b x : Int) : rsP wd a b (hiK wd s + 1 - a % 2 ^ wd) (hiK wd s) x = dsP wd s a b x := by
  have hp := p2 wd
  have a0 := Int.emod_nonneg a (Int.ne_of_gt hp)
  have a1 := Int.emod_lt_of_pos a hp
  have w0 := wr_lo wd s (a * x + b)
  have w1 := wr_hi wd s (a * x + b)
  rw [rsP_wr (s := s) (by unfold hiK; omega) (Int.le_refl _)]
  unfold dsP
  rw [show a * (x + 1) + b = (a * x + b) + a by rw [Int.mul_add]; omega, wr_add wd s (a * x + b) a]
  by_cases z : wr wd s (a * x + b) + a % 2 ^ wd ≤ hiK wd s
  · rw [if_pos z, decide_eq_false fun y => by omega, decide_eq_false fun y => by omega]
  · rw [if_neg z, decide_eq_true (show _ ∧ _ from ⟨by omega, w1⟩), decide_eq_true (by omega)]
theorem mk_same {H H1 : Hp} {kx dx : Addr} {o1 o2 : HO} (nx : H kx = none) (ndx : H dx = none) (kp : Kp kx (upd (upd H dx o1) kx o2) H1) : Same H H1 := fun b o e => kp b o (ne_of_none e nx) (by rw [upd_ne (ne_of_none e nx), upd_ne (ne_of_none e ndx)]; exact e)
section
variable {TS : List (Addr × Str)} {p : Addr} {H H1 H2 : Hp}
theorem Kq.new {r : Addr} {o : HO} (s : Kq TS p H H1) (h : H1 r = none) : Kq TS p H (upd H1 r o) := s.trans (.of ((Sm.refl H1).new h))
theorem Kq.same (s : Kq TS p H H1) (h : Same H1 H2) : Kq TS p H H2 := s.trans (.of (Sm.of h))
theorem Kq.sm (s : Kq TS p H H1) (h : Sm TS H1 H2) : Kq TS p H H2 := s.trans (.of h)
/-- p is new: the change of p is no change to what was there -/
theorem Kq.mut {r : Addr} {o u : HO} (s : Kq TS p H H1) (hn : H r = none) (h : H1 r = some u) (hu : ∀ ps, u ≠ .tbl ps := by intro ps z; cases z) (hc : ∀ c q, u ≠ LamX.CodeO c q := by intro c q z; cases z) : Kq TS p H (upd H1 r o) := by
  refine ⟨fun q w n e t => ?_, fun t b hb => ?_⟩
  · rw [upd_ne (ne_of_none e hn)]
    exact s.1 q w n e t
  · obtain ⟨ps, a1, a2, a3⟩ := s.2 t b hb
    refine ⟨ps, by rw [upd_ne (fun z => by rw [z, h] at a1; cases a1; exact hu ps rfl)]; exact a1, a2, fun pos cv e => ?_⟩
    obtain ⟨c, e1, e2⟩ := a3 pos cv e
    exact ⟨c, e1, by rw [upd_ne (fun z => by rw [z, h] at e2; exact hc _ _ (Option.some.inj e2))]; exact e2⟩
theorem Kq.out {H3 : Hp} (a : Sm TS H H1) (n : H1 p = none) (b : Sm TS H1 H2) (s : Kq TS p H2 H3) : Sm TS H H3 := ⟨fun q o e t => s.1 q o (ne_of_none (a.1 q o e t) n) (b.1 q o (a.1 q o e t) t) t, fun h => s.2 (b.2 (a.2 h))⟩
end

theorem b28 {n : Int} (h : BB n) : n.natAbs < 2 ^ 2800 := Nat.lt_of_lt_of_le h (Nat.pow_le_pow_right (by decide) (by decide))
theorem b89 {n : Int} (h : BB n) : n.natAbs < 2 ^ 8999 := Nat.lt_of_lt_of_le h (Nat.pow_le_pow_right (by decide) (by decide))
theorem bb_sm {n : Int} (h1 : -(2 ^ 64) ≤ n) (h2 : n ≤ 2 ^ 64) : BB n := by
  have : (2 : Int) ^ 64 ≤ 2 ^ 299 := by decide +kernel
  exact bb_of (by omega) (by omega)
theorem bb_ten {n : Int} (h1 : -(10 ^ 62) ≤ n) (h2 : n ≤ 10 ^ 62) : BB n := by
  have : (10 : Int) ^ 62 ≤ 2 ^ 299 := by decide +kernel
  exact bb_of (by omega) (by omega)
theorem SD.of {n : Int} (h1 : -(10 ^ 60) < n) (h2 : n < 10 ^ 60) : SD n := ⟨h1, h2⟩
theorem eqv_rfl {d : PyData} (h : d.canLay0 = true) : PyData.eqv d d = true := PySem.SeqAt.eqv_refl d h

theorem lo_val {wd : Nat} (h : 1 ≤ wd) (s : Bool) : 0 - 2 ^ wd / 2 * (if s = true then (1 : Int) else 0) = loK wd s := by
  have e := p2s h
  have hp := p2 (wd - 1)
  cases s with
  | false =>
    unfold loK
    rw [if_neg Bool.false_ne_true, if_neg Bool.false_ne_true]; omega
  | true =>
    unfold loK
    rw [if_pos rfl, if_pos rfl]; omega

theorem lay_ints : ∀ is : List Int, PyData.canLayAll0 (is.map PyData.int) = true
  | [] => rfl
  | x :: r => by
    rw [List.map_cons, PyData.canLayAll0, lay_ints r]; rfl
theorem depth_ints : ∀ is : List Int, PyData.depthAll (is.map PyData.int) = 0
  | [] => by simp only [List.map_nil, PyData.depthAll]
  | x :: r => by
    rw [List.map_cons, PyData.depthAll, depth_ints r]; simp [PyData.depth]
theorem eqv_ints : ∀ is js : List Int, PyData.eqvAll (is.map PyData.int) (js.map PyData.int) = decide (is = js)
  | [], [] => by simp [PyData.eqvAll]
  | [], _ :: _ => by simp [PyData.eqvAll]
  | _ :: _, [] => by simp [PyData.eqvAll]
  | x :: xs, y :: ys => by
    rw [List.map_cons, List.map_cons, PyData.eqvAll, eqv_ints xs ys, show PyData.eqv (.int x) (.int y) = decide (x = y) from by simp only [PyData.eqv]; rfl, ← Bool.decide_and]
    exact decide_eq_decide.mpr (by rw [List.cons.injEq])
theorem shaped_ints (is : List Int) : SeqAt.shaped (.list (is.map PyData.int)) = true := by
  unfold SeqAt.shaped
  rw [show PyData.canLay0 (.list (is.map PyData.int)) = PyData.canLayAll0 (is.map PyData.int) from by simp only [PyData.canLay0], lay_ints, show PyData.depth (.list (is.map PyData.int)) = PyData.depthAll (is.map PyData.int) + 1 from by simp only [PyData.depth], depth_ints]
  rfl
theorem dp_ints {K : PySem.W.Frag} {H : Hp} : ∀ is : List Int, DpAll K H (is.map V.int) (is.map PyData.int)
  | [] => .nil
  | x :: r => .cons (.int x) (dp_ints r)

/-! ### walks, as objects -/
def wkf (w : Wk) : List (Str × V) := [("size", .int w.s), ("step", .int w.t), ("marks", .int w.m), ("each", .int w.e), ("marked", .int w.k), ("around", .int w.r)]
def Wd (C : Addr) (H : Hp) (p : Addr) (w : Wk) : Prop := ∃ dx, H p = some (.ins C dx (wkf w))
theorem Wd.same {C : Addr} {H H' : Hp} {p : Addr} {w : Wk} (h : Wd C H p w) (e : Same H H') : Wd C H' p w := by
  obtain ⟨dx, q⟩ := h
  exact ⟨dx, e _ _ q⟩
theorem wk1 (w : Wk) : (wkf w).lookup ("size" : Str) = some (.int w.s) := by unfold wkf; simp [List.lookup]
theorem wk2 (w : Wk) : (wkf w).lookup ("step" : Str) = some (.int w.t) := by
  have e : (("step" : Str) == ("size" : Str)) = false := by decide +kernel
  unfold wkf; simp [List.lookup, e]
theorem wk3 (w : Wk) : (wkf w).lookup ("marks" : Str) = some (.int w.m) := by
  have e : (("marks" : Str) == ("size" : Str)) = false := by decide +kernel
  have e2 : (("marks" : Str) == ("step" : Str)) = false := by decide +kernel
  unfold wkf; simp [List.lookup, e, e2]
theorem wk4 (w : Wk) : (wkf w).lookup ("each" : Str) = some (.int w.e) := by
  have e : (("each" : Str) == ("size" : Str)) = false := by decide +kernel
  have e2 : (("each" : Str) == ("step" : Str)) = false := by decide +kernel
  have e3 : (("each" : Str) == ("marks" : Str)) = false := by decide +kernel
  unfold wkf; simp [List.lookup, e, e2, e3]
theorem wk5 (w : Wk) : (wkf w).lookup ("marked" : Str) = some (.int w.k) := by
  have e : (("marked" : Str) == ("size" : Str)) = false := by decide +kernel
  have e2 : (("marked" : Str) == ("step" : Str)) = false := by decide +kernel
  have e3 : (("marked" : Str) == ("marks" : Str)) = false := by decide +kernel
  have e4 : (("marked" : Str) == ("each" : Str)) = false := by decide +kernel
  unfold wkf; simp [List.lookup, e, e2, e3, e4]
theorem wk6 (w : Wk) : (wkf w).lookup ("around" : Str) = some (.int w.r) := by
  have e : (("around" : Str) == ("size" : Str)) = false := by decide +kernel
  have e2 : (("around" : Str) == ("step" : Str)) = false := by decide +kernel
  have e3 : (("around" : Str) == ("marks" : Str)) = false := by decide +kernel
  have e4 : (("around" : Str) == ("each" : Str)) = false := by decide +kernel
  have e5 : (("around" : Str) == ("marked" : Str)) = false := by decide +kernel
  unfold wkf; simp [List.lookup, e, e2, e3, e4, e5]
theorem bbE {x : Int} (h1 : -(2 ^ 700) ≤ x) (h2 : x ≤ 2 ^ 700) : x.natAbs < 2 ^ 701 := by
  have e : (2 : Nat) ^ 701 = 2 * 2 ^ 700 := by rw [Nat.pow_succ, Nat.mul_comm]
  have c : ((2 ^ 700 : Nat) : Int) = (2 : Int) ^ 700 := Int.natCast_pow 2 700
  have : 0 < 2 ^ 700 := Nat.pow_pos (show 0 < 2 by decide)
  omega
theorem bb129 {x : Int} (h1 : -(2 ^ 129) ≤ x) (h2 : x ≤ 2 ^ 129) : x.natAbs < 2 ^ 130 := by
  have e : (2 : Nat) ^ 130 = 2 * 2 ^ 129 := by decide +kernel
  have c : ((2 ^ 129 : Nat) : Int) = (2 : Int) ^ 129 := Int.natCast_pow 2 129
  omega
theorem putW (w : Wk) : putF "around" (.int w.r) (putF "marked" (.int w.k) (putF "each" (.int w.e) (putF "marks" (.int w.m) (putF "step" (.int w.t) (putF "size" (.int w.s) []))))) = wkf w := by
  have f01 : ¬ ("size" : Str) = "step" := by decide +kernel
  have f02 : ¬ ("size" : Str) = "marks" := by decide +kernel
  have f12 : ¬ ("step" : Str) = "marks" := by decide +kernel
  have f03 : ¬ ("size" : Str) = "each" := by decide +kernel
  have f13 : ¬ ("step" : Str) = "each" := by decide +kernel
  have f23 : ¬ ("marks" : Str) = "each" := by decide +kernel
  have f04 : ¬ ("size" : Str) = "marked" := by decide +kernel
  have f14 : ¬ ("step" : Str) = "marked" := by decide +kernel
  have f24 : ¬ ("marks" : Str) = "marked" := by decide +kernel
  have f34 : ¬ ("each" : Str) = "marked" := by decide +kernel
  have f05 : ¬ ("size" : Str) = "around" := by decide +kernel
  have f15 : ¬ ("step" : Str) = "around" := by decide +kernel
  have f25 : ¬ ("marks" : Str) = "around" := by decide +kernel
  have f35 : ¬ ("each" : Str) = "around" := by decide +kernel
  have f45 : ¬ ("marked" : Str) = "around" := by decide +kernel
  unfold wkf
  simp only [putF, if_neg f01, if_neg f02, if_neg f12, if_neg f03, if_neg f13, if_neg f23, if_neg f04, if_neg f14, if_neg f24, if_neg f34, if_neg f05, if_neg f15, if_neg f25, if_neg f35, if_neg f45]
structure WkB (w : Wk) : Prop where
  e : w.e.natAbs < 2 ^ 701
  k : w.k.natAbs < 2 ^ 701
  r : w.r.natAbs < 2 ^ 701
  s : w.s.natAbs < 2 ^ 130
  t : w.t.natAbs < 2 ^ 130
  m : w.m.natAbs < 2 ^ 130
theorem wkb {w : Wk} (h : WF w) (b : WB w) : WkB w := by
  obtain ⟨E, e0, ee, ek, er, el, _⟩ := wb_E h b
  have s0 := h.s0
  have t0 := h.t0
  have ts := h.ts
  have m0 := h.m0
  have ms := h.ms
  have s1 := b.s1
  exact ⟨bbE (by omega) (by omega), bbE (by omega) (by omega), bbE (by omega) (by omega), bb129 (by omega) (by omega), bb129 (by omega) (by omega), bb129 (by omega) (by omega)⟩

theorem abs_min {w : Wk} {b n : Int} (n0 : 0 ≤ n) (h : n.natAbs < 2 ^ 600) : (min n (w.mst b)).natAbs < 2 ^ 600 := by
  have : 0 ≤ w.mst b := by unfold Wk.mst; omega
  omega
theorem nopW (w : Wk) {f : Str} (h : ∀ x ∈ ([("size" : Str), "step", "marks", "each", "marked", "around"] : List Str), (f == x) = false) : (wkf w).lookup f = none := by
  unfold wkf
  have h1 := h "size" (by simp)
  have h2 := h "step" (by simp)
  have h3 := h "marks" (by simp)
  have h4 := h "each" (by simp)
  have h5 := h "marked" (by simp)
  have h6 := h "around" (by simp)
  simp [List.lookup, h1, h2, h3, h4, h5, h6]
theorem nW1 (w : Wk) : (wkf w).lookup ("marked_steps" : Str) = none := nopW w (by decide +kernel)
theorem nW2 (w : Wk) : (wkf w).lookup ("cost" : Str) = none := nopW w (by decide +kernel)
theorem nW3 (w : Wk) : (wkf w).lookup ("steps_for" : Str) = none := nopW w (by decide +kernel)
theorem nW4 (w : Wk) : (wkf w).lookup ("mirrored" : Str) = none := nopW w (by decide +kernel)
theorem nW5 (w : Wk) : (wkf w).lookup ("of_laps" : Str) = none := nopW w (by decide +kernel)
theorem sum_b {a b : Int} (ha : a.natAbs < 2 ^ 701) (hb : b.natAbs < 2 ^ 701) : (a + b).natAbs < 2 ^ 702 := by
  have e : (2 : Nat) ^ 702 = 2 * 2 ^ 701 := by rw [Nat.pow_succ, Nat.mul_comm]
  omega

theorem lt_two_pow (n : Nat) {x : Int} (h0 : 0 ≤ x) (h : x < 2 ^ n) : x.natAbs < 2 ^ n := by
  have c : ((2 ^ n : Nat) : Int) = (2 : Int) ^ n := Int.natCast_pow 2 n
  omega
def Bnd (w : Wk) (p b : Int) : Prop := ∀ (N : Nat) (g : Int), hT w p b N g → N < 2 ^ 402 ∧ 0 ≤ g
structure Ent (v : Wk) (q : Int) : Prop where
  wf : WF v
  t0 : 0 < v.t
  q0 : 0 ≤ q
  q1 : q < v.t
  wb : WkB v
def Chain (W0 : Wk) (P0 J0 : Int) : List (Wk × Int × Nat × Int) → Wk → Int → Int → Prop
  | [], w, p, b => w = W0 ∧ p = P0 ∧ b = J0
  | e :: r, w, p, b => w = e.1.laps ∧ p = e.2.1 ∧ b = e.2.2.2 ∧ Ent e.1 e.2.1 ∧ ∃ w' p' b', Chain W0 P0 J0 r w' p' b' ∧ Bnd w' p' b' ∧ ∀ (X : Nat) (g : Int), hT e.1 e.2.1 e.2.2.2 X g → e.2.2.1 ≤ X ∧ hT w' p' b' (X - e.2.2.1) g
def RowE (C : Addr) (H : Hp) (t : Addr) (e : Wk × Int × Nat × Int) : Prop := ∃ wa, H t = some (.tup [.ref wa, .int e.2.1, .int (e.2.2.1 : Int)]) ∧ Wd C H wa e.1
def Rows (C : Addr) (H : Hp) (D : Addr) (st : List (Wk × Int × Nat × Int)) : Prop := ∃ ts : List Addr, H D = some (.lst (ts.map V.ref)) ∧ ts.length = st.length ∧ ∀ (i : Nat) (t : Addr) (e : Wk × Int × Nat × Int), ts[i]? = some t → st.reverse[i]? = some e → RowE C H t e
theorem RowE.same {C : Addr} {H H' : Hp} {t : Addr} {e : Wk × Int × Nat × Int} (h : RowE C H t e) (s : Same H H') : RowE C H' t e := by
  obtain ⟨wa, h1, h2⟩ := h
  exact ⟨wa, s _ _ h1, h2.same s⟩
theorem Rows.same {C : Addr} {H H' : Hp} {D : Addr} {st : List (Wk × Int × Nat × Int)} (h : Rows C H D st) (s : Same H H') : Rows C H' D st := by
  obtain ⟨ts, h1, h2, h3⟩ := h
  exact ⟨ts, s _ _ h1, h2, fun i t e a b => (h3 i t e a b).same s⟩
theorem Wd.mut {C : Addr} {H : Hp} {p D : Addr} {w : Wk} {xs ys : List V} (hD : H D = some (.lst xs)) (h : Wd C H p w) : Wd C (L2.upd H D (.lst ys)) p w := by
  obtain ⟨dx, e⟩ := h
  exact ⟨dx, by rw [upd_ne (ne_of e hD (by intro z; cases z))]; exact e⟩
theorem RowE.mut {C : Addr} {H : Hp} {t D : Addr} {e : Wk × Int × Nat × Int} {xs ys : List V} (hD : H D = some (.lst xs)) (h : RowE C H t e) : RowE C (L2.upd H D (.lst ys)) t e := by
  obtain ⟨wa, h1, h2⟩ := h
  exact ⟨wa, by rw [upd_ne (ne_of h1 hD (by intro z; cases z))]; exact h1, h2.mut hD⟩
theorem Rows.push {C : Addr} {H : Hp} {D t : Addr} {st : List (Wk × Int × Nat × Int)} {e : Wk × Int × Nat × Int} {ts : List Addr} (h1 : H D = some (.lst (ts.map V.ref))) (h2 : ts.length = st.length) (h3 : ∀ (i : Nat) (t : Addr) (e : Wk × Int × Nat × Int), ts[i]? = some t → st.reverse[i]? = some e → RowE C H t e) (h : RowE C H t e) : Rows C (L2.upd H D (.lst (ts.map V.ref ++ [.ref t]))) D (e :: st) := by
  refine ⟨ts ++ [t], by rw [upd_same, List.map_append]; rfl, by rw [List.length_append, h2]; rfl, fun i t' e' a b => ?_⟩
  rw [List.reverse_cons] at b
  by_cases c : i < ts.length
  · rw [List.getElem?_append_left c] at a
    rw [List.getElem?_append_left (by rw [List.length_reverse, ← h2]; exact c)] at b
    exact (h3 i t' e' a b).mut h1
  · have z : i = ts.length := by
      have := (List.getElem?_eq_some_iff.mp a).1
      rw [List.length_append, List.length_singleton] at this
      omega
    subst z
    rw [List.getElem?_append_right (Nat.le_refl _), Nat.sub_self] at a
    rw [List.getElem?_append_right (by rw [List.length_reverse, h2]; exact Nat.le_refl _), List.length_reverse, h2, Nat.sub_self] at b
    obtain rfl : t = t' := Option.some.inj a
    obtain rfl : e = e' := Option.some.inj b
    exact h.mut h1
def plow (w : Wk) (p : Int) : Int := if w.s < 2 * w.t then w.s - 1 - p else p
theorem plow_ok {w : Wk} (h : WF w) (ht : 0 < w.t) {p : Int} (p0 : 0 ≤ p) (p1 : p < w.s) : (0 ≤ plow w p ∧ plow w p < w.low.s) ∧ (∀ N, hC w.low N (plow w p) = hC w N p) ∧ ∀ {b : Int} {n : Nat} {g : Int}, hT w.low (plow w p) b n g → hT w p b n g := by
  unfold plow Wk.low
  split
  · refine ⟨⟨by omega, by show w.s - 1 - p < w.s; omega⟩, fun N => (mir_hP h p0 p1 N).2, fun {b n g} t => mir_hT h p0 p1 t⟩
  · exact ⟨⟨p0, p1⟩, fun _ => rfl, fun t => t⟩
theorem bits130 {x : Int} (h : x.natAbs < 2 ^ 900) {y : Int} (hy : 0 < y) : CDivP x y := by
  have a := PyProof.Rows.intBits_le h
  exact divp_ok hy (by omega)

theorem hit_pos {a b lo hi S : Int} (s0 : 0 < S) (h1 : lo ≤ hi) (h2 : hi - lo < S) (f : Int) : ∀ n : Nat, hP ⟨S, a % S, hi - lo + 1, 0, 1, 0⟩ n ((a * f + b - lo) % S) = (a * (f + (n : Int)) + b - lo) % S ∧ hC ⟨S, a % S, hi - lo + 1, 0, 1, 0⟩ n ((a * f + b - lo) % S) = tot (fun x => inR S lo hi (a * x + b)) f (f + (n : Int) - 1)
  | 0 => by
    refine ⟨?_, ?_⟩
    · show (a * f + b - lo) % S = (a * (f + ((0 : Nat) : Int)) + b - lo) % S
      rw [show f + ((0 : Nat) : Int) = f by omega]
    · show (0 : Int) = _
      rw [tot_none (by omega)]
  | n + 1 => by
    obtain ⟨e1, e2⟩ := hit_pos s0 h1 h2 f n
    have r0 := Int.emod_nonneg (a * (f + (n : Int)) + b - lo) (Int.ne_of_gt s0)
    have r1 := Int.emod_lt_of_pos (a * (f + (n : Int)) + b - lo) s0
    have t0 := Int.emod_nonneg a (Int.ne_of_gt s0)
    have t1 := Int.emod_lt_of_pos a s0
    have ad : (a * (f + ((n + 1 : Nat) : Int)) + b - lo) % S = ((a * (f + (n : Int)) + b - lo) % S + a % S) % S := by
      rw [← Int.add_emod]
      congr 1
      rw [show f + ((n + 1 : Nat) : Int) = (f + (n : Int)) + 1 by omega, Int.mul_add, Int.mul_one]; omega
    constructor
    · show hn S (a % S) (hP ⟨S, a % S, hi - lo + 1, 0, 1, 0⟩ n ((a * f + b - lo) % S)) = _
      rw [e1, ad]
      unfold hn
      clear e1 e2 ad
      generalize (a * (f + (n : Int)) + b - lo) % S = r at *
      generalize a % S = q at *
      split
      · have e : (r + q) % S = r + q - S := by
          have e0 : r + q = (r + q - S) + S * 1 := by omega
          rw [e0, Int.add_mul_emod_self_left, Int.emod_eq_of_lt (by omega) (by omega)]
          omega
        rw [e]
      · rw [Int.emod_eq_of_lt (by omega) (by omega)]
    · show hC ⟨S, a % S, hi - lo + 1, 0, 1, 0⟩ n ((a * f + b - lo) % S) + hc ⟨S, a % S, hi - lo + 1, 0, 1, 0⟩ (hP ⟨S, a % S, hi - lo + 1, 0, 1, 0⟩ n ((a * f + b - lo) % S)) = _
      rw [e2, e1, show f + ((n + 1 : Nat) : Int) - 1 = f + (n : Int) by omega, tot_step _ (show f ≤ f + (n : Int) by omega)]
      congr 1
      unfold hc inR
      dsimp only
      by_cases c : (a * (f + (n : Int)) + b - lo) % S < hi - lo + 1
      · rw [if_pos c, if_pos (decide_eq_true ⟨h1, by omega⟩)]; split <;> omega
      · rw [if_neg c, show decide (lo ≤ hi ∧ (a * (f + (n : Int)) + b - lo) % S ≤ hi - lo) = false from decide_eq_false (fun z => by omega), if_neg Bool.false_ne_true]; split <;> omega
theorem hit_is {a b lo hi S : Int} (s0 : 0 < S) (h1 : lo ≤ hi) (h2 : hi - lo < S) {f j g : Int} {n : Nat} (h : hT ⟨S, a % S, hi - lo + 1, 0, 1, 0⟩ ((a * f + b - lo) % S) j n g) : inR S lo hi (a * (f + (n : Int)) + b) = true ∧ tot (fun x => inR S lo hi (a * x + b)) f (f + (n : Int) - 1) = j := by
  obtain ⟨e1, e2⟩ := hit_pos (a := a) (b := b) s0 h1 h2 f n
  obtain ⟨t1, t2, t3⟩ := h
  rw [e2] at t1
  rw [e1] at t3
  unfold hc at t3
  dsimp only at t3
  by_cases c : (a * (f + (n : Int)) + b - lo) % S < hi - lo + 1
  · refine ⟨decide_eq_true ⟨h1, by omega⟩, ?_⟩
    rw [if_pos c] at t3
    split at t3 <;> omega
  · rw [if_neg c] at t3
    split at t3 <;> omega

/-! ### two lines -/
def Rel (z : Str) : Prop := z = "<" ∨ z = "<=" ∨ z = "==" ∨ z = "!=" ∨ z = ">=" ∨ z = ">"
def relB (z : Str) (y w : Int) : Bool := if z = "<" then decide (y < w) else if z = "<=" then decide (y ≤ w) else if z = "==" then decide (y = w) else if z = "!=" then !decide (y = w) else if z = ">=" then decide (w ≤ y) else decide (w < y)
theorem rel1 (y w : Int) : relB "<" y w = decide (y < w) := if_pos rfl
theorem rel2 (y w : Int) : relB "<=" y w = decide (y ≤ w) := by unfold relB; rw [if_neg (by decide +kernel), if_pos rfl]
theorem rel3 (y w : Int) : relB "==" y w = decide (y = w) := by unfold relB; rw [if_neg (by decide +kernel), if_neg (by decide +kernel), if_pos rfl]
theorem rel4 (y w : Int) : relB "!=" y w = !decide (y = w) := by unfold relB; rw [if_neg (by decide +kernel), if_neg (by decide +kernel), if_neg (by decide +kernel), if_pos rfl]
theorem rel5 (y w : Int) : relB ">=" y w = decide (w ≤ y) := by unfold relB; rw [if_neg (by decide +kernel), if_neg (by decide +kernel), if_neg (by decide +kernel), if_neg (by decide +kernel), if_pos rfl]
theorem rel6 (y w : Int) : relB ">" y w = decide (w < y) := by unfold relB; rw [if_neg (by decide +kernel), if_neg (by decide +kernel), if_neg (by decide +kernel), if_neg (by decide +kernel), if_neg (by decide +kernel)]
theorem rel_sg {z : Str} (hz : Rel z) {y w y' w' : Int} (h1 : y < w ↔ y' < w') (h2 : y = w ↔ y' = w') : relB z y w = relB z y' w' := by
  rcases hz with rfl | rfl | rfl | rfl | rfl | rfl
  · rw [rel1, rel1, decide_eq_decide.mpr h1]
  · rw [rel2, rel2]; exact decide_eq_decide.mpr (by omega)
  · rw [rel3, rel3, decide_eq_decide.mpr h2]
  · rw [rel4, rel4, decide_eq_decide.mpr h2]
  · rw [rel5, rel5]; exact decide_eq_decide.mpr (by omega)
  · rw [rel6, rel6]; exact decide_eq_decide.mpr (by omega)
/-- the x at which the results of two lines stand in a relation -/
def cmP (wd : Nat) (s : Bool) (z : Str) (a b c d : Int) : Int → Bool := fun x => relB z (wr wd s (a * x + b)) (wr wd s (c * x + d))
theorem tot_notM (p : Int → Bool) (f l : Int) : tot (fun x => !p x) f l = max 0 (l - f + 1) - tot p f l := by
  by_cases h : f ≤ l + 1
  · rw [tot_not h]
    have := tot_le p h
    omega
  · rw [tot_none (show l < f by omega), tot_none (show l < f by omega)]; omega
theorem lt_quot (wd : Nat) (s : Bool) (y v : Int) : (y - loK wd s) / 2 ^ wd - (v - loK wd s) / 2 ^ wd - (y - v) / 2 ^ wd = if relB "<" (wr wd s y) (wr wd s v) = true then 1 else 0 := by
  have hp := p2 wd
  have e1 := wr_q wd s y
  have e2 := wr_q wd s v
  have y0 := wr_lo wd s y
  have y1 := wr_hi wd s y
  have v0 := wr_lo wd s v
  have v1 := wr_hi wd s v
  unfold hiK at y1 v1
  rw [rel1]
  generalize (y - loK wd s) / 2 ^ wd = q at *
  generalize (v - loK wd s) / 2 ^ wd = r at *
  have em : 2 ^ wd * (q - r) = 2 ^ wd * q - 2 ^ wd * r := Int.mul_sub _ _ _
  have em1 : 2 ^ wd * (q - r - 1) = 2 ^ wd * q - 2 ^ wd * r - 2 ^ wd := by rw [Int.mul_sub, em, Int.mul_one]
  by_cases c : wr wd s y < wr wd s v
  · rw [if_pos (decide_eq_true c)]
    have z : (y - v) / 2 ^ wd = q - r - 1 := by
      have e : y - v = (wr wd s y - wr wd s v + 2 ^ wd) + 2 ^ wd * (q - r - 1) := by omega
      rw [e, Int.add_mul_ediv_left _ _ (Int.ne_of_gt hp), Int.ediv_eq_zero_of_lt (by omega) (by omega)]; omega
    omega
  · rw [if_neg (by rw [decide_eq_true_eq]; exact c)]
    have z : (y - v) / 2 ^ wd = q - r := by
      have e : y - v = (wr wd s y - wr wd s v) + 2 ^ wd * (q - r) := by omega
      rw [e, Int.add_mul_ediv_left _ _ (Int.ne_of_gt hp), Int.ediv_eq_zero_of_lt (by omega) (by omega)]; omega
    omega
theorem QT_lt (wd : Nat) (s : Bool) (a b c d f l : Int) : QT (a - 0) (b - loK wd s) (2 ^ wd) f l - QT (c - 0) (d - loK wd s) (2 ^ wd) f l - QT (a - c) (b - d) (2 ^ wd) f l = tot (cmP wd s "<" a b c d) f l := by
  unfold QT tot cN
  rw [← sZ_sub, ← sZ_sub]
  refine sZ_congr fun i _ => ?_
  show _ = (if relB "<" (wr wd s (a * (f + (i : Int)) + b)) (wr wd s (c * (f + (i : Int)) + d)) = true then (1 : Int) else 0)
  rw [← lt_quot, Int.sub_zero, Int.sub_zero, Int.sub_mul]
  rw [show a * (f + (i : Int)) + (b - loK wd s) = a * (f + (i : Int)) + b - loK wd s by omega, show c * (f + (i : Int)) + (d - loK wd s) = c * (f + (i : Int)) + d - loK wd s by omega, show a * (f + (i : Int)) - c * (f + (i : Int)) + (b - d) = a * (f + (i : Int)) + b - (c * (f + (i : Int)) + d) by omega]
theorem wr_eq_iff (wd : Nat) (s : Bool) (y v : Int) : wr wd s y = wr wd s v ↔ (y - v) % 2 ^ wd = 0 := by
  have hp := p2 wd
  have e1 := wr_q wd s y
  have e2 := wr_q wd s v
  have y0 := wr_lo wd s y
  have y1 := wr_hi wd s y
  have v0 := wr_lo wd s v
  have v1 := wr_hi wd s v
  unfold hiK at y1 v1
  generalize (y - loK wd s) / 2 ^ wd = q at *
  generalize (v - loK wd s) / 2 ^ wd = r at *
  have em : 2 ^ wd * (q - r) = 2 ^ wd * q - 2 ^ wd * r := Int.mul_sub _ _ _
  have em1 : 2 ^ wd * (q - r - 1) = 2 ^ wd * q - 2 ^ wd * r - 2 ^ wd := by rw [Int.mul_sub, em, Int.mul_one]
  by_cases c : wr wd s v ≤ wr wd s y
  · have e : y - v = (wr wd s y - wr wd s v) + 2 ^ wd * (q - r) := by omega
    rw [e, Int.add_mul_emod_self_left, Int.emod_eq_of_lt (by omega) (by omega)]; omega
  · have e : y - v = (wr wd s y - wr wd s v + 2 ^ wd) + 2 ^ wd * (q - r - 1) := by omega
    rw [e, Int.add_mul_emod_self_left, Int.emod_eq_of_lt (by omega) (by omega)]; omega
theorem eq_inR (wd : Nat) (s : Bool) (a b c d x : Int) : inR (2 ^ wd) 0 0 ((a - c) * x + (b - d)) = cmP wd s "==" a b c d x := by
  have hp := p2 wd
  unfold cmP inR
  rw [rel3, show (a - c) * x + (b - d) - 0 = a * x + b - (c * x + d) by rw [Int.sub_mul]; omega]
  have := Int.emod_nonneg (a * x + b - (c * x + d)) (Int.ne_of_gt hp)
  refine decide_eq_decide.mpr ?_
  rw [wr_eq_iff]; omega
theorem cm_not {z z' : Str} (h : ∀ y w, relB z' y w = !relB z y w) (wd : Nat) (s : Bool) (a b c d f l : Int) : tot (cmP wd s z' a b c d) f l = max 0 (l - f + 1) - tot (cmP wd s z a b c d) f l := by
  rw [← tot_notM]
  exact tot_congr fun x _ _ => h _ _
theorem cm_turn {z z' : Str} (h : ∀ y w, relB z' y w = relB z w y) (wd : Nat) (s : Bool) (a b c d f l : Int) : tot (cmP wd s z' a b c d) f l = tot (cmP wd s z c d a b) f l := tot_congr fun x _ _ => h _ _
theorem rn25 (y w : Int) : relB "<=" y w = !relB "<" w y := by rw [rel1, rel2, ← decide_not]; exact decide_eq_decide.mpr (by omega)
theorem rn5 (y w : Int) : relB ">=" y w = !relB "<" y w := by rw [rel1, rel5, ← decide_not]; exact decide_eq_decide.mpr (by omega)
theorem rn4 (y w : Int) : relB "!=" y w = !relB "==" y w := by rw [rel4, rel3]
theorem rn6 (y w : Int) : relB ">" y w = relB "<" w y := by rw [rel6, rel1]
/-- surprises -/
def suP (wd : Nat) (s : Bool) (z : Str) (a b c d : Int) : Int → Bool := fun x => cmP wd s z a b c d x != relB z (a * x + b) (c * x + d)
theorem su_part {wd : Nat} {s : Bool} {z : Str} {a b c d f l : Int} {e : Bool} (h : ∀ x, f ≤ x → x ≤ l → relB z (a * x + b) (c * x + d) = e) : tot (suP wd s z a b c d) f l = if e = true then max 0 (l - f + 1) - tot (cmP wd s z a b c d) f l else tot (cmP wd s z a b c d) f l := by
  cases e with
  | true =>
    rw [if_pos rfl, ← tot_notM]
    refine tot_congr fun x h1 h2 => ?_
    unfold suP
    rw [h x h1 h2]; cases cmP wd s z a b c d x <;> rfl
  | false =>
    rw [if_neg Bool.false_ne_true]
    refine tot_congr fun x h1 h2 => ?_
    unfold suP
    rw [h x h1 h2]; cases cmP wd s z a b c d x <;> rfl
def CDivNW (_ j : Int) : Prop := j ≠ 0 ∧ j.natAbs.log2 < 9000
theorem op_fdivNW {X : Cx} : OpR X (binaryOp .FloorDiv) (rI CDivNW fun i j => .int (i.fdiv j)) := opI fun _ _ _ _ _ _ _ hc q => PyProof.Rows.floordiv_int hc.1 q (.inl (PyProof.noPylong_of_log2 hc.2))
theorem divnw {i j : Int} (h : j ≠ 0) (b : BB j) : CDivNW i j := ⟨h, Nat.lt_of_lt_of_le (PySem.Flt.log2_lt_of (k := 300) (by decide) b) (by decide)⟩
/-- where two lines cross -/
theorem cross_lt {u v x : Int} (hu : u ≠ 0) (h : x < (-v).fdiv u) : (0 < u → u * x + v < 0) ∧ (u < 0 → 0 < u * x + v) := by
  constructor
  · intro hp
    rw [Int.fdiv_eq_ediv_of_nonneg _ (Int.le_of_lt hp)] at h
    have h1 := (Int.le_ediv_iff_mul_le hp (a := x + 1) (b := -v)).mp (by omega)
    rw [Int.add_mul, Int.one_mul, Int.mul_comm x u] at h1
    omega
  · intro hn
    have e : (-v).fdiv u = v.fdiv (-u) := by rw [← Int.neg_fdiv_neg, Int.neg_neg]
    rw [e, Int.fdiv_eq_ediv_of_nonneg _ (by omega)] at h
    have h1 := (Int.le_ediv_iff_mul_le (show 0 < -u by omega) (a := x + 1) (b := v)).mp (by omega)
    rw [Int.add_mul, Int.one_mul, Int.mul_neg, Int.mul_comm x u] at h1
    omega
theorem cross_gt {u v x : Int} (hu : u ≠ 0) (h : (-v).fdiv u < x) : (0 < u → 0 < u * x + v) ∧ (u < 0 → u * x + v < 0) := by
  constructor
  · intro hp
    rw [Int.fdiv_eq_ediv_of_nonneg _ (Int.le_of_lt hp)] at h
    have h1 := (Int.ediv_lt_iff_lt_mul hp (a := -v) (b := x)).mp h
    rw [Int.mul_comm x u] at h1
    omega
  · intro hn
    have e : (-v).fdiv u = v.fdiv (-u) := by rw [← Int.neg_fdiv_neg, Int.neg_neg]
    rw [e, Int.fdiv_eq_ediv_of_nonneg _ (by omega)] at h
    have h1 := (Int.ediv_lt_iff_lt_mul (show 0 < -u by omega) (a := v) (b := x)).mp h
    rw [Int.mul_neg, Int.mul_comm x u] at h1
    omega
theorem fdiv_bb {u v : Int} (hu : u ≠ 0) : (v.fdiv u).natAbs ≤ v.natAbs + 1 := by
  rcases Int.lt_or_gt_of_ne hu with h | h
  · have e : v.fdiv u = (-v).fdiv (-u) := by rw [Int.neg_fdiv_neg]
    rw [e, Int.fdiv_eq_ediv_of_nonneg _ (by omega)]
    have := Int.natAbs_ediv_le_natAbs (-v) (-u)
    omega
  · rw [Int.fdiv_eq_ediv_of_nonneg _ (Int.le_of_lt h)]
    have := Int.natAbs_ediv_le_natAbs v u
    omega
/-- the parts of a range, at each of which the lines are in one order -/
structure Parts (a b c d f l : Int) (ps : List (Int × Int)) : Prop where
  sum : ∀ p : Int → Bool, (ps.map fun r => tot p r.1 r.2).sum = tot p f l
  one : ∀ r ∈ ps, ∀ x, r.1 ≤ x → x ≤ r.2 → ((a * x + b < c * x + d ↔ a * r.1 + b < c * r.1 + d) ∧ (a * x + b = c * x + d ↔ a * r.1 + b = c * r.1 + d))
  bb : ∀ r ∈ ps, BB r.1 ∧ BB r.2
theorem parts1 {a b c d f l : Int} (h : a - c = 0) (bf : BB f) (bl : BB l) : Parts a b c d f l [(f, l)] := by
  have e : a = c := by omega
  subst e
  refine ⟨fun p => by simp, fun r hr x _ _ => by omega, fun r hr => ?_⟩
  rw [List.mem_singleton.mp hr]
  exact ⟨bf, bl⟩
theorem parts3 {a b c d f l : Int} (h : a - c ≠ 0) (sb : SD b) (sd : SD d) (sf : SD f) (sl : SD l) : Parts a b c d f l [(f, min l ((-(b - d)).fdiv (a - c) - 1)), (max f ((-(b - d)).fdiv (a - c)), min l ((-(b - d)).fdiv (a - c))), (max f ((-(b - d)).fdiv (a - c) + 1), l)] := by
  have g : ∀ x, a * x + b - (c * x + d) = (a - c) * x + (b - d) := fun x => by rw [Int.sub_mul]; omega
  have lt := fun x h' => cross_lt (u := a - c) (v := b - d) (x := x) h h'
  have gt := fun x h' => cross_gt (u := a - c) (v := b - d) (x := x) h h'
  have kb := fdiv_bb (u := a - c) (v := -(b - d)) h
  generalize (-(b - d)).fdiv (a - c) = k at *
  obtain ⟨b1, b2⟩ := sb
  obtain ⟨d1, d2⟩ := sd
  obtain ⟨f1, f2⟩ := sf
  obtain ⟨l1, l2⟩ := sl
  have p10 : (10 : Int) ^ 60 * 4 < 10 ^ 62 := by decide +kernel
  refine ⟨fun p => ?_, fun r hr x x1 x2 => ?_, fun r hr => ?_⟩
  · simp only [List.map_cons, List.map_nil, List.sum_cons, List.sum_nil]
    by_cases c1 : l < k
    · rw [show min l (k - 1) = l by omega, tot_none (p := p) (show min l k < max f k by omega), tot_none (p := p) (show l < max f (k + 1) by omega)]; omega
    · by_cases c2 : k < f
      · rw [tot_none (p := p) (show min l (k - 1) < f by omega), tot_none (p := p) (show min l k < max f k by omega), show max f (k + 1) = f by omega]; omega
      · rw [tot_split p (first := f) (mid := k - 1) (last := l) (by omega) (by omega), tot_split p (first := k - 1 + 1) (mid := k) (last := l) (by omega) (by omega), show min l (k - 1) = k - 1 by omega, show max f k = k by omega, show min l k = k by omega, show max f (k + 1) = k + 1 by omega, show k - 1 + 1 = k by omega]; omega
  · have key : ∀ y w : Int, (y < k ∧ w < k) ∨ (k < y ∧ k < w) → ((a * y + b < c * y + d ↔ a * w + b < c * w + d) ∧ (a * y + b = c * y + d ↔ a * w + b = c * w + d)) := fun y w hyw => by
      have g1 := g y
      have g2 := g w
      rcases hyw with ⟨h1, h2⟩ | ⟨h1, h2⟩
      · obtain ⟨u1, u2⟩ := lt y h1
        obtain ⟨w1, w2⟩ := lt w h2
        rcases Int.lt_or_gt_of_ne h with z | z
        · have := u2 z; have := w2 z; omega
        · have := u1 z; have := w1 z; omega
      · obtain ⟨u1, u2⟩ := gt y h1
        obtain ⟨w1, w2⟩ := gt w h2
        rcases Int.lt_or_gt_of_ne h with z | z
        · have := u2 z; have := w2 z; omega
        · have := u1 z; have := w1 z; omega
    rcases List.mem_cons.mp hr with rfl | hr
    · exact key _ _ (.inl ⟨by omega, by omega⟩)
    · rcases List.mem_cons.mp hr with rfl | hr
      · have e : x = max f k := by omega
        rw [e]
        exact ⟨Iff.rfl, Iff.rfl⟩
      · rw [List.mem_singleton.mp hr] at x1 x2 ⊢
        exact key _ _ (.inr ⟨by omega, by omega⟩)
  · have bk : BB k ∧ BB (k - 1) ∧ BB (k + 1) := ⟨bb_ten (by omega) (by omega), bb_ten (by omega) (by omega), bb_ten (by omega) (by omega)⟩
    have bf : BB f := bb_ten (by omega) (by omega)
    have bl : BB l := bb_ten (by omega) (by omega)
    have mn : ∀ u v : Int, BB u → BB v → BB (min u v) ∧ BB (max u v) := fun u v h1 h2 => by
      unfold BB at *
      constructor <;> omega
    rcases List.mem_cons.mp hr with rfl | hr
    · exact ⟨bf, (mn _ _ bl bk.2.1).1⟩
    · rcases List.mem_cons.mp hr with rfl | hr
      · exact ⟨(mn _ _ bf bk.1).2, (mn _ _ bl bk.1).1⟩
      · rw [List.mem_singleton.mp hr]
        exact ⟨(mn _ _ bf bk.2.2).2, bl⟩

theorem rel_in {z : Str} (h : Rel z) : inV (.str z) [.str "<", .str "<=", .str "==", .str "!=", .str ">=", .str ">"] = true := by
  rcases h with rfl | rfl | rfl | rfl | rfl | rfl <;> decide +kernel
theorem emod_is {n m q r : Int} (h : n = r + m * q) (r0 : 0 ≤ r) (r1 : r < m) : n % m = r := by
  rw [h, Int.add_mul_emod_self_left, Int.emod_eq_of_lt r0 r1]
theorem inR_not {S lo hi v : Int} (s0 : 0 < S) (h1 : -1 ≤ hi - lo) (h2 : hi - lo ≤ S - 1) : inR S (hi + 1) (lo + S - 1) v = !inR S lo hi v := by
  unfold inR
  have u0 := Int.emod_nonneg (v - lo) (Int.ne_of_gt s0)
  have u1 := Int.emod_lt_of_pos (v - lo) s0
  have u2 := Int.emod_add_mul_ediv (v - lo) S
  generalize (v - lo) % S = u at *
  generalize (v - lo) / S = q at *
  by_cases c : u ≤ hi - lo
  · rw [show decide (lo ≤ hi ∧ u ≤ hi - lo) = true from decide_eq_true (by omega), Bool.not_true]
    by_cases f : hi - lo = S - 1
    · exact decide_eq_false (by omega)
    rw [emod_is (n := v - (hi + 1)) (q := q - 1) (r := u - (hi - lo) - 1 + S) (by rw [Int.mul_sub]; omega) (by omega) (by omega)]
    exact decide_eq_false (by omega)
  · rw [show decide (lo ≤ hi ∧ u ≤ hi - lo) = false from decide_eq_false (by omega), Bool.not_false]
    rw [emod_is (n := v - (hi + 1)) (q := q) (r := u - (hi - lo) - 1) (by omega) (by omega) (by omega)]
    exact decide_eq_true (by omega)
/-- for each x the relation stands just where a line lies in a stretch -/
def HitsLt (wd : Nat) (s : Bool) (a b c d e f lo hi : Int) : Prop := (-1 ≤ hi - lo ∧ hi - lo ≤ 2 ^ wd - 1) ∧ ∀ x, decide (wr wd s (a * x + b) < wr wd s (c * x + d)) = inR (2 ^ wd) lo hi (e * x + f)
theorem wr_slope {wd : Nat} {s : Bool} {a : Int} (h : a % 2 ^ wd = 0) (b x : Int) : wr wd s (a * x + b) = wr wd s b := by
  unfold wr
  congr 1
  have u := Int.emod_add_mul_ediv a (2 ^ wd)
  have v : a * x = 2 ^ wd * (a / 2 ^ wd * x) := by
    rw [← Int.mul_assoc]; congr 1; omega
  rw [v, show 2 ^ wd * (a / 2 ^ wd * x) + b - loK wd s = (b - loK wd s) + 2 ^ wd * (a / 2 ^ wd * x) by omega, Int.add_mul_emod_self_left]
theorem lt_one {wd : Nat} {s : Bool} {a b c d : Int} (h : a % 2 ^ wd = 0) : HitsLt wd s a b c d c d (wr wd s b + 1) (hiK wd s) := by
  have hh : hiK wd s = loK wd s + 2 ^ wd - 1 := rfl
  have w0 := wr_lo wd s b
  have w1 := wr_hi wd s b
  refine ⟨by omega, fun x => ?_⟩
  rw [wr_slope h]
  have e := rsP_wr (wd := wd) (s := s) (a := c) (b := d) (lo := wr wd s b + 1) (hi := hiK wd s) (x := x) (by omega) (Int.le_refl _)
  have e' : inR (2 ^ wd) (wr wd s b + 1) (hiK wd s) (c * x + d) = _ := e
  rw [e']
  have := wr_hi wd s (c * x + d)
  exact decide_eq_decide.mpr (by omega)
theorem lt_other {wd : Nat} {s : Bool} {a b c d : Int} (h : c % 2 ^ wd = 0) : HitsLt wd s a b c d a b (loK wd s) (wr wd s d - 1) := by
  have hh : hiK wd s = loK wd s + 2 ^ wd - 1 := rfl
  have w0 := wr_lo wd s d
  have w1 := wr_hi wd s d
  refine ⟨by omega, fun x => ?_⟩
  rw [wr_slope h]
  have e := rsP_wr (wd := wd) (s := s) (a := a) (b := b) (lo := loK wd s) (hi := wr wd s d - 1) (x := x) (by omega) (by omega)
  have e' : inR (2 ^ wd) (loK wd s) (wr wd s d - 1) (a * x + b) = _ := e
  rw [e']
  have := wr_lo wd s (a * x + b)
  exact decide_eq_decide.mpr (by omega)
theorem lt_gap {wd : Nat} {s : Bool} {a b c d : Int} (h : (a - c) % 2 ^ wd = 0) : HitsLt wd s a b c d a b (loK wd s) (loK wd s + (b - d) % 2 ^ wd - 1) := by
  have hp := p2 wd
  have hh : hiK wd s = loK wd s + 2 ^ wd - 1 := rfl
  have g0 := Int.emod_nonneg (b - d) (Int.ne_of_gt hp)
  have g1 := Int.emod_lt_of_pos (b - d) hp
  have g2 := Int.emod_add_mul_ediv (b - d) (2 ^ wd)
  refine ⟨by omega, fun x => ?_⟩
  have e := rsP_wr (wd := wd) (s := s) (a := a) (b := b) (lo := loK wd s) (hi := loK wd s + (b - d) % 2 ^ wd - 1) (x := x) (by omega) (by omega)
  have e' : inR (2 ^ wd) (loK wd s) (loK wd s + (b - d) % 2 ^ wd - 1) (a * x + b) = _ := e
  rw [e']
  have w0 := wr_lo wd s (c * x + d)
  have w1 := wr_hi wd s (c * x + d)
  have w2 := wr_q wd s (c * x + d)
  have v0 := wr_lo wd s (a * x + b)
  have v1 := wr_hi wd s (a * x + b)
  have u := Int.emod_add_mul_ediv (a - c) (2 ^ wd)
  have ac : a * x + b = c * x + d + (b - d) % 2 ^ wd + 2 ^ wd * ((b - d) / 2 ^ wd + (a - c) / 2 ^ wd * x) := by
    have z : (a - c) * x = 2 ^ wd * ((a - c) / 2 ^ wd * x) := by
      rw [← Int.mul_assoc]; congr 1; omega
    rw [Int.sub_mul] at z
    rw [Int.mul_add]; omega
  generalize (b - d) % 2 ^ wd = g at *
  generalize (b - d) / 2 ^ wd + (a - c) / 2 ^ wd * x = q at *
  generalize (c * x + d - loK wd s) / 2 ^ wd = q2 at *
  by_cases z : wr wd s (c * x + d) + g ≤ hiK wd s
  · have e2 := wr_in (w := wd) (s := s) (n := a * x + b) (k := q + q2) (by rw [Int.mul_add]; omega) (by rw [Int.mul_add]; omega)
    rw [Int.mul_add] at e2
    exact decide_eq_decide.mpr (by omega)
  · have e2 := wr_in (w := wd) (s := s) (n := a * x + b) (k := q + q2 + 1) (by rw [Int.mul_add, Int.mul_add]; omega) (by rw [Int.mul_add, Int.mul_add]; omega)
    rw [Int.mul_add, Int.mul_add] at e2
    exact decide_eq_decide.mpr (by omega)
theorem eq_gap {wd : Nat} {s : Bool} {a b c d : Int} (x : Int) : decide (wr wd s (a * x + b) = wr wd s (c * x + d)) = inR (2 ^ wd) 0 0 ((a - c) * x + (b - d)) := by
  have hp := p2 wd
  have hh : hiK wd s = loK wd s + 2 ^ wd - 1 := rfl
  have w0 := wr_lo wd s (c * x + d)
  have w1 := wr_hi wd s (c * x + d)
  have w2 := wr_q wd s (c * x + d)
  have v0 := wr_lo wd s (a * x + b)
  have v1 := wr_hi wd s (a * x + b)
  have v2 := wr_q wd s (a * x + b)
  have u0 := Int.emod_nonneg ((a - c) * x + (b - d) - 0) (Int.ne_of_gt hp)
  have u2 := Int.emod_add_mul_ediv ((a - c) * x + (b - d) - 0) (2 ^ wd)
  have z : (a - c) * x = a * x - c * x := Int.sub_mul _ _ _
  unfold inR
  refine decide_eq_decide.mpr ⟨fun e => ⟨Int.le_refl _, ?_⟩, fun e => ?_⟩
  · generalize (a * x + b - loK wd s) / 2 ^ wd = q1 at *
    generalize (c * x + d - loK wd s) / 2 ^ wd = q2 at *
    rw [emod_is (n := (a - c) * x + (b - d) - 0) (q := q1 - q2) (r := 0) (by rw [Int.mul_sub]; omega) (Int.le_refl _) hp]
    omega
  · generalize ((a - c) * x + (b - d) - 0) / 2 ^ wd = q at *
    have e2 := wr_in (w := wd) (s := s) (n := a * x + b) (k := q + (c * x + d - loK wd s) / 2 ^ wd) (by rw [Int.mul_add]; omega) (by rw [Int.mul_add]; omega)
    rw [Int.mul_add] at e2
    omega

def opp (z : Str) : Str := if z = "<" then ">=" else if z = "<=" then ">" else if z = "==" then "!=" else if z = "!=" then "==" else if z = ">=" then "<" else "<="

theorem rel_opp {z : Str} (h : Rel z) : Rel (opp z) := by
  rcases h with rfl | rfl | rfl | rfl | rfl | rfl
  · rw [show opp "<" = ">=" from by decide +kernel]; exact .inr (.inr (.inr (.inr (.inl rfl))))
  · rw [show opp "<=" = ">" from by decide +kernel]; exact .inr (.inr (.inr (.inr (.inr rfl))))
  · rw [show opp "==" = "!=" from by decide +kernel]; exact .inr (.inr (.inr (.inl rfl)))
  · rw [show opp "!=" = "==" from by decide +kernel]; exact .inr (.inr (.inl rfl))
  · rw [show opp ">=" = "<" from by decide +kernel]; exact .inl rfl
  · rw [show opp ">" = "<=" from by decide +kernel]; exact .inr (.inl rfl)
theorem rel_opp_not {z : Str} (h : Rel z) (y w : Int) : relB (opp z) y w = !relB z y w := by
  rcases h with rfl | rfl | rfl | rfl | rfl | rfl
  · rw [show opp "<" = ">=" from by decide +kernel]; exact rn5 _ _
  · rw [show opp "<=" = ">" from by decide +kernel, rn6, rn25, Bool.not_not]
  · rw [show opp "==" = "!=" from by decide +kernel]; exact rn4 _ _
  · rw [show opp "!=" = "==" from by decide +kernel, rn4, Bool.not_not]
  · rw [show opp ">=" = "<" from by decide +kernel, rn5, Bool.not_not]
  · rw [show opp ">" = "<=" from by decide +kernel, rn6, rn25]
def HitsOf (wd : Nat) (s : Bool) (z : Str) (a b c d e f lo hi : Int) : Prop := (-1 ≤ hi - lo ∧ hi - lo ≤ 2 ^ wd - 1) ∧ ∀ x, cmP wd s z a b c d x = inR (2 ^ wd) lo hi (e * x + f)
theorem hits_not {wd : Nat} {s : Bool} {z : Str} {a b c d e f lo hi : Int} (hz : Rel z) (h : HitsOf wd s (opp z) a b c d e f lo hi) : HitsOf wd s z a b c d e f (hi + 1) (lo + 2 ^ wd - 1) := by
  obtain ⟨⟨h1, h2⟩, hx⟩ := h
  refine ⟨by omega, fun x => ?_⟩
  have e1 := hx x
  unfold cmP at e1 ⊢
  rw [rel_opp_not hz] at e1
  rw [inR_not (p2 wd) h1 h2, ← e1, Bool.not_not]
/-- parts in order -/
structure PartsO (f l : Int) (ps : List (Int × Int)) : Prop where
  cover : ∀ y, f ≤ y → y ≤ l → ∃ r ∈ ps, r.1 ≤ y ∧ y ≤ r.2
  order : ∀ (i j : Nat) (r r' : Int × Int), i < j → ps[i]? = some r → ps[j]? = some r' → r.2 < r'.1
  ins : ∀ r ∈ ps, f ≤ r.1 ∧ r.2 ≤ l
theorem partso1 (f l : Int) : PartsO f l [(f, l)] := by
  refine ⟨fun y h1 h2 => ⟨_, List.mem_singleton.mpr rfl, h1, h2⟩, fun i j r r' h1 h2 h3 => ?_, fun r hr => ?_⟩
  · have := (List.getElem?_eq_some_iff.mp h3).1
    simp at this
    omega
  · rw [List.mem_singleton.mp hr]; exact ⟨Int.le_refl _, Int.le_refl _⟩
theorem partso3 (f l k : Int) : PartsO f l [(f, min l (k - 1)), (max f k, min l k), (max f (k + 1), l)] := by
  refine ⟨fun y h1 h2 => ?_, fun i j r r' h1 h2 h3 => ?_, fun r hr => ?_⟩
  · rcases Int.lt_trichotomy y k with c | c | c
    · exact ⟨_, .head _, h1, by show y ≤ min l (k - 1); omega⟩
    · exact ⟨_, .tail _ (.head _), by show max f k ≤ y; omega, by show y ≤ min l k; omega⟩
    · exact ⟨_, .tail _ (.tail _ (.head _)), by show max f (k + 1) ≤ y; omega, h2⟩
  · have j3 := (List.getElem?_eq_some_iff.mp h3).1
    have j3 : j < 3 := j3
    rcases i with _ | _ | i
    · cases h2
      rcases j with _ | _ | _ | j
      · omega
      · cases h3; show min l (k - 1) < max f k; omega
      · cases h3; show min l (k - 1) < max f (k + 1); omega
      · omega
    · cases h2
      rcases j with _ | _ | _ | j
      · omega
      · omega
      · cases h3; show min l k < max f (k + 1); omega
      · omega
    · omega
  · rcases List.mem_cons.mp hr with rfl | hr
    · exact ⟨Int.le_refl _, by show min l (k - 1) ≤ l; omega⟩
    · rcases List.mem_cons.mp hr with rfl | hr
      · exact ⟨by show f ≤ max f k; omega, by show min l k ≤ l; omega⟩
      · rw [List.mem_singleton.mp hr]
        exact ⟨by show f ≤ max f (k + 1); omega, Int.le_refl _⟩
/-- the parts of a range with the relation that is a surprise there -/
structure PartsW (z : Str) (a b c d f l : Int) (ps : List (Int × Int × Str)) : Prop where
  sum : ∀ p : Int → Bool, (ps.map fun r => tot p r.1 r.2.1).sum = tot p f l
  po : PartsO f l (ps.map fun r => (r.1, r.2.1))
  bb : ∀ r ∈ ps, BB r.1 ∧ BB r.2.1
  rel : ∀ r ∈ ps, Rel r.2.2
  is : ∀ r ∈ ps, ∀ (wd : Nat) (s : Bool) (x : Int), r.1 ≤ x → x ≤ r.2.1 → cmP wd s r.2.2 a b c d x = suP wd s z a b c d x
theorem PartsW.of {z : Str} (hz : Rel z) {a b c d f l : Int} {ps : List (Int × Int)} (h : Parts a b c d f l ps) (o : PartsO f l ps) : PartsW z a b c d f l (ps.map fun r => (r.1, r.2, if relB z (a * r.1 + b) (c * r.1 + d) = true then opp z else z)) := by
  refine ⟨fun p => ?_, ?_, fun r hr => ?_, fun r hr => ?_, fun r hr wd s x x1 x2 => ?_⟩
  · rw [List.map_map]; exact h.sum p
  · rw [List.map_map, show ((fun r : Int × Int × Str => (r.1, r.2.1)) ∘ fun r : Int × Int => (r.1, r.2, if relB z (a * r.1 + b) (c * r.1 + d) = true then opp z else z)) = id from rfl, List.map_id]; exact o
  · obtain ⟨q, hq, rfl⟩ := List.mem_map.mp hr
    exact h.bb q hq
  · obtain ⟨q, hq, rfl⟩ := List.mem_map.mp hr
    dsimp only
    split
    · exact rel_opp hz
    · exact hz
  · obtain ⟨q, hq, rfl⟩ := List.mem_map.mp hr
    dsimp only at x1 x2 ⊢
    have e := rel_sg hz (h.one q hq x x1 x2).1 (h.one q hq x x1 x2).2
    unfold suP
    rw [e]
    cases relB z (a * q.1 + b) (c * q.1 + d) with
    | true =>
      rw [if_pos rfl]
      unfold cmP
      rw [rel_opp_not hz]
      cases relB z (wr wd s (a * x + b)) (wr wd s (c * x + d)) <;> rfl
    | false =>
      rw [if_neg Bool.false_ne_true]
      cases cmP wd s z a b c d x <;> rfl
theorem PartsW.total {z : Str} {a b c d f l : Int} {ps : List (Int × Int × Str)} (h : PartsW z a b c d f l ps) (wd : Nat) (s : Bool) : (ps.map fun r => tot (cmP wd s r.2.2 a b c d) r.1 r.2.1).sum = tot (suP wd s z a b c d) f l := by
  rw [← h.sum]
  congr 1
  exact List.map_congr_left fun r hr => tot_congr fun x x1 x2 => h.is r hr wd s x x1 x2
theorem PartsW.first {z : Str} {a b c d f l : Int} {ps : List (Int × Int × Str)} (h : PartsW z a b c d f l ps) (wd : Nat) (s : Bool) {i : Nat} {r : Int × Int × Str} (hi : ps[i]? = some r) (h0 : ∀ j r', j < i → ps[j]? = some r' → tot (cmP wd s r'.2.2 a b c d) r'.1 r'.2.1 = 0) {x : Int} (hx : FirstOf (cmP wd s r.2.2 a b c d) r.1 r.2.1 (.int x)) : FirstOf (suP wd s z a b c d) f l (.int x) := by
  rcases hx with ⟨e, _⟩ | ⟨y, e, x1, x2, px, x3⟩
  · cases e
  cases e
  have rm := List.mem_of_getElem? hi
  have hin := h.po.ins _ (List.mem_map.mpr ⟨r, rm, rfl⟩)
  have hin : f ≤ r.1 ∧ r.2.1 ≤ l := hin
  refine .inr ⟨x, rfl, by omega, by omega, by rw [← h.is r rm wd s x x1 x2]; exact px, tot_zero_iff.mpr fun y y1 y2 => ?_⟩
  obtain ⟨q, hq, q1, q2⟩ := h.po.cover y y1 (by omega)
  obtain ⟨r', hr', rfl⟩ := List.mem_map.mp hq
  have q1 : r'.1 ≤ y := q1
  have q2 : y ≤ r'.2.1 := q2
  rw [← h.is r' hr' wd s y q1 q2]
  obtain ⟨j, hj⟩ := List.mem_iff_getElem?.mp hr'
  rcases Nat.lt_trichotomy j i with c | c | c
  · exact tot_zero_iff.mp (h0 j r' c hj) y q1 q2
  · rw [c, hi] at hj
    cases hj
    exact tot_zero_iff.mp x3 y q1 (by omega)
  · have := h.po.order i j (r.1, r.2.1) (r'.1, r'.2.1) c (by rw [List.getElem?_map, hi]; rfl) (by rw [List.getElem?_map, hj]; rfl)
    have this : r.2.1 < r'.1 := this
    omega
theorem PartsW.none {z : Str} {a b c d f l : Int} {ps : List (Int × Int × Str)} (h : PartsW z a b c d f l ps) (wd : Nat) (s : Bool) (h0 : ∀ j r', j < ps.length → ps[j]? = some r' → tot (cmP wd s r'.2.2 a b c d) r'.1 r'.2.1 = 0) : FirstOf (suP wd s z a b c d) f l .non := by
  refine .inl ⟨rfl, tot_zero_iff.mpr fun y y1 y2 => ?_⟩
  obtain ⟨q, hq, q1, q2⟩ := h.po.cover y y1 y2
  obtain ⟨r', hr', rfl⟩ := List.mem_map.mp hq
  rw [← h.is r' hr' wd s y q1 q2]
  obtain ⟨j, hj⟩ := List.mem_iff_getElem?.mp hr'
  exact tot_zero_iff.mp (h0 j r' (List.getElem?_eq_some_iff.mp hj).1 hj) y q1 q2
def spT2 (TS : List (Addr × Str)) (H : Hp) (p : Int → Bool) (first last : Int) : Sp := fun vs H' Q _ => ∃ u v : Int, vs = [.int u, .int v] ∧ first ≤ u ∧ v ≤ last ∧ u ≤ v ∧ Sm TS H H' ∧ ∀ H'', Sm TS H' H'' → Q (.int (tot p u v)) H''
theorem guess_lt {W M J : Int} (hM : 1 ≤ M) (hW : M ≤ W) (h0 : 0 ≤ J) (h1 : J < M) : 0 ≤ W * (2 * J + 1) / (2 * M) ∧ W * (2 * J + 1) / (2 * M) < W := by
  refine ⟨Int.ediv_nonneg (Int.mul_nonneg (by omega) (by omega)) (by omega), ?_⟩
  refine (Int.ediv_lt_iff_lt_mul (by omega)).mpr ?_
  exact Int.mul_lt_mul_of_pos_left (by omega) (by omega)

theorem w_iRng3j {σ : L2.St} {H : Hp} {ta : TA} {R : It → Hp → Prop} (q : ta σ H fun vs H1 => ∃ (i j c : Int) (n : Nat), vs = [.int i, .int j, .int c] ∧ RgC i j c n ∧ R (Itc i c n) H1) : iRng3 ta σ H R := q
/-- the families of a row of pairs -/
def SetOf (H : Hp) (rs : List V) : Fam := fun f e => ∃ q : Addr, V.ref q ∈ rs ∧ H q = some (.tup [.int f, .int (e : Int)])
/-- a row holds just these families -/
def FamOf (H : Hp) (rs : List V) (S : Fam) : Prop :=
  (∀ r ∈ rs, ∃ (q : Addr) (f : Int) (e : Nat), r = .ref q ∧ H q = some (.tup [.int f, .int (e : Int)]) ∧ S f e) ∧ ∀ f e, S f e → ∃ q : Addr, V.ref q ∈ rs ∧ H q = some (.tup [.int f, .int (e : Int)])
theorem bits_pow (k : Nat) : PySem.Builtin.Int.intBits (2 ^ k) = k + 1 := by
  unfold PySem.Builtin.Int.intBits
  have e : ((2 : Int) ^ k).natAbs = 2 ^ k := by rw [Int.natAbs_pow]; rfl
  have n : ¬ (((2 : Int) ^ k == 0) = true) := by
    have := p2 k
    simp only [beq_iff_eq]; omega
  rw [if_neg n, e, Nat.log2_two_pow]
theorem two_ex : ∀ (n : Nat) (x : Int), x.natAbs ≤ n → x ≠ 0 → ∃ (k : Nat) (a : Int), x = 2 ^ k * (2 * a + 1)
  | 0, x, h, hx => absurd (by omega) hx
  | n + 1, x, h, hx => by
    by_cases e : x % 2 = 0
    · obtain ⟨k, a, q⟩ := two_ex n (x / 2) (by omega) (by omega)
      refine ⟨k + 1, a, ?_⟩
      rw [g2S, Int.mul_assoc, ← q]; omega
    · exact ⟨0, x / 2, by rw [Int.pow_zero]; omega⟩
theorem wr_cong {w : Nat} {s : Bool} {a b : Int} (h : a % 2 ^ w = b % 2 ^ w) : wr w s a = wr w s b := by
  unfold wr
  have e : (a - loK w s) % 2 ^ w = (b - loK w s) % 2 ^ w := by rw [Int.sub_emod, h, ← Int.sub_emod]
  rw [e]

/-- an object that is a node -/
def NdAt (H : Hp) (q : Addr) (f : Int) (k : Nat) (cs : List Int) (l : Nat) : Prop := ∃ D : Addr, H q = some (.tup [.int f, .int (k : Int), .ref D, .int (l : Int)]) ∧ H D = some (.lst (cs.map V.int))
theorem NdAt.same {H H' : Hp} {q : Addr} {f : Int} {k l : Nat} {cs : List Int} (h : NdAt H q f k cs l) (s : Same H H') : NdAt H' q f k cs l := by
  obtain ⟨D, a, b⟩ := h
  exact ⟨D, s _ _ a, s _ _ b⟩
/-- a list of nodes -/
inductive NdL (H : Hp) : List V → List Nd → Prop
  | nil : NdL H [] []
  | cons {q : Addr} {n : Nd} {rs : List V} {ns : List Nd} : NdAt H q n.f n.k n.cs n.l → NdL H rs ns → NdL H (.ref q :: rs) (n :: ns)
theorem NdL.same {H H' : Hp} {rs : List V} {ns : List Nd} (h : NdL H rs ns) (s : Same H H') : NdL H' rs ns := by
  induction h with
  | nil => exact .nil
  | cons h _ ih => exact .cons (h.same s) ih
theorem NdL.len {H : Hp} {rs : List V} {ns : List Nd} (h : NdL H rs ns) : rs.length = ns.length := by
  induction h with
  | nil => rfl
  | cons _ _ ih => rw [List.length_cons, List.length_cons, ih]
theorem NdL.app {H : Hp} {rs rs' : List V} {ns ns' : List Nd} (h : NdL H rs ns) (g : NdL H rs' ns') : NdL H (rs ++ rs') (ns ++ ns') := by
  induction h with
  | nil => exact g
  | cons h _ ih => exact .cons h ih
theorem NdL.get {H : Hp} {rs : List V} {ns : List Nd} (h : NdL H rs ns) : ∀ {i : Nat} {x : V}, rs[i]? = some x → ∃ (q : Addr) (n : Nd), x = .ref q ∧ NdAt H q n.f n.k n.cs n.l ∧ ns[i]? = some n := by
  induction h with
  | nil => intro i x h; cases h
  | @cons q n _ _ h _ ih =>
    intro i x hx
    cases i with
    | zero => exact ⟨q, n, (Option.some.inj hx).symm, h, rfl⟩
    | succ i => exact ih hx
theorem NdL.noInt {H : Hp} {rs : List V} {ns : List Nd} {n : Nd} (h : NdL H rs ns) (hn : n ∈ ns) (cs : List Int) : rs ≠ cs.map V.int := by
  cases h with
  | nil => cases hn
  | cons _ _ =>
    cases cs with
    | nil => intro z; cases z
    | cons c cs => intro z; cases (List.cons.inj z).1
/-- what is kept but for a list whose values are refs to other objects -/
theorem NdL.keepL {H H' : Hp} {rs : List V} {ns : List Nd} {R : Addr} {out : List V} (h : NdL H rs ns) (hR : H R = some (.lst out)) (old : ∀ b o, H b = some o → b ≠ R → H' b = some o) (no : ∀ n ∈ ns, out ≠ n.cs.map V.int) : NdL H' rs ns := by
  induction h with
  | nil => exact .nil
  | @cons q n _ _ h _ ih =>
    obtain ⟨D, a, b⟩ := h
    refine .cons ⟨D, old _ _ a (fun z => by rw [z, hR] at a; cases a), old _ _ b (fun z => ?_)⟩ (ih fun m hm => no m (List.mem_cons_of_mem _ hm))
    rw [z, hR] at b
    exact no n List.mem_cons_self (HO.lst.inj (Option.some.inj b))
/-- the twos of the nonzero -/
def TwosOf (cs js : List Int) : Prop := (∀ c ∈ cs, c ≠ 0 → ∃ (j : Nat) (a : Int), (j : Int) ∈ js ∧ c = 2 ^ j * (2 * a + 1)) ∧ ∀ j ∈ js, ∃ (i : Nat) (a c : Int), j = (i : Int) ∧ c ∈ cs ∧ c = 2 ^ i * (2 * a + 1)
theorem twos_min {cs js : List Int} {m : Int} (t : TwosOf cs js) (hm : m ∈ js) (hl : ∀ y ∈ js, m ≤ y) : ∃ s : Nat, m = (s : Int) ∧ (∀ c ∈ cs, (2 : Int) ^ s ∣ c) ∧ ∃ c ∈ cs, ¬ (2 : Int) ^ (s + 1) ∣ c := by
  obtain ⟨i, a, c, rfl, hc, e⟩ := t.2 m hm
  refine ⟨i, rfl, fun d hd => ?_, c, hc, fun z => ?_⟩
  · by_cases d0 : d = 0
    · rw [d0]; exact Int.dvd_zero _
    · obtain ⟨j, b, hj, e2⟩ := t.1 d hd d0
      have := hl _ hj
      rw [e2]
      exact Int.dvd_trans (gpp (by omega)) (Int.dvd_mul_right _ _)
  · obtain ⟨q, hq⟩ := z
    rw [e, Int.pow_succ, Int.mul_assoc] at hq
    have := Int.eq_of_mul_eq_mul_left (Int.ne_of_gt (gpos i)) hq
    omega

theorem NdL.keepO {H H' : Hp} {rs : List V} {ns : List Nd} {R : Addr} {out : List V} (h : NdL H rs ns) (hR : H R = some (.lst out)) (ho : ∀ i : Int, out[0]? ≠ some (.int i)) (hc : ∀ n ∈ ns, 1 ≤ n.cs.length) (old : ∀ b o, b ≠ R → H b = some o → H' b = some o) : NdL H' rs ns := by
  induction h with
  | nil => exact .nil
  | @cons q n _ _ h _ ih =>
    obtain ⟨D, a, b⟩ := h
    refine .cons ⟨D, old _ _ (fun z => by rw [z, hR] at a; cases a) a, old _ _ (fun z => ?_) b⟩ (ih fun m hm => hc m (List.mem_cons_of_mem _ hm))
    rw [z, hR] at b
    have e := HO.lst.inj (Option.some.inj b)
    have l := hc n List.mem_cons_self
    cases ec : n.cs with
    | nil => rw [ec] at l; simp at l
    | cons c cs => exact ho c (by rw [e, ec]; rfl)
theorem NdL.noHead {H : Hp} {rs : List V} {ns : List Nd} (h : NdL H rs ns) (i : Int) : rs[0]? ≠ some (.int i) := by
  cases h with
  | nil => intro z; cases z
  | cons _ _ => intro z; cases z
theorem PRow.noHead {H : Hp} {rs : List V} {fl : FL} (h : PRow H rs fl) (i : Int) : rs[0]? ≠ some (.int i) := by
  cases h with
  | nil => intro z; cases z
  | cons _ _ => intro z; cases z
theorem PRow.keepO {H H' : Hp} {rs : List V} {fl : FL} {R : Addr} {out : List V} (h : PRow H rs fl) (hR : H R = some (.lst out)) (old : ∀ b o, b ≠ R → H b = some o → H' b = some o) : PRow H' rs fl := h.keep fun q f e hq => old _ _ (fun z => by rw [z, hR] at hq; cases hq) hq
theorem RInv.cl {bits K : Nat} {P : List Int} {fl : FL} {bl ns : List Nd} (r : RInv bits P K fl bl ns) (h : 1 ≤ P.length) : (∀ n ∈ bl, 1 ≤ n.cs.length) ∧ ∀ n ∈ ns, 1 ≤ n.cs.length := ⟨fun n hn => by rw [(r.okb n hn).1.len]; exact h, fun n hn => by rw [(r.okn n hn).1.len]; exact h⟩

/-- a root -/
def rtP (w : Nat) (cs : List Int) (x : Int) : Bool := decide ((2 : Int) ^ w ∣ pvl cs x)
theorem FamRow.cnt {H : Hp} {q : Addr} {w : Nat} {cs : List Int} (h : FamRow H q w (fun x => (2 : Int) ^ w ∣ pvl cs x)) : ∃ out fl, H q = some (.lst out) ∧ PRow H out fl ∧ NRow w fl ∧ fl.length ≤ 2000 ∧ ∀ x, (cntF x fl : Int) = if rtP w cs x = true then 1 else 0 := by
  obtain ⟨out, fl, a, b, c, d, e⟩ := h
  exact ⟨out, fl, a, b, c, e, cnt_of c fun x => (d x).trans (by unfold rtP; exact (decide_eq_true_iff).symm)⟩
theorem NRow.few {w : Nat} {fl : FL} (n : NRow w fl) : ∀ p ∈ fl, p.2 ≤ w := fun p hp => (n.nrm.wf p.1 p.2 hp).2.2
def spT3 (TS : List (Addr × Str)) (H : Hp) (p : Int → Bool) (first last : Int) : Sp := fun vs H' Q _ => ∃ u v : Int, vs = [.int u, .int v] ∧ first ≤ u ∧ v ≤ last ∧ u ≤ v + 1 ∧ Sm TS H H' ∧ ∀ H'', Sm TS H' H'' → Q (.int (tot p u v)) H''
theorem PRow.sm {TS : List (Addr × Str)} {H H' : Hp} {rs : List V} {fl : FL} (h : PRow H rs fl) (s : Sm TS H H') : PRow H' rs fl := h.keep fun _ _ _ e => s.at e

def kL : Key := Sum.inr "left"
def kS : Key := Sum.inr "seed"
def kT : Key := Sum.inr "turn"
def jarO (a b c : V) : HO := .dK [(kL, a), (kS, b), (kT, c)]
theorem kLS : kL ≠ kS := by decide +kernel
theorem kLT : kL ≠ kT := by decide +kernel
theorem kST : kS ≠ kT := by decide +kernel
theorem jar_l (a b c : V) : valV [(kL, a), (kS, b), (kT, c)] kL = some a := by simp [valV, List.find?]
theorem jar_s (a b c : V) : valV [(kL, a), (kS, b), (kT, c)] kS = some b := by simp [valV, List.find?, kLS]
theorem jar_t (a b c : V) : valV [(kL, a), (kS, b), (kT, c)] kT = some c := by simp [valV, List.find?, kLT, kST]
theorem put_l (a b c d : V) : putK [(kL, a), (kS, b), (kT, c)] kL d = [(kL, d), (kS, b), (kT, c)] := by simp [putK, kLS.symm, kLT.symm]
theorem put_t (a b c d : V) : putK [(kL, a), (kS, b), (kT, c)] kT d = [(kL, a), (kS, b), (kT, d)] := by simp [putK, kLT, kST]
theorem merge_jar (a b c : V) : mergeK [] [(kL, a), (kS, b), (kT, c)] = [(kL, a), (kS, b), (kT, c)] := by simp [mergeK, putK, kLS, kLT, kST]
def JarAt (H : Hp) (p : Addr) : Prop := ∃ a b c : Int, H p = some (jarO (.int a) (.int b) (.int c))
section
variable {TS : List (Addr × Str)} {p : Addr} {H H1 : Hp}
theorem JarAt.same (h : JarAt H p) (s : Same H H1) : JarAt H1 p := by
  obtain ⟨a, b, c, e⟩ := h
  exact ⟨a, b, c, s _ _ e⟩
theorem JarAt.sm (h : JarAt H p) (s : Sm TS H H1) : JarAt H1 p := by
  obtain ⟨a, b, c, e⟩ := h
  exact ⟨a, b, c, s.at e (by intro ps z; cases z)⟩
theorem JarAt.new {r : Addr} {o : HO} (h : JarAt H p) (k : H r = none) : JarAt (upd H r o) p := h.same (sm_new (Same.refl H) k)
theorem JarAt.ne {q : Addr} (h : JarAt H p) (k : H q = none) : q ≠ p := by
  obtain ⟨a, b, c, e⟩ := h
  exact (ne_of_none e k).symm
theorem JarAt.ne_of {q : Addr} {o : HO} (h : JarAt H p) (k : H q = some o) (t : ∀ kvs, o ≠ .dK kvs := by intro kvs z; cases z) : q ≠ p := by
  obtain ⟨a, b, c, e⟩ := h
  exact L2.ne_of k e (t _)
theorem Kp.toJ (a : Kp p H H1) (j : JarAt H p) : Kq TS p H H1 := by
  obtain ⟨x, y, z, hp⟩ := j
  refine ⟨fun q o n h _ => a q o n h, fun t b hb => ?_⟩
  obtain ⟨ps, a1, a2, a3⟩ := t b hb
  refine ⟨ps, a _ _ (L2.ne_of a1 hp (by intro z; cases z)) a1, a2, fun pos cv e => ?_⟩
  obtain ⟨c, e1, e2⟩ := a3 pos cv e
  exact ⟨c, e1, a _ _ (L2.ne_of e2 hp (by unfold LamX.CodeO; intro z; cases z)) e2⟩
end
/-- what a draw leaves -/
abbrev JK (p : Addr) (H H' : Hp) : Prop := Kp p H H' ∧ JarAt H' p
theorem w_dputJ {σ : L2.St} {H : Hp} {D : Ends} {td ty tv : TE} (q : tv σ H fun v H1 => td σ H1 fun x H2 => ty σ H2 fun y H3 => ∃ a H4, x = .ref a ∧ DPut H3 a y v H4 ∧ D.nx σ H4) : sDPut td ty tv D σ H := q

/-- a list object of ints, so many, no greater than M -/
def IntsB (H : Hp) (q : Addr) (lo hi M : Nat) : Prop := ∃ cs : List Int, H q = some (.lst (cs.map V.int)) ∧ lo ≤ cs.length ∧ cs.length ≤ hi ∧ ∀ c ∈ cs, c.natAbs ≤ M
theorem IntsB.same {H H' : Hp} {q : Addr} {lo hi M : Nat} (h : IntsB H q lo hi M) (s : Same H H') : IntsB H' q lo hi M := by
  obtain ⟨cs, a, b⟩ := h
  exact ⟨cs, s _ _ a, b⟩
theorem IntsB.kp {H H' : Hp} {q p : Addr} {lo hi M : Nat} (h : IntsB H q lo hi M) (j : JarAt H p) (s : Kp p H H') : IntsB H' q lo hi M := by
  obtain ⟨cs, a, b⟩ := h
  exact ⟨cs, s _ _ (j.ne_of a) a, b⟩
theorem set_bound {M : Nat} {cs : List Int} {i : Nat} {v : Int} (h : ∀ c ∈ cs, c.natAbs ≤ M) (hv : v.natAbs ≤ M) : ∀ c ∈ cs.set i v, c.natAbs ≤ M := fun c hc => by
  rcases List.mem_or_eq_of_mem_set hc with z | z
  · exact h c z
  · rw [z]; exact hv

theorem pv_set (x v : Int) : ∀ (es : List Int) (i : Nat) (h : i < es.length), pvl (es.set i (es[i] + v)) x = pvl es x + v * x ^ i
  | e :: es, 0, _ => by
    show e + v + x * pvl es x = e + x * pvl es x + v * x ^ 0
    rw [Int.pow_zero, Int.mul_one]; omega
  | e :: es, i + 1, h => by
    have ih := pv_set x v es i (by simpa using h)
    show e + x * pvl (es.set i (es[i]'(by simpa using h) + v)) x = e + x * pvl es x + v * x ^ (i + 1)
    rw [ih, Int.pow_succ]
    generalize pvl es x = A
    generalize x ^ i = B
    grind
theorem pv_take {cs : List Int} {i : Nat} {c : Int} (h : cs[i]? = some c) (x : Int) : pvl (cs.take (i + 1)) x = pvl (cs.take i) x + c * x ^ i := by
  have il := (List.getElem?_eq_some_iff.mp h).1
  rw [List.take_succ, h, pv_append]
  show _ + x ^ (cs.take i).length * (c + x * 0) = _
  rw [List.length_take, Nat.min_eq_left (by omega), Int.mul_zero, Int.add_zero, Int.mul_comm]
theorem pv_zeros (x : Int) : ∀ n : Nat, pvl (List.replicate n 0) x = 0
  | 0 => rfl
  | n + 1 => by show 0 + x * pvl (List.replicate n 0) x = 0; rw [pv_zeros x n, Int.mul_zero]; rfl

/-- two polynomials are unlike at x -/
def unP (w : Nat) (cs ds : List Int) (x : Int) : Bool := !rtP w (difL cs ds) x
theorem unP_iff {w : Nat} {cs ds : List Int} {x : Int} : unP w cs ds x = true ↔ ¬ (2 : Int) ^ w ∣ pvl cs x - pvl ds x := by
  unfold unP rtP
  rw [pv_difL, Bool.not_eq_true', decide_eq_false_iff_not]
def UnV (w : Nat) (cs ds : List Int) (v : V) : Prop := (v = .non ∧ ∀ x, unP w cs ds x = false) ∨ ∃ n : Nat, v = .int n ∧ n < 9 ∧ unP w cs ds n = true ∧ ∀ i : Nat, i < n → unP w cs ds i = false
theorem unP_wr {w : Nat} {s : Bool} {cs ds : List Int} {x : Int} : (!decide (wr w s (pvl cs x) = wr w s (pvl ds x))) = unP w cs ds x := by
  unfold unP rtP
  rw [pv_difL]
  congr 1
  exact decide_eq_decide.mpr ((wr_eq_iff w s _ _).trans ⟨Int.dvd_of_emod_eq_zero, Int.emod_eq_zero_of_dvd⟩)
theorem UnV.opt {w : Nat} {cs ds : List Int} {v : V} (h : UnV w cs ds v) : v = .non ∨ ∃ i, v = .int i := by
  rcases h with ⟨h, _⟩ | ⟨n, h, _⟩
  · exact .inl h
  · exact .inr ⟨_, h⟩

/-- asked for one range alone -/
def spO (TS : List (Addr × Str)) (H : Hp) (first last t : Int) : Sp := fun vs H' Q _ => vs = [.int first, .int last] ∧ Sm TS H H' ∧ ∀ H'', Sm TS H' H'' → Q (.int t) H''

theorem rep_flat (k : Nat) : (List.replicate k [V.int 0]).flatten = (List.replicate k (0 : Int)).map V.int := by
  induction k with
  | zero => rfl
  | succ k ih => rw [List.replicate_succ, List.flatten_cons, ih, List.replicate_succ]; rfl
/-- filled up to nine -/
def pad9 (cs : List Int) : List Int := cs ++ List.replicate (9 - (cs.length : Int)).toNat 0
theorem pad9_len {cs : List Int} (h : cs.length ≤ 9) : (pad9 cs).length = 9 := by unfold pad9; rw [List.length_append, List.length_replicate]; omega
theorem pad9_b {cs : List Int} {A : Nat} (h : ∀ c ∈ cs, c.natAbs ≤ A) : ∀ c ∈ pad9 cs, c.natAbs ≤ A := fun c hc => by
  unfold pad9 at hc
  rcases List.mem_append.mp hc with z | z
  · exact h c z
  · rw [List.eq_of_mem_replicate z]; exact Nat.zero_le _

theorem pv_pad9 (cs : List Int) (x : Int) : pvl (pad9 cs) x = pvl cs x := by unfold pad9; rw [pv_append, pv_zeros, Int.mul_zero, Int.add_zero]
theorem pv_zw (x sg : Int) : ∀ as bs : List Int, as.length = bs.length → pvl (List.zipWith (fun c d => c + sg * d) as bs) x = pvl as x + sg * pvl bs x
  | [], [], _ => by show (0 : Int) = 0 + sg * 0; rw [Int.mul_zero]; rfl
  | [], b :: bs, h => by cases h
  | a :: as, [], h => by cases h
  | a :: as, b :: bs, h => by
    show (a + sg * b) + x * pvl (List.zipWith _ as bs) x = (a + x * pvl as x) + sg * (b + x * pvl bs x)
    rw [pv_zw x sg as bs (by simpa using h)]
    generalize pvl as x = A
    generalize pvl bs x = B
    grind
theorem pv_mr (s x : Int) : ∀ cs : List Int, pvl (cs.map fun c => c * s) x = s * pvl cs x
  | [] => by show (0 : Int) = s * 0; rw [Int.mul_zero]
  | c :: cs => by
    show c * s + x * pvl (cs.map fun c => c * s) x = s * (c + x * pvl cs x)
    rw [pv_mr s x cs]
    generalize pvl cs x = A
    grind
theorem tw_tbl : ∀ i : Nat, i < 8 → ([0, 1, 0, 2, 0, 1, 0, 3] : List Int)[i]? = some ((twT (i + 1) : Int) - (twT i : Int)) := by
  have h : ∀ i : Fin 8, ([0, 1, 0, 2, 0, 1, 0, 3] : List Int)[i.val]? = some ((twT (i.val + 1) : Int) - (twT i.val : Int)) := by decide +kernel
  exact fun i hi => h ⟨i, hi⟩
def NB : Nat := 200 ^ 8 * (2 ^ 128 * 199)
structure Txt (K : PySem.W.Frag) (mg : Str → Option Value) where
  tabs : List (Addr × Str)
  C_Kind : Addr
  cl_Kind : Cls K C_Kind
  g_Kind : mg "Kind" = some (.ref C_Kind)
  na_Kind_bits : NoAttr K C_Kind "bits"
  na_Kind_is_signed : NoAttr K C_Kind "is_signed"
  ia_Kind : PySem.W.findIn K (.ref C_Kind) "__class__" = some (some (.builtin "object.__class__"))
  ib_Kind : PySem.W.specialIn K (.builtin "object.__class__") "__get__" = some (some (.builtin "getset_descriptor.__get__"))
  ic_Kind : PySem.W.takesIn K (.builtin "object.__class__") = some true
  id_Kind : PySem.W.mroIn K C_Kind (.type "object") = some true
  f_joined : Addr
  fd_joined : FuncData
  F_joined : Fun K "joined" "joined" s_joined f_joined fd_joined
  b_joined : Binds K fd_joined ["families", "bits"] []
  g_joined : mg "joined" = some (.ref f_joined)
  k_joined : PySem.W.keepIn K (.ref f_joined) = true
  f_family_size : Addr
  fd_family_size : FuncData
  F_family_size : Fun K "family_size" "family_size" s_family_size f_family_size fd_family_size
  b_family_size : Binds K fd_family_size ["family", "bits"] []
  g_family_size : mg "family_size" = some (.ref f_family_size)
  k_family_size : PySem.W.keepIn K (.ref f_family_size) = true
  f_total_size : Addr
  fd_total_size : FuncData
  F_total_size : Fun K "total_size" "total_size" s_total_size f_total_size fd_total_size
  b_total_size : Binds K fd_total_size ["families", "bits"] []
  g_total_size : mg "total_size" = some (.ref f_total_size)
  k_total_size : PySem.W.keepIn K (.ref f_total_size) = true
  f_total_inside : Addr
  fd_total_inside : FuncData
  F_total_inside : Fun K "total_inside" "total_inside" s_total_inside f_total_inside fd_total_inside
  b_total_inside : Binds K fd_total_inside ["families", "first", "last"] []
  g_total_inside : mg "total_inside" = some (.ref f_total_inside)
  k_total_inside : PySem.W.keepIn K (.ref f_total_inside) = true
  f_is_integer : Addr
  fd_is_integer : FuncData
  F_is_integer : Fun K "is_integer" "is_integer" s_is_integer f_is_integer fd_is_integer
  b_is_integer : Binds K fd_is_integer ["value"] []
  g_is_integer : mg "is_integer" = some (.ref f_is_integer)
  k_is_integer : PySem.W.keepIn K (.ref f_is_integer) = true
  f_check_integer : Addr
  fd_check_integer : FuncData
  F_check_integer : Fun K "check_integer" "check_integer" s_check_integer f_check_integer fd_check_integer
  b_check_integer : Binds K fd_check_integer ["value", "argument"] []
  g_check_integer : mg "check_integer" = some (.ref f_check_integer)
  k_check_integer : PySem.W.keepIn K (.ref f_check_integer) = true
  f_is_sixty_digits : Addr
  fd_is_sixty_digits : FuncData
  F_is_sixty_digits : Fun K "is_sixty_digits" "is_sixty_digits" s_is_sixty_digits f_is_sixty_digits fd_is_sixty_digits
  b_is_sixty_digits : Binds K fd_is_sixty_digits ["value"] []
  g_is_sixty_digits : mg "is_sixty_digits" = some (.ref f_is_sixty_digits)
  k_is_sixty_digits : PySem.W.keepIn K (.ref f_is_sixty_digits) = true
  f_is_count : Addr
  fd_is_count : FuncData
  F_is_count : Fun K "is_count" "is_count" s_is_count f_is_count fd_is_count
  b_is_count : Binds K fd_is_count ["value"] []
  g_is_count : mg "is_count" = some (.ref f_is_count)
  k_is_count : PySem.W.keepIn K (.ref f_is_count) = true
  f_check_number : Addr
  fd_check_number : FuncData
  F_check_number : Fun K "check_number" "check_number" s_check_number f_check_number fd_check_number
  b_check_number : Binds K fd_check_number ["j", "total"] []
  g_check_number : mg "check_number" = some (.ref f_check_number)
  k_check_number : PySem.W.keepIn K (.ref f_check_number) = true
  f_factors_of_two : Addr
  fd_factors_of_two : FuncData
  F_factors_of_two : Fun K "factors_of_two" "factors_of_two" s_factors_of_two f_factors_of_two fd_factors_of_two
  b_factors_of_two : Binds K fd_factors_of_two ["n"] []
  g_factors_of_two : mg "factors_of_two" = some (.ref f_factors_of_two)
  k_factors_of_two : PySem.W.keepIn K (.ref f_factors_of_two) = true
  f_Kind___init__ : Addr
  fd_Kind___init__ : FuncData
  F_Kind___init__ : Fun K "__init__" "Kind.__init__" s_Kind___init__ f_Kind___init__ fd_Kind___init__
  b_Kind___init__ : Binds K fd_Kind___init__ ["self", "bits", "is_signed"] []
  f_check_kind : Addr
  fd_check_kind : FuncData
  F_check_kind : Fun K "check_kind" "check_kind" s_check_kind f_check_kind fd_check_kind
  b_check_kind : Binds K fd_check_kind ["kind"] []
  g_check_kind : mg "check_kind" = some (.ref f_check_kind)
  k_check_kind : PySem.W.keepIn K (.ref f_check_kind) = true
  f_check_value : Addr
  fd_check_value : FuncData
  F_check_value : Fun K "check_value" "check_value" s_check_value f_check_value fd_check_value
  b_check_value : Binds K fd_check_value ["kind", "x", "argument"] []
  g_check_value : mg "check_value" = some (.ref f_check_value)
  k_check_value : PySem.W.keepIn K (.ref f_check_value) = true
  f_least : Addr
  fd_least : FuncData
  F_least : Fun K "least" "least" s_least f_least fd_least
  b_least : Binds K fd_least ["kind"] []
  g_least : mg "least" = some (.ref f_least)
  k_least : PySem.W.keepIn K (.ref f_least) = true
  f_greatest : Addr
  fd_greatest : FuncData
  F_greatest : Fun K "greatest" "greatest" s_greatest f_greatest fd_greatest
  b_greatest : Binds K fd_greatest ["kind"] []
  g_greatest : mg "greatest" = some (.ref f_greatest)
  k_greatest : PySem.W.keepIn K (.ref f_greatest) = true
  f_is_value : Addr
  fd_is_value : FuncData
  F_is_value : Fun K "is_value" "is_value" s_is_value f_is_value fd_is_value
  b_is_value : Binds K fd_is_value ["kind", "x"] []
  g_is_value : mg "is_value" = some (.ref f_is_value)
  k_is_value : PySem.W.keepIn K (.ref f_is_value) = true
  f_wrapped : Addr
  fd_wrapped : FuncData
  F_wrapped : Fun K "wrapped" "wrapped" s_wrapped f_wrapped fd_wrapped
  b_wrapped : Binds K fd_wrapped ["kind", "n"] []
  g_wrapped : mg "wrapped" = some (.ref f_wrapped)
  k_wrapped : PySem.W.keepIn K (.ref f_wrapped) = true
  f_wanted_at : Addr
  fd_wanted_at : FuncData
  F_wanted_at : Fun K "wanted_at" "wanted_at" s_wanted_at f_wanted_at fd_wanted_at
  b_wanted_at : Binds K fd_wanted_at ["total", "first", "last", "j"] []
  g_wanted_at : mg "wanted_at" = some (.ref f_wanted_at)
  k_wanted_at : PySem.W.keepIn K (.ref f_wanted_at) = true
  f_wanted_of : Addr
  fd_wanted_of : FuncData
  F_wanted_of : Fun K "wanted_of" "wanted_of" s_wanted_of f_wanted_of fd_wanted_of
  b_wanted_of : Binds K fd_wanted_of ["total", "first", "last", "many", "j"] []
  g_wanted_of : mg "wanted_of" = some (.ref f_wanted_of)
  k_wanted_of : PySem.W.keepIn K (.ref f_wanted_of) = true
  f_is_polynomial : Addr
  fd_is_polynomial : FuncData
  F_is_polynomial : Fun K "is_polynomial" "is_polynomial" s_is_polynomial f_is_polynomial fd_is_polynomial
  b_is_polynomial : Binds K fd_is_polynomial ["value"] []
  g_is_polynomial : mg "is_polynomial" = some (.ref f_is_polynomial)
  k_is_polynomial : PySem.W.keepIn K (.ref f_is_polynomial) = true
  f_check_polynomial : Addr
  fd_check_polynomial : FuncData
  F_check_polynomial : Fun K "check_polynomial" "check_polynomial" s_check_polynomial f_check_polynomial fd_check_polynomial
  b_check_polynomial : Binds K fd_check_polynomial ["kind", "polynomial"] []
  g_check_polynomial : mg "check_polynomial" = some (.ref f_check_polynomial)
  k_check_polynomial : PySem.W.keepIn K (.ref f_check_polynomial) = true
  f__value : Addr
  fd__value : FuncData
  F__value : Fun K "_value" "_value" s__value f__value fd__value
  b__value : Binds K fd__value ["polynomial", "x", "size"] []
  g__value : mg "_value" = some (.ref f__value)
  k__value : PySem.W.keepIn K (.ref f__value) = true
  f_value_at : Addr
  fd_value_at : FuncData
  F_value_at : Fun K "value_at" "value_at" s_value_at f_value_at fd_value_at
  b_value_at : Binds K fd_value_at ["kind", "polynomial", "x"] []
  g_value_at : mg "value_at" = some (.ref f_value_at)
  k_value_at : PySem.W.keepIn K (.ref f_value_at) = true
  f__one_behind : Addr
  fd__one_behind : FuncData
  F__one_behind : Fun K "_one_behind" "_one_behind" s__one_behind f__one_behind fd__one_behind
  b__one_behind : Binds K fd__one_behind ["polynomial"] []
  g__one_behind : mg "_one_behind" = some (.ref f__one_behind)
  k__one_behind : PySem.W.keepIn K (.ref f__one_behind) = true
  f__doubled : Addr
  fd__doubled : FuncData
  F__doubled : Fun K "_doubled" "_doubled" s__doubled f__doubled fd__doubled
  b__doubled : Binds K fd__doubled ["polynomial"] []
  g__doubled : mg "_doubled" = some (.ref f__doubled)
  k__doubled : PySem.W.keepIn K (.ref f__doubled) = true
  f__halves : Addr
  fd__halves : FuncData
  F__halves : Fun K "_halves" "_halves" s__halves f__halves fd__halves
  b__halves : Binds K fd__halves ["node"] []
  g__halves : mg "_halves" = some (.ref f__halves)
  k__halves : PySem.W.keepIn K (.ref f__halves) = true
  f_root_families : Addr
  fd_root_families : FuncData
  F_root_families : Fun K "root_families" "root_families" s_root_families f_root_families fd_root_families
  b_root_families : Binds K fd_root_families ["polynomial", "bits"] []
  g_root_families : mg "root_families" = some (.ref f_root_families)
  k_root_families : PySem.W.keepIn K (.ref f_root_families) = true
  f_roots : Addr
  fd_roots : FuncData
  F_roots : Fun K "roots" "roots" s_roots f_roots fd_roots
  b_roots : Binds K fd_roots ["kind", "polynomial"] []
  g_roots : mg "roots" = some (.ref f_roots)
  k_roots : PySem.W.keepIn K (.ref f_roots) = true
  f_root_total : Addr
  fd_root_total : FuncData
  F_root_total : Fun K "root_total" "root_total" s_root_total f_root_total fd_root_total
  b_root_total : Binds K fd_root_total ["kind", "polynomial"] []
  g_root_total : mg "root_total" = some (.ref f_root_total)
  k_root_total : PySem.W.keepIn K (.ref f_root_total) = true
  f__check_two : Addr
  fd__check_two : FuncData
  F__check_two : Fun K "_check_two" "_check_two" s__check_two f__check_two fd__check_two
  b__check_two : Binds K fd__check_two ["kind", "one", "other"] []
  g__check_two : mg "_check_two" = some (.ref f__check_two)
  k__check_two : PySem.W.keepIn K (.ref f__check_two) = true
  f__check_range : Addr
  fd__check_range : FuncData
  F__check_range : Fun K "_check_range" "_check_range" s__check_range f__check_range fd__check_range
  b__check_range : Binds K fd__check_range ["kind", "one", "other", "first", "last"] []
  g__check_range : mg "_check_range" = some (.ref f__check_range)
  k__check_range : PySem.W.keepIn K (.ref f__check_range) = true
  f__first_unlike : Addr
  fd__first_unlike : FuncData
  F__first_unlike : Fun K "_first_unlike" "_first_unlike" s__first_unlike f__first_unlike fd__first_unlike
  b__first_unlike : Binds K fd__first_unlike ["kind", "one", "other"] []
  g__first_unlike : mg "_first_unlike" = some (.ref f__first_unlike)
  k__first_unlike : PySem.W.keepIn K (.ref f__first_unlike) = true
  f_are_alike : Addr
  fd_are_alike : FuncData
  F_are_alike : Fun K "are_alike" "are_alike" s_are_alike f_are_alike fd_are_alike
  b_are_alike : Binds K fd_are_alike ["kind", "one", "other"] []
  g_are_alike : mg "are_alike" = some (.ref f_are_alike)
  k_are_alike : PySem.W.keepIn K (.ref f_are_alike) = true
  f_first_unlike : Addr
  fd_first_unlike : FuncData
  F_first_unlike : Fun K "first_unlike" "first_unlike" s_first_unlike f_first_unlike fd_first_unlike
  b_first_unlike : Binds K fd_first_unlike ["kind", "one", "other"] []
  g_first_unlike : mg "first_unlike" = some (.ref f_first_unlike)
  k_first_unlike : PySem.W.keepIn K (.ref f_first_unlike) = true
  f__alike_families : Addr
  fd__alike_families : FuncData
  F__alike_families : Fun K "_alike_families" "_alike_families" s__alike_families f__alike_families fd__alike_families
  b__alike_families : Binds K fd__alike_families ["kind", "one", "other"] []
  g__alike_families : mg "_alike_families" = some (.ref f__alike_families)
  k__alike_families : PySem.W.keepIn K (.ref f__alike_families) = true
  f__unlike_total : Addr
  fd__unlike_total : FuncData
  F__unlike_total : Fun K "_unlike_total" "_unlike_total" s__unlike_total f__unlike_total fd__unlike_total
  b__unlike_total : Binds K fd__unlike_total ["families", "first", "last"] []
  g__unlike_total : mg "_unlike_total" = some (.ref f__unlike_total)
  k__unlike_total : PySem.W.keepIn K (.ref f__unlike_total) = true
  f_unlike_total : Addr
  fd_unlike_total : FuncData
  F_unlike_total : Fun K "unlike_total" "unlike_total" s_unlike_total f_unlike_total fd_unlike_total
  b_unlike_total : Binds K fd_unlike_total ["kind", "one", "other", "first", "last"] []
  g_unlike_total : mg "unlike_total" = some (.ref f_unlike_total)
  k_unlike_total : PySem.W.keepIn K (.ref f_unlike_total) = true
  f_unlike_at : Addr
  fd_unlike_at : FuncData
  c_unlike_at : Addr
  P_unlike_at : Addr
  F_unlike_at : FunT K "unlike_at" "unlike_at" s_unlike_at f_unlike_at fd_unlike_at c_unlike_at
  mT_unlike_at : (P_unlike_at, ("unlike_at" : Str) ++ ".<locals>." ++ "<lambda>") ∈ tabs
  uT_unlike_at : ∀ p ∈ tabs, p.1 = P_unlike_at → p.2 = ("unlike_at" : Str) ++ ".<locals>." ++ "<lambda>"
  b_unlike_at : Binds K fd_unlike_at ["kind", "one", "other", "first", "last", "j"] []
  g_unlike_at : mg "unlike_at" = some (.ref f_unlike_at)
  k_unlike_at : PySem.W.keepIn K (.ref f_unlike_at) = true
  f__without_zeros : Addr
  fd__without_zeros : FuncData
  F__without_zeros : Fun K "_without_zeros" "_without_zeros" s__without_zeros f__without_zeros fd__without_zeros
  b__without_zeros : Binds K fd__without_zeros ["numbers"] []
  g__without_zeros : mg "_without_zeros" = some (.ref f__without_zeros)
  k__without_zeros : PySem.W.keepIn K (.ref f__without_zeros) = true
  f__divided : Addr
  fd__divided : FuncData
  F__divided : Fun K "_divided" "_divided" s__divided f__divided fd__divided
  b__divided : Binds K fd__divided ["polynomial", "k"] []
  g__divided : mg "_divided" = some (.ref f__divided)
  k__divided : PySem.W.keepIn K (.ref f__divided) = true
  f_normal_form : Addr
  fd_normal_form : FuncData
  F_normal_form : Fun K "normal_form" "normal_form" s_normal_form f_normal_form fd_normal_form
  b_normal_form : Binds K fd_normal_form ["kind", "polynomial"] []
  g_normal_form : mg "normal_form" = some (.ref f_normal_form)
  k_normal_form : PySem.W.keepIn K (.ref f_normal_form) = true
  f__is_form : Addr
  fd__is_form : FuncData
  F__is_form : Fun K "_is_form" "_is_form" s__is_form f__is_form fd__is_form
  b__is_form : Binds K fd__is_form ["value"] []
  g__is_form : mg "_is_form" = some (.ref f__is_form)
  k__is_form : PySem.W.keepIn K (.ref f__is_form) = true
  f_of_form : Addr
  fd_of_form : FuncData
  F_of_form : Fun K "of_form" "of_form" s_of_form f_of_form fd_of_form
  b_of_form : Binds K fd_of_form ["form"] []
  g_of_form : mg "of_form" = some (.ref f_of_form)
  k_of_form : PySem.W.keepIn K (.ref f_of_form) = true
  f__law_jar : Addr
  fd__law_jar : FuncData
  F__law_jar : Fun K "_law_jar" "_law_jar" s__law_jar f__law_jar fd__law_jar
  b__law_jar : Binds K fd__law_jar ["_law_cell"] []
  g__law_jar : mg "_law_jar" = some (.ref f__law_jar)
  k__law_jar : PySem.W.keepIn K (.ref f__law_jar) = true
  f__law_sip : Addr
  fd__law_sip : FuncData
  F__law_sip : Fun K "_law_sip" "_law_sip" s__law_sip f__law_sip fd__law_sip
  b__law_sip : Binds K fd__law_sip ["_law_jar_here", "_law_many"] []
  g__law_sip : mg "_law_sip" = some (.ref f__law_sip)
  k__law_sip : PySem.W.keepIn K (.ref f__law_sip) = true
  f__law_some : Addr
  fd__law_some : FuncData
  F__law_some : Fun K "_law_some" "_law_some" s__law_some f__law_some fd__law_some
  b__law_some : Binds K fd__law_some ["_law_jar_here", "_law_row"] []
  g__law_some : mg "_law_some" = some (.ref f__law_some)
  k__law_some : PySem.W.keepIn K (.ref f__law_some) = true
  f__law_times : Addr
  fd__law_times : FuncData
  F__law_times : Fun K "_law_times" "_law_times" s__law_times f__law_times fd__law_times
  b__law_times : Binds K fd__law_times ["_law_one", "_law_other"] []
  g__law_times : mg "_law_times" = some (.ref f__law_times)
  k__law_times : PySem.W.keepIn K (.ref f__law_times) = true
  f__law_polynomial : Addr
  fd__law_polynomial : FuncData
  F__law_polynomial : Fun K "_law_polynomial" "_law_polynomial" s__law_polynomial f__law_polynomial fd__law_polynomial
  b__law_polynomial : Binds K fd__law_polynomial ["_law_jar_here", "_law_wide"] []
  g__law_polynomial : mg "_law_polynomial" = some (.ref f__law_polynomial)
  k__law_polynomial : PySem.W.keepIn K (.ref f__law_polynomial) = true
  f__law_joined : Addr
  fd__law_joined : FuncData
  F__law_joined : Fun K "_law_joined" "_law_joined" s__law_joined f__law_joined fd__law_joined
  b__law_joined : Binds K fd__law_joined ["_law_one", "_law_other", "_law_sign"] []
  g__law_joined : mg "_law_joined" = some (.ref f__law_joined)
  k__law_joined : PySem.W.keepIn K (.ref f__law_joined) = true
  f__law_nothing : Addr
  fd__law_nothing : FuncData
  F__law_nothing : Fun K "_law_nothing" "_law_nothing" s__law_nothing f__law_nothing fd__law_nothing
  b__law_nothing : Binds K fd__law_nothing ["_law_jar_here", "_law_bits", "_law_less"] []
  g__law_nothing : mg "_law_nothing" = some (.ref f__law_nothing)
  k__law_nothing : PySem.W.keepIn K (.ref f__law_nothing) = true
  f__law_pair_right : Addr
  fd__law_pair_right : FuncData
  F__law_pair_right : Fun K "_law_pair_right" "_law_pair_right" s__law_pair_right f__law_pair_right fd__law_pair_right
  b__law_pair_right : Binds K fd__law_pair_right ["_law_kind", "_law_one", "_law_other"] []
  g__law_pair_right : mg "_law_pair_right" = some (.ref f__law_pair_right)
  k__law_pair_right : PySem.W.keepIn K (.ref f__law_pair_right) = true
  f__law_right : Addr
  fd__law_right : FuncData
  F__law_right : Fun K "_law_right" "_law_right" s__law_right f__law_right fd__law_right
  b__law_right : Binds K fd__law_right ["_law_jar_here", "_law_bits", "_law_is_signed"] []
  g__law_right : mg "_law_right" = some (.ref f__law_right)
  k__law_right : PySem.W.keepIn K (.ref f__law_right) = true
  f_law : Addr
  fd_law : FuncData
  F_law : Fun K "law" "law" s_law f_law fd_law
  b_law : Binds K fd_law ["_law_script"] []
  g_law : mg "law" = some (.ref f_law)
  k_law : PySem.W.keepIn K (.ref f_law) = true
  mk_Kind : Mk K C_Kind f_Kind___init__
  t_BEYOND_SIXTY_DIGITS : Tok
  g_BEYOND_SIXTY_DIGITS : mg "BEYOND_SIXTY_DIGITS" = some (.int 1000000000000000000000000000000000000000000000000000000000000 t_BEYOND_SIXTY_DIGITS)
  t_MOST_BITS : Tok
  g_MOST_BITS : mg "MOST_BITS" = some (.int 128 t_MOST_BITS)
  t_MOST_COEFFICIENTS : Tok
  g_MOST_COEFFICIENTS : mg "MOST_COEFFICIENTS" = some (.int 9 t_MOST_COEFFICIENTS)
  n_abs : mg "abs" = none
  n_all : mg "all" = none
  n_any : mg "any" = none
  n_bool : mg "bool" = none
  n_enumerate : mg "enumerate" = none
  n_int : mg "int" = none
  n_isinstance : mg "isinstance" = none
  n_len : mg "len" = none
  n_list : mg "list" = none
  n_max : mg "max" = none
  n_min : mg "min" = none
  n_range : mg "range" = none
  n_reversed : mg "reversed" = none
  n_sorted : mg "sorted" = none
  n_sum : mg "sum" = none
  n_zip : mg "zip" = none
  g_zip_longest : mg "zip_longest" = some (.type "itertools.zip_longest")
  bl_law : ∀ (s : Shared) (v : Value), BindsTo s fd_law ⟨[v], []⟩ [("_law_script", v)]
structure TBs {K : PySem.W.Frag} {mg : Str → Option Value} (T : Txt K mg) (base : Heap) : Prop where
  tb_unlike_at : LamX.TabB base mg T.c_unlike_at T.P_unlike_at
structure TI {K : PySem.W.Frag} {mg : Str → Option Value} (T : Txt K mg) : Prop where
  eq : T.tabs = [(T.P_unlike_at, ("unlike_at" : Str) ++ ".<locals>." ++ "<lambda>")]
  ti_unlike_at : PySem.W.tabIn K "unlike_at" = some (T.c_unlike_at, T.P_unlike_at)

section
variable {K : PySem.W.Frag} {mg : Str → Option Value} {H : Hp} {Q : VK} {C p : Addr} {wd : Nat} {s : Bool}
theorem w_isi {v : V} {t c : String} {b : Bool} (ty : TyX K H v (.type t)) (e : kitB t c = some b) (q : Q (.bl b) H) : rIsi K [v, .ty c] H Q := ⟨_, _, _, _, b, rfl, .ty c, ty, kit_ty e, q⟩
theorem w_isK (T : Txt K mg) (k : Kd T.C_Kind H p wd s) (q : Q (.bl true) H) : rIsi K [.ref p, .ref T.C_Kind] H Q := by
  obtain ⟨⟨dx, e⟩, _, _⟩ := k
  exact ⟨_, _, _, _, true, rfl, .own _, .base (.ins e T.cl_Kind T.ia_Kind T.ib_Kind T.ic_Kind T.id_Kind), (by unfold PySem.W.kitOne; rw [if_pos (by simp)]), q⟩
theorem w_fb {i : Nat} {σ : L2.St} (T : Txt K mg) (hs : σ[i]? = some (some (.ref p))) (k : Kd T.C_Kind H p wd s) (q : Q (.int (wd : Int)) H) : tFld K (tVar i) "bits" σ H Q := by
  obtain ⟨⟨dx, e⟩, _, _⟩ := k
  exact ⟨_, hs, p, _, dx, _, _, rfl, e, T.cl_Kind, T.na_Kind_bits, kf_bits _ _, q⟩
theorem w_fs {i : Nat} {σ : L2.St} (T : Txt K mg) (hs : σ[i]? = some (some (.ref p))) (k : Kd T.C_Kind H p wd s) (q : Q (.bl s) H) : tFld K (tVar i) "is_signed" σ H Q := by
  obtain ⟨⟨dx, e⟩, _, _⟩ := k
  exact ⟨_, hs, p, _, dx, _, _, rfl, e, T.cl_Kind, T.na_Kind_is_signed, kf_sign _ _, q⟩
end


section
variable {K : PySem.W.Frag} {H : Hp} {σ : L2.St} {Q : VK}
theorem w_iTup {tl : TE} {R : It → Hp → Prop} (q : tl σ H fun x H1 => ∃ a, x = .ref a ∧ (∃ xs, SqT K H1 a xs) ∧ R (Itt K a) H1) : iTup K tl σ H R := q
theorem w_eqD {x y : V} {d e : PyData} (hx : Dp K H x d) (hy : Dp K H y e) (sd : SeqAt.shaped d = true) (se : SeqAt.shaped e = true) (q : Q (.bl (PyData.eqv d e)) H) : rEqD K x y H Q := ⟨d, e, hx, hy, sd, se, q⟩
theorem w_neD {x y : V} {d e : PyData} (hx : Dp K H x d) (hy : Dp K H y e) (sd : SeqAt.shaped d = true) (se : SeqAt.shaped e = true) (q : Q (.bl (!PyData.eqv d e)) H) : rNeD K x y H Q := ⟨d, e, hx, hy, sd, se, q⟩
end

section
variable {K : PySem.W.Frag} {H : Hp} {σ : L2.St} {Q : VK}
theorem w_neL {a b : Addr} {is js : List Int} (ha : H a = some (.lst (is.map V.int))) (hb : H b = some (.lst (js.map V.int))) (q : Q (.bl (!decide (is = js))) H) : rNeD K (.ref a) (.ref b) H Q :=
  ⟨_, _, .lst (SqL.of ha) (dp_ints is), .lst (SqL.of hb) (dp_ints js), shaped_ints is, shaped_ints js, by
    rw [show PyData.eqv (.list (is.map PyData.int)) (.list (js.map PyData.int)) = PyData.eqvAll (is.map PyData.int) (js.map PyData.int) from by simp only [PyData.eqv], eqv_ints]
    exact q⟩
theorem w_eqL {a b : Addr} {is js : List Int} (ha : H a = some (.lst (is.map V.int))) (hb : H b = some (.lst (js.map V.int))) (q : Q (.bl (decide (is = js))) H) : rEqD K (.ref a) (.ref b) H Q :=
  ⟨_, _, .lst (SqL.of ha) (dp_ints is), .lst (SqL.of hb) (dp_ints js), shaped_ints is, shaped_ints js, by
    rw [show PyData.eqv (.list (is.map PyData.int)) (.list (js.map PyData.int)) = PyData.eqvAll (is.map PyData.int) (js.map PyData.int) from by simp only [PyData.eqv], eqv_ints]
    exact q⟩
theorem w_vals {c : Prop} [Decidable c] {ta tb : TE} (R : V → Hp → Prop) (h1 : c → ∀ Q : VK, (∀ x H', R x H' → Q x H') → ta σ H Q) (h2 : ¬ c → ∀ Q : VK, (∀ x H', R x H' → Q x H') → tb σ H Q) (q : ∀ x H', R x H' → Q x H') : if decide c = true then ta σ H Q else tb σ H Q := w_dec (fun z => h1 z Q q) (fun z => h2 z Q q)
theorem w_gunl {n : Nat} {t : TGs} {a : Addr} {xs : List V} {Q : L2.St → Hp → Prop} (h : H a = some (.lst xs)) (l : xs.length = n) (q : t xs σ H Q) : gUnl K n t (.ref a) σ H Q := ⟨a, xs, rfl, SqL.of h, l, q⟩
theorem w_iRngL {ta : TA} {R : It → Hp → Prop} (q : ta σ H fun vs H1 => ∃ i j : Int, vs = [.int i, .int j] ∧ R (Itr i (j - i).toNat) H1) : iRngL ta σ H R := q
theorem w_sum {a : Addr} {ns : List Int} (h : H a = some (.lst (ns.map V.int))) (q : Q (.int ns.sum) H) : rSum K [.ref a] H Q := ⟨a, ns, rfl, SqL.of h, q⟩
theorem w_neOpt {x y : V} (hx : x = .non ∨ ∃ i, x = .int i) (hy : y = .non ∨ ∃ i, y = .int i) (q : Q (.bl (!decide (x = y))) H) : rNe x y H Q := ⟨by
  rcases hx with rfl | ⟨i, rfl⟩ <;> rcases hy with rfl | ⟨j, rfl⟩ <;> rfl, q⟩
theorem w_eqOpt {x y : V} (hx : x = .non ∨ ∃ i, x = .int i) (hy : y = .non ∨ ∃ i, y = .int i) (q : Q (.bl (decide (x = y))) H) : rEq x y H Q := ⟨by
  rcases hx with rfl | ⟨i, rfl⟩ <;> rcases hy with rfl | ⟨j, rfl⟩ <;> rfl, q⟩
end
theorem at_m1 {xs : List V} {v : V} (h : xs[xs.length - 1]? = some v) : atI xs (-1) = some v := by
  have hne : xs ≠ [] := fun z => by rw [z] at h; cases h
  have e := (List.dropLast_concat_getLast hne).symm
  rw [e] at h ⊢
  rw [List.length_append, List.length_singleton, Nat.add_sub_cancel, List.getElem?_append_right (Nat.le_refl _), Nat.sub_self] at h
  rw [← Option.some.inj h]
  exact atI_last _ _
theorem FirstOf.opt {p : Int → Bool} {f l : Int} {v : V} (h : FirstOf p f l v) : v = .non ∨ ∃ i, v = .int i := by
  rcases h with ⟨h, _⟩ | ⟨x, h, _⟩
  · exact .inl h
  · exact .inr ⟨x, h⟩
theorem LastOf.opt {p : Int → Bool} {f l : Int} {v : V} (h : LastOf p f l v) : v = .non ∨ ∃ i, v = .int i := by
  rcases h with ⟨h, _⟩ | ⟨x, h, _⟩
  · exact .inl h
  · exact .inr ⟨x, h⟩
theorem first_nil {p : Int → Bool} {f l : Int} {n : Nat} {v : V} (h : l - f + 1 = n) (e : wl p f n = []) (hf : FirstOf p f l v) : v = .non := by
  rcases hf with ⟨h1, _⟩ | ⟨x, _, x1, x2, px, _⟩
  · exact h1
  · have : x ∈ wl p f n := wl_mem.mpr ⟨x1, by omega, px⟩
    rw [e] at this; cases this
theorem last_nil {p : Int → Bool} {f l : Int} {n : Nat} {v : V} (h : l - f + 1 = n) (e : wl p f n = []) (hf : LastOf p f l v) : v = .non := by
  rcases hf with ⟨h1, _⟩ | ⟨x, _, x1, x2, px, _⟩
  · exact h1
  · have : x ∈ wl p f n := wl_mem.mpr ⟨x1, by omega, px⟩
    rw [e] at this; cases this
theorem first_get {p : Int → Bool} {f l : Int} {n : Nat} {v : V} {y : Int} (h : l - f + 1 = n) (e : (wl p f n)[0]? = some y) (hf : FirstOf p f l v) : v = .int y := by
  rcases hf with ⟨_, h0⟩ | ⟨x, rfl, x1, x2, px, x3⟩
  · rw [(wl_nil h).mpr h0] at e; cases e
  · rw [wl_at e x1 px x3]
theorem last_get {p : Int → Bool} {f l : Int} {n : Nat} {v : V} {y : Int} (h : l - f + 1 = n) (e : (wl p f n)[(wl p f n).length - 1]? = some y) (hf : LastOf p f l v) : v = .int y := by
  rcases hf with ⟨_, h0⟩ | ⟨x, rfl, x1, x2, px, x3⟩
  · rw [(wl_nil h).mpr h0] at e; cases e
  · have t := wl_tot (p := p) h
    have s := tot_split p (first := f) (mid := x) (last := l) (by omega) x2
    rw [x3, tot_step p x1, if_pos px] at s
    have nn := tot_nonneg p f (x - 1)
    have yj : tot p f (x - 1) = (((wl p f n).length - 1 : Nat) : Int) := by omega
    rw [wl_at e x1 px yj]

theorem w_mW {K : PySem.W.Frag} {mg : Str → Option Value} {H : Hp} {C : Addr} {p : Addr} {w : Wk} {f : Str} {P : Addr → Addr → List (Str × V) → Prop} (k : Wd C H p w) (e : (wkf w).lookup f = none) (q : ∀ dx, P p dx (wkf w)) : ∃ a dx fs, V.ref p = .ref a ∧ H a = some (.ins C dx fs) ∧ fs.lookup f = none ∧ P a dx fs := by
  obtain ⟨dx, h⟩ := k
  exact ⟨p, dx, _, rfl, h, e, q dx⟩


theorem kbinds_of {K : PySem.W.Frag} {x qual : Str} {st : Stmt} {f : Addr} {fd : FuncData} {ps ks : List Str} {g : List Value → List Value → List Value} {gV : List V → List V → List V} (F : Fun K x qual st f fd)
    (h : ∀ (kV doc pm : Value) (an : Option Addr) (cdv ct : Value) (us ws : List Value), (g us ws).length = ps.length → bindArgs (PySem.W.fnOf x qual (defArgs st) (defBody st) (defScope st) .none kV doc pm an cdv ct) ⟨us, ks.zip ws⟩ = pure (ps.zip (g us ws)))
    (hrel : ∀ {vs : List V} {us : List Value} {zs : List V} {ws : List Value}, Vals vs us → Vals zs ws → Vals (gV vs zs) (g us ws)) : KBinds K fd ps ks g gV := by
  obtain ⟨oc, od, kV, doc, pm, an, cdv, ct, osl, rfl, lk, hcd⟩ := F.ex
  exact ⟨fun s us ws _ hl => .of_eq (h kV doc pm an cdv ct us ws hl), hrel⟩
local macro_rules | `(tactic| walk_at "kq") => `(tactic| first
  | exact Fw.Kq.refl _
  | assumption
  | (refine Fw.Kq.new ?_ (by assumption); walk_at "kq")
  | (refine Fw.Kq.trans ?_ (by assumption); walk_at "kq")
  | (refine Fw.Kq.sm ?_ (by assumption); walk_at "kq")
  | (refine Fw.Kq.same ?_ (by assumption); walk_at "kq"))
def sp_joined (K : PySem.W.Frag) (C : Addr) (TS : List (Addr × Str)) : Sp := fun vs H Q _ => ∃ (p : Addr) (bits : Nat) (rs : List V), vs = [.ref p, .int (bits : Int)] ∧ bits ≤ 128 ∧ H p = some (.lst rs) ∧ rs.length ≤ 100000 ∧ (∀ r ∈ rs, ∃ (q : Addr) (f : Int) (e : Nat), r = .ref q ∧ H q = some (.tup [.int f, .int (e : Int)]) ∧ 0 ≤ f) ∧ ∀ (fl : FL) out q H', Mg bits (SetOf H rs) (famL fl) → (∀ k, 1 ≤ k → k ≤ bits → Irr (famL fl) k) → H' q = some (.lst out) → PRow H' out fl → fl.Pairwise ltF → fl.length ≤ rs.length → Same H H' → Q (.ref q) H'
theorem ok_joined {P : Program} {w : World} {K : PySem.W.Frag} {mg : Str → Option Value} {base : Heap} (T : Txt K mg) (B : TBs T base) : FnOk P w K mg base CX0 1 T.f_joined T.fd_joined ["families", "bits"] (sp_joined K T.C_Kind T.tabs) := by
  refine T.F_joined.ok sc_joined (fun vs H Q E h => ?_) (fun cdv A outer s H vs Q E hr h => ?_)
  · obtain ⟨p, bits, rs, rfl, _⟩ := h
    rfl
  · obtain ⟨p, bits, rs, rfl, h⟩ := h
    have hu := hu_of hr
    refine ⟨_, (pss_cons (ps_setDc (o := .dT []) (i := 2) (own := [("family", 3)]) (g := gName 3) (tt := tYes) (.inr rfl) (Nat.lt_of_le_of_lt (Nat.le_add_right _ 64) hr.units) rfl sc_joined.nd rfl rfl (sw_trueD rfl rfl rfl (by decide +kernel)) (pi_list (pv 0 (hv := Or.inl rfl))) (blkOk_by (own := [("family", 3)]) (N := ["families", "bits", "found", "family", "k", "half", "first", "depth"]) (sc := defScope s_joined) (by decide +kernel)) (fun _ _ _ _ _ => (pg_name (i := 3) sc_joined.nd rfl (Or.inl rfl))) (fun _ _ _ _ _ => pts_nil) (fun _ _ _ _ _ => (pv 3 (hv := Or.inl rfl))) (fun _ _ _ _ _ => pe_bl))
      (pss_cons (ps_for PassesOwn.never rfl (pi_range3 (by rfl) T.n_range (pa_cons (pv 1 (hv := Or.inl rfl)) (pa_cons pe_int (pa_cons (pe_un un_neg pe_int) pa_nil)))) (pg_name (i := 4) sc_joined.nd rfl (Or.inl rfl))
        (pss_cons (ps_set (i := 5) sc_joined.nd rfl (Or.inl rfl) (pe_op op_shl pe_int (pe_op op_sub (pv 4 (hv := Or.inl rfl)) pe_int)))
      (pss_one (ps_for PassesOwn.never rfl (pi_list (pe_callTy (T := "list") (r := rListDT) (call_listDT (by rfl)) (by rfl) T.n_list (by decide +kernel) (pa_cons (pv 2 (hv := Or.inl rfl)) pa_nil))) (pg_tup rfl (pgs_cons (pg_name (i := 6) sc_joined.nd rfl (Or.inl rfl)) (pgs_cons (pg_name (i := 7) sc_joined.nd rfl (Or.inl rfl)) pgs_nil)))
        (pss_one (ps_if (PW.pt (pw_and (pt_cmpR op_eq (pv 7 (hv := Or.inl rfl)) (pv 4 (hv := Or.inl rfl)) (nomark _)) (pw_and (pt_cmpR op_lt (pv 6 (hv := Or.inl rfl)) (pv 5 (hv := Or.inl rfl)) (nomark _)) (pw_and1 (pt_cmp (pc_din hu (pe_tup (pa_cons (pe_op op_add (pv 6 (hv := Or.inl rfl)) (pv 5 (hv := Or.inl rfl))) (pa_cons (pv 4 (hv := Or.inl rfl)) pa_nil))) (pv 2 (hv := Or.inl rfl))) (by rfl)))))) (pss_cons (ps_delT hu (pv 2 (hv := Or.inl rfl)) (pe_tup (pa_cons (pv 6 (hv := Or.inl rfl)) (pa_cons (pv 4 (hv := Or.inl rfl)) pa_nil))))
      (pss_cons (ps_delT hu (pv 2 (hv := Or.inl rfl)) (pe_tup (pa_cons (pe_op op_add (pv 6 (hv := Or.inl rfl)) (pv 5 (hv := Or.inl rfl))) (pa_cons (pv 4 (hv := Or.inl rfl)) pa_nil))))
      (pss_one (ps_dput hu (pv 2 (hv := Or.inl rfl)) (pe_tup (pa_cons (pv 6 (hv := Or.inl rfl)) (pa_cons (pe_op op_sub (pv 4 (hv := Or.inl rfl)) pe_int) pa_nil))) pe_bl rfl)))) pss_nil))))))
      (pss_one (ps_ret (pe_callB (id := "sorted") (r := rSortDT) (cr_sortedDT (by rfl)) (by rfl) T.n_sorted (by decide +kernel) (pa_cons (pv 2 (hv := Or.inl rfl)) pa_nil)))))), ?_⟩
    try dsimp only [cxOf, Cx.nox, Cx.wish, Cx.blk]
    rw [show L2.start ["families", "bits", "found", "family", "k", "half", "first", "depth"] [.ref p, .int (bits : Int)] = [some (.ref p), some (.int (bits : Int)), none, none, none, none, none, none] from rfl]
    obtain ⟨b2, hp, hl, sh, k⟩ := h
    walk_at "rd"
    unfold tDcG
    walk_at "rd"
    refine ⟨⟨_, SqL.of hp⟩, fun D hD => dg_it (walk_list (K := K) (a := p) (xs := rs)) (fun j H' => ∃ kvs, H' D = some (.dT kvs) ∧ DictF kvs j ∧ (∀ f e, HasK kvs (fk f e) ↔ ∃ i, i < j ∧ ∃ q : Addr, rs[i]? = some (V.ref q) ∧ H q = some (.tup [.int f, .int (e : Int)])) ∧ Same H H') ⟨[], upd_same, ⟨Nat.le_refl _, List.nodup_nil, fun x hx => (by cases hx)⟩, fun f e => ⟨fun h => (by cases h), fun ⟨i, hi, _⟩ => (by omega)⟩, sm_new (Same.refl H) hD⟩ (fun i H' _ q => SqL.of (q.choose_spec.2.2.2 _ _ hp)) ?_ ?_⟩
    · rintro j z H' _ hj ⟨kvs, hd, df, hk, sm⟩ ⟨rfl, hz⟩
      obtain ⟨q, f, e, rfl, hq, f0⟩ := sh z (List.mem_of_getElem? hz)
      unfold DcTurn
      walk_at "rd"
      refine ⟨rfl, ?_⟩
      walk_at "rd"
      refine iteT ?_
      walk_at "rd"
      refine ⟨_, DPut.t (k := fk f e) hd (sm _ _ hq) (Nat.lt_of_le_of_lt df.len (Nat.lt_of_lt_of_le hj (Nat.le_trans hl (by decide)))), putK kvs (fk f e) (.bl true), upd_same, df.put f0, fun g d => ⟨fun h => ?_, fun ⟨i, hi, q1, h1, h2⟩ => ?_⟩, sm_mut sm hD⟩
      · rcases hasK_put.mp h with h | h
        · obtain ⟨rfl, rfl⟩ := fk_inj h
          exact ⟨j, by omega, q, hz, hq⟩
        · obtain ⟨i, hi, r⟩ := (hk g d).mp h
          exact ⟨i, by omega, r⟩
      · by_cases z : i = j
        · subst z
          rw [hz] at h1
          obtain rfl : q = q1 := V.ref.inj (Option.some.inj h1)
          rw [hq] at h2
          have e1 := HO.tup.inj (Option.some.inj h2)
          have e2 : f = g := V.int.inj (List.cons.inj e1).1
          have e3 : (e : Int) = d := V.int.inj (List.cons.inj (List.cons.inj e1).2).1
          obtain rfl : e = d := by omega
          exact hasK_put.mpr (.inl (by rw [e2]))
        · exact hasK_put.mpr (.inr ((hk g d).mpr ⟨i, by omega, q1, h1, h2⟩))
    rintro H1 ⟨kvs, hd, df, hk, sm⟩
    have e0 : famD kvs = SetOf H rs := by
      funext f e
      refine propext ⟨fun h => ?_, fun ⟨q, h1, h2⟩ => ?_⟩
      · obtain ⟨i, _, q, h1, h2⟩ := (hk f e).mp h
        exact ⟨q, List.mem_of_getElem? h1, h2⟩
      · obtain ⟨i, hi⟩ := List.getElem?_of_mem h1
        exact (hk f e).mpr ⟨i, (List.getElem?_eq_some_iff.mp hi).1, q, hi, h2⟩
    clear hk
    walk_at "rd"
    refine w_iRng3j ?_
    walk_at "rd"
    refine ⟨_, _, _, bits, rfl, by have := RgC.neg (i := (bits : Int)) (j := 0) (by omega) (by omega) (by omega) (by omega); rw [show ((bits : Int) - 0).toNat = bits by omega] at this; exact this, for_rangeC (lo := (bits : Int)) (c := -1) (n := bits) (fun i σ H' => (∃ v4 v5 v6 v7 : Option V, σ = [some (.ref p), some (.int (bits : Int)), some (.ref D), none, v4, v5, v6, v7]) ∧ ∃ kvs, H' D = some (.dT kvs) ∧ DictF kvs rs.length ∧ Mg bits (SetOf H rs) (famD kvs) ∧ (∀ k, bits - i < k → k ≤ bits → Irr (famD kvs) k) ∧ Same H H') ⟨⟨_, _, _, _, rfl⟩, kvs, hd, df, by rw [e0]; exact .refl, fun k _ _ => (by omega), sm⟩ ?_ ?_⟩
    · rintro i σ H2 hi ⟨⟨v4, v5, v6, v7, rfl⟩, kv0, hd0, df0, mg0, up0, sm0⟩
      obtain ⟨kk, hkk⟩ : ∃ kk, kk = bits - i := ⟨_, rfl⟩
      have k1 : 1 ≤ kk := by omega
      have k2 : kk ≤ bits := by omega
      rw [show (bits : Int) + (i : Int) * -1 = (kk : Int) by omega]
      walk_at "rd"
      rw [show (kk : Int) - 1 = ((kk - 1 : Nat) : Int) by omega]
      refine w_I (cpow (n := 1) (by omega) (by decide)) ?_
      rw [Int.toNat_natCast, Int.one_mul]
      walk_at "rd"
      refine ⟨D, kv0, rfl, .inl hd0, fun L bs hL hbs => ?_⟩
      walk_at "rd"
      have sL := sm_new (o := .lst (bs.map V.ref)) (Same.refl H2) hL
      have hL' : (L2.upd H2 L (.lst (bs.map V.ref))) L = some (.lst (bs.map V.ref)) := upd_same
      generalize L2.upd H2 L _ = H3 at sL hL' ⊢
      have hd3 := sL _ _ hd0
      have bl : bs.length = kv0.length := (Paired.length hbs).symm
      have nL : L ≠ D := fun z => by rw [z, hd3] at hL'; cases hL'
      refine ⟨⟨_, SqL.of hL'⟩, for_list (K := K) (a := L) (xs := bs.map V.ref) (fun j σ H' => (∃ v6 v7 : Option V, σ = [some (.ref p), some (.int (bits : Int)), some (.ref D), none, some (.int (kk : Int)), some (.int (2 ^ (kk - 1))), v6, v7]) ∧ ∃ kvs, H' D = some (.dT kvs) ∧ Lev (SetOf H rs) bits kk kv0 kvs rs.length j ∧ Kp D H3 H') ⟨⟨_, _, rfl⟩, kv0, hd3, Lev.start df0 mg0 (fun k h1 h2 => up0 k (by omega) h2), Kp.refl D H3⟩ (fun j σ H' _ q => SqL.of (q.2.choose_spec.2.2 _ _ nL hL')) ?_ ?_⟩
      · rintro j z σ H4 hj ⟨⟨v6, v7, rfl⟩, kvs, hd, lv, kp⟩
        obtain ⟨b, hb, rfl⟩ := map_get hj
        obtain ⟨x, hx, hbx⟩ := L2.DX.pget hbs hb
        obtain ⟨f, e, ex, f0⟩ := df0.sh x (List.mem_of_getElem? hx)
        rw [ex] at hbx
        have hb3 : H3 b = some (.tup [.int f, .int (e : Int)]) := sL _ _ hbx
        have hb4 := kp _ _ (ne_of hb3 hd3 (by intro z; cases z)) hb3
        walk_at "rd"
        refine w_dec (fun ek => ?_) (fun ek => ?_)
        rotate_left
        · walk_at "rd"
          refine iteF ?_
          walk_at "rd"
          exact ⟨⟨_, _, rfl⟩, kvs, hd, lv.skip hx ex (fun z => ek (by rw [z.1])), kp⟩
        obtain rfl : e = kk := by omega
        walk_at "rd"
        refine w_dec (fun lt => ?_) (fun lt => ?_)
        rotate_left
        · walk_at "rd"
          refine iteF ?_
          walk_at "rd"
          exact ⟨⟨_, _, rfl⟩, kvs, hd, lv.skip hx ex (fun z => lt z.2.1), kp⟩
        walk_at "rd"
        unfold tDIn
        walk_at "rd"
        refine ⟨by show 2 ≤ sizeLine; decide, fun q1 hq1 => ?_⟩
        walk_at "rd"
        have n1 : D ≠ q1 := fun z => by rw [← z, hd] at hq1; cases hq1
        have hd5 : (L2.upd H4 q1 (.tup [.int (f + 2 ^ (e - 1)), .int (e : Int)])) D = some (.dT kvs) := by rw [upd_ne n1]; exact hd
        have kp5 := kp.new (o := .tup [.int (f + 2 ^ (e - 1)), .int (e : Int)]) hq1
        have hq1' : (L2.upd H4 q1 (.tup [.int (f + 2 ^ (e - 1)), .int (e : Int)])) q1 = some (.tup [.int (f + 2 ^ (e - 1)), .int (e : Int)]) := upd_same
        generalize L2.upd H4 q1 _ = H5 at hd5 kp5 hq1' ⊢
        refine ⟨D, _, rfl, DGet.t (k := fk (f + 2 ^ (e - 1)) e) hd5 hq1', ?_⟩
        by_cases hh : famD kvs (f + 2 ^ (e - 1)) e
        rotate_left
        · rw [show (valV kvs (fk (f + 2 ^ (e - 1)) e)).isSome = false by
            cases z : (valV kvs (fk (f + 2 ^ (e - 1)) e)).isSome
            · rfl
            · exact absurd (hasK_val.mp z) hh]
          refine ⟨_, rfl, ?_⟩
          refine iteF ?_
          walk_at "rd"
          exact ⟨⟨_, _, rfl⟩, kvs, hd5, lv.skip hx ex (fun z => hh z.2.2), kp5⟩
        rw [hasK_val.mpr hh]
        refine ⟨_, rfl, ?_⟩
        refine iteT ?_
        unfold sDelT sDPut
        walk_at "rd"
        refine ⟨by show 2 ≤ sizeLine; decide, fun q2 hq2 => ?_⟩
        walk_at "rd"
        have p2' : (0 : Int) < 2 ^ (e - 1) := p2 (e - 1)
        have n2 : D ≠ q2 := fun z => by rw [← z, hd5] at hq2; cases hq2
        have ha : famD kvs f e := lv.A j f x (Nat.le_refl _) hx ex lt
        refine ⟨D, q2, kvs, fk f e, rfl, by rw [upd_ne n2]; exact hd5, rfl, upd_same, hasK_val.mpr ha, ?_⟩
        have kp6 := (kp5.new (o := .tup [.int f, .int (e : Int)]) hq2).upd (o := .dT (dropK kvs (fk f e)))
        have hd7 : (L2.upd (L2.upd H5 q2 (.tup [.int f, .int (e : Int)])) D (.dT (dropK kvs (fk f e)))) D = some (.dT (dropK kvs (fk f e))) := upd_same
        generalize L2.upd (L2.upd H5 q2 _) D _ = H7 at kp6 hd7 ⊢
        walk_at "rd"
        refine ⟨by show 2 ≤ sizeLine; decide, fun q3 hq3 => ?_⟩
        walk_at "rd"
        have n3 : D ≠ q3 := fun z => by rw [← z, hd7] at hq3; cases hq3
        refine ⟨D, q3, dropK kvs (fk f e), fk (f + 2 ^ (e - 1)) e, rfl, by rw [upd_ne n3]; exact hd7, rfl, upd_same, hasK_val.mpr (hasK_drop.mpr ⟨fun z => by have := (fk_inj z).1; omega, hh⟩), ?_⟩
        have kp8 := (kp6.new (o := .tup [.int (f + 2 ^ (e - 1)), .int (e : Int)]) hq3).upd (o := .dT (dropK (dropK kvs (fk f e)) (fk (f + 2 ^ (e - 1)) e)))
        have hd9 : (L2.upd (L2.upd H7 q3 (.tup [.int (f + 2 ^ (e - 1)), .int (e : Int)])) D (.dT (dropK (dropK kvs (fk f e)) (fk (f + 2 ^ (e - 1)) e)))) D = some (.dT (dropK (dropK kvs (fk f e)) (fk (f + 2 ^ (e - 1)) e))) := upd_same
        generalize L2.upd (L2.upd H7 q3 _) D _ = H9 at kp8 hd9 ⊢
        walk_at "rd"
        rw [show (e : Int) - 1 = ((e - 1 : Nat) : Int) by omega]
        refine ⟨by show 2 ≤ sizeLine; decide, fun q4 hq4 => ?_⟩
        walk_at "rd"
        have n4 : D ≠ q4 := fun z => by rw [← z, hd9] at hq4; cases hq4
        refine ⟨D, _, rfl, DPut.t (k := fk f (e - 1)) (by rw [upd_ne n4]; exact hd9) upd_same (Nat.lt_of_le_of_lt (Nat.le_trans (dropK_le _ _) (Nat.le_trans (dropK_le _ _) (Nat.le_trans lv.df.len hl))) (by decide)), ?_⟩
        exact ⟨⟨_, _, rfl⟩, _, upd_same, lv.merge df0.nd df0.sh hx ex f0 lt hh k1 k2 _, (kp8.new hq4).upd⟩
      rintro σ H4 ⟨⟨v6, v7, rfl⟩, kvs, hd, lv, kp⟩
      rw [List.length_map, bl] at lv
      refine ⟨⟨_, _, _, _, rfl⟩, kvs, hd, lv.df, lv.mg, fun k h1 h2 => ?_, fun b o e1 => kp b o (ne_of_none e1 hD) (sL _ _ (sm0 _ _ e1))⟩
      by_cases z : k = kk
      · rw [z]; exact lv.finish
      · exact lv.up k (by omega) h2
    rintro σ H2 ⟨⟨v4, v5, v6, v7, rfl⟩, kvs, hd, df, mg, up, sm⟩
    walk_at "rd"
    refine ⟨D, kvs, rfl, hd, fun x hx => ?_, fun bs out q hbs hso hpm hq => ?_⟩
    · obtain ⟨f, e, h, _⟩ := df.sh x hx
      exact ⟨f, e, h⟩
    obtain ⟨fl, hrow, hpw, hfl⟩ := joined_row df.nd df.sh hbs hso hpm
    refine k fl out q _ (by show Mg bits _ (fun f e => (f, e) ∈ fl); rw [hfl]; exact mg) (fun k h1 h2 => by show Irr (fun f e => (f, e) ∈ fl) k; rw [hfl]; exact up k (by omega) h2) upd_same (hrow.keep fun q1 f e h => gn h hq) hpw (by rw [← hrow.len, hpm.length_eq, List.length_map, ← Paired.length hbs]; exact df.len) (sm_new sm hq)
def sp_family_size (K : PySem.W.Frag) (C : Addr) (TS : List (Addr × Str)) : Sp := fun vs H Q _ => ∃ (q : Addr) (f : Int) (k bits : Nat), vs = [.ref q, .int (bits : Int)] ∧ H q = some (.tup [.int f, .int (k : Int)]) ∧ k ≤ bits ∧ bits ≤ 128 ∧ Q (.int (2 ^ (bits - k))) H
theorem ok_family_size {P : Program} {w : World} {K : PySem.W.Frag} {mg : Str → Option Value} {base : Heap} (T : Txt K mg) (B : TBs T base) : FnOk P w K mg base CX0 1 T.f_family_size T.fd_family_size ["family", "bits"] (sp_family_size K T.C_Kind T.tabs) := by
  refine T.F_family_size.ok sc_family_size (fun vs H Q E h => ?_) (fun cdv A outer s H vs Q E hr h => ?_)
  · obtain ⟨q, f, k, bits, rfl, _⟩ := h
    rfl
  · obtain ⟨q, f, k, bits, rfl, h⟩ := h
    refine ⟨_, (pss_one (ps_ret (pe_op op_shl pe_int (pe_op op_sub (pv 1 (hv := Or.inl rfl)) (pe_ix (r := rIxT K) ix_tup (pv 0 (hv := Or.inl rfl)) pe_int (fun _ _ => rfl)))))), ?_⟩
    try dsimp only [cxOf, Cx.nox, Cx.wish, Cx.blk]
    rw [show L2.start ["family", "bits"] [.ref q, .int (bits : Int)] = [some (.ref q), some (.int (bits : Int))] from rfl]
    obtain ⟨hq, kb, b2, kk⟩ := h
    walk_at "rd"
    rw [show (bits : Int) - (k : Int) = ((bits - k : Nat) : Int) by omega]
    refine w_I (cpow (n := 1) (by omega) (by decide)) ?_
    rw [Int.toNat_natCast, Int.one_mul]
    exact kk
def sp_total_size (K : PySem.W.Frag) (C : Addr) (TS : List (Addr × Str)) : Sp := fun vs H Q _ => ∃ (q : Addr) (bits : Nat) (out : List V) (fl : FL), vs = [.ref q, .int (bits : Int)] ∧ H q = some (.lst out) ∧ PRow H out fl ∧ fl.length ≤ 2000 ∧ (∀ p ∈ fl, p.2 ≤ bits) ∧ bits ≤ 128 ∧ ∀ H', Same H H' → Q (.int (fl.map fun p => (2 : Int) ^ (bits - p.2)).sum) H'
theorem ok_total_size {P : Program} {w : World} {K : PySem.W.Frag} {mg : Str → Option Value} {base : Heap} (T : Txt K mg) (B : TBs T base) : FnOk P w K mg base CX0 2 T.f_total_size T.fd_total_size ["families", "bits"] (sp_total_size K T.C_Kind T.tabs) := by
  have G_family_size := ok_family_size (P := P) (w := w) (base := base) T B
  refine T.F_total_size.ok sc_total_size (fun vs H Q E h => ?_) (fun cdv A outer s H vs Q E hr h => ?_)
  · obtain ⟨q, bits, out, fl, rfl, _⟩ := h
    rfl
  · obtain ⟨q, bits, out, fl, rfl, h⟩ := h
    have hr_family_size : Room 1 _ := hr.mono (by decide)
    refine ⟨_, (pss_one (ps_ret (pe_callB (id := "sum") (r := rSum K) (cr_sum rfl) (by rfl) T.n_sum (by decide +kernel) (pa_cons (pe_lc (own := [("family", 2)]) (g := gName 2) (tt := tYes) (by rfl) sc_total_size.nd (pi_list (pv 0 (hv := Or.inl rfl))) (blkOk_by (own := [("family", 2)]) (N := ["families", "bits", "family"]) (sc := defScope s_total_size) (by decide +kernel)) (fun _ _ _ _ _ => (pg_name (i := 2) sc_total_size.nd rfl (Or.inl rfl))) (fun _ _ _ _ _ => pts_nil) (fun _ _ _ _ _ => (pe_call G_family_size hr_family_size rfl T.g_family_size T.k_family_size T.b_family_size .nil pass0 (pa_cons (pv 2 (hv := Or.inl rfl)) (pa_cons (pv 1 (hv := Or.inr (Or.inl rfl))) pa_nil))))) pa_nil)))), ?_⟩
    try dsimp only [cxOf, Cx.nox, Cx.wish, Cx.blk]
    rw [show L2.start ["families", "bits", "family"] [.ref q, .int (bits : Int)] = [some (.ref q), some (.int (bits : Int)), none] from rfl]
    obtain ⟨hq, row, fl2, fb, b2, k⟩ := h
    walk_at "rd"
    refine ⟨⟨_, SqL.of hq⟩, fun D hD => lc_list (K := K) (a := q) (xs := out) (fun j H' => H' D = some (.lst (((fl.map fun p => (2 : Int) ^ (bits - p.2)).take j).map V.int)) ∧ Same H H') ⟨upd_same, sm_new (Same.refl H) hD⟩ (fun i H' _ q => SqL.of (q.2 _ _ hq)) ?_ ?_⟩
    · rintro j z H' hj ⟨hd, sm⟩
      obtain ⟨t, f, e, rfl, ht, hf⟩ := row.get hj
      have jl := (List.getElem?_eq_some_iff.mp hf).1
      walk_at "rd"
      refine ⟨rfl, ?_⟩
      walk_at "rd"
      refine iteT ?_
      walk_at "rd"
      refine ⟨t, f, e, bits, rfl, sm _ _ ht, fb _ (List.mem_of_getElem? hf), b2, ?_⟩
      refine ⟨_, hd, by rw [List.length_map, List.length_take, List.length_map]; exact Nat.lt_of_le_of_lt (show _ ≤ 2000 by omega) (by decide), ?_, sm_mut sm hD⟩
      rw [upd_same, List.take_add_one, List.getElem?_map, hf, List.map_append]; rfl
    rintro H' ⟨hd, sm⟩
    rw [row.len, List.take_of_length_le (by rw [List.length_map]; exact Nat.le_refl _)] at hd
    walk_at "rd"
    refine w_sumR hd ?_
    exact k _ sm
def sp_total_inside (K : PySem.W.Frag) (C : Addr) (TS : List (Addr × Str)) : Sp := fun vs H Q _ => ∃ (q : Addr) (first last : Int) (out : List V) (fl : FL), vs = [.ref q, .int first, .int last] ∧ H q = some (.lst out) ∧ PRow H out fl ∧ fl.length ≤ 2000 ∧ ∀ H', Same H H' → Q (.int (totF fl first last)) H'
theorem ok_total_inside {P : Program} {w : World} {K : PySem.W.Frag} {mg : Str → Option Value} {base : Heap} (T : Txt K mg) (B : TBs T base) : FnOk P w K mg base CX0 1 T.f_total_inside T.fd_total_inside ["families", "first", "last"] (sp_total_inside K T.C_Kind T.tabs) := by
  refine T.F_total_inside.ok sc_total_inside (fun vs H Q E h => ?_) (fun cdv A outer s H vs Q E hr h => ?_)
  · obtain ⟨q, first, last, out, fl, rfl, _⟩ := h
    rfl
  · obtain ⟨q, first, last, out, fl, rfl, h⟩ := h
    refine ⟨_, (pss_one (ps_ret (pe_callB (id := "sum") (r := rSum K) (cr_sum rfl) (by rfl) T.n_sum (by decide +kernel) (pa_cons (pe_lc (own := [("start", 3), ("k", 4)]) (g := gTup K 2 (gCons (gName 3) (gCons (gName 4) gNil))) (tt := tYes) (by rfl) sc_total_inside.nd (pi_list (pv 0 (hv := Or.inl rfl))) (blkOk_by (own := [("start", 3), ("k", 4)]) (N := ["families", "first", "last", "start", "k"]) (sc := defScope s_total_inside) (by decide +kernel)) (fun _ _ _ _ _ => (pg_tup rfl (pgs_cons (pg_name (i := 3) sc_total_inside.nd rfl (Or.inl rfl)) (pgs_cons (pg_name (i := 4) sc_total_inside.nd rfl (Or.inl rfl)) pgs_nil)))) (fun _ _ _ _ _ => pts_nil) (fun _ _ _ _ _ => (pe_op op_sub (pe_op op_shr (pe_op op_sub (pv 2 (hv := Or.inr (Or.inl rfl))) (pv 3 (hv := Or.inl rfl))) (pv 4 (hv := Or.inl rfl))) (pe_op op_shr (pe_op op_sub (pe_op op_sub (pv 1 (hv := Or.inr (Or.inl rfl))) pe_int) (pv 3 (hv := Or.inl rfl))) (pv 4 (hv := Or.inl rfl)))))) pa_nil)))), ?_⟩
    try dsimp only [cxOf, Cx.nox, Cx.wish, Cx.blk]
    rw [show L2.start ["families", "first", "last", "start", "k"] [.ref q, .int first, .int last] = [some (.ref q), some (.int first), some (.int last), none, none] from rfl]
    obtain ⟨hq, row, fl2, k⟩ := h
    walk_at "rd"
    refine ⟨⟨_, SqL.of hq⟩, fun D hD => lc_list (K := K) (a := q) (xs := out) (fun j H' => H' D = some (.lst (((fl.map fun p => (last - p.1) / 2 ^ p.2 - (first - 1 - p.1) / 2 ^ p.2).take j).map V.int)) ∧ Same H H') ⟨upd_same, sm_new (Same.refl H) hD⟩ (fun i H' _ q => SqL.of (q.2 _ _ hq)) ?_ ?_⟩
    · rintro j z H' hj ⟨hd, sm⟩
      obtain ⟨t, f, e, rfl, ht, hf⟩ := row.get hj
      have ht' := sm _ _ ht
      have jl := (List.getElem?_eq_some_iff.mp hf).1
      walk_at "rd"
      refine ⟨rfl, ?_⟩
      walk_at "rd"
      refine iteT ?_
      walk_at "rd"
      refine w_I (by show (0 : Int) ≤ _; omega) ?_
      walk_at "rd"
      refine w_I (by show (0 : Int) ≤ _; omega) ?_
      walk_at "rd"
      refine ⟨_, hd, by rw [List.length_map, List.length_take, List.length_map]; exact Nat.lt_of_le_of_lt (show _ ≤ 2000 by omega) (by decide), ?_, sm_mut sm hD⟩
      rw [upd_same, List.take_add_one, List.getElem?_map, hf, List.map_append, Int.toNat_natCast]; rfl
    rintro H' ⟨hd, sm⟩
    rw [row.len, List.take_of_length_le (by rw [List.length_map]; exact Nat.le_refl _)] at hd
    walk_at "rd"
    refine w_sumR hd ?_
    exact k _ sm
def sp_is_integer (K : PySem.W.Frag) (C : Addr) (TS : List (Addr × Str)) : Sp := fun vs H Q _ => ∃ (v : V) (b : Bool), vs = [v] ∧ IntQ K H v b ∧ Q (.bl b) H
theorem ok_is_integer {P : Program} {w : World} {K : PySem.W.Frag} {mg : Str → Option Value} {base : Heap} (T : Txt K mg) (B : TBs T base) : FnOk P w K mg base CX0 1 T.f_is_integer T.fd_is_integer ["value"] (sp_is_integer K T.C_Kind T.tabs) := by
  refine T.F_is_integer.ok sc_is_integer (fun vs H Q E h => ?_) (fun cdv A outer s H vs Q E hr h => ?_)
  · obtain ⟨v, b, rfl, _⟩ := h
    rfl
  · obtain ⟨v, b, rfl, h⟩ := h
    refine ⟨_, (pss_one (ps_ret (pe_and (pe_callB (id := "isinstance") (r := rIsi K) call_isi (by rfl) T.n_isinstance (by decide +kernel) (pa_cons (pv 0 (hv := Or.inl rfl)) (pa_cons (pe_bltn (v := .ty "int") (by rfl) T.n_int (by decide +kernel) rfl) pa_nil))) (pe_one (pe_not (pe_callB (id := "isinstance") (r := rIsi K) call_isi (by rfl) T.n_isinstance (by decide +kernel) (pa_cons (pv 0 (hv := Or.inl rfl)) (pa_cons (pe_bltn (v := .ty "bool") (by rfl) T.n_bool (by decide +kernel) rfl) pa_nil)))))))), ?_⟩
    try dsimp only [cxOf, Cx.nox, Cx.wish, Cx.blk]
    rw [show L2.start ["value"] [v] = [some (v)] from rfl]
    obtain ⟨⟨t, ty, e1, -, c, e2, e3⟩, k⟩ := h
    walk_at "rd"
    refine w_isi ty e1 ?_
    walk_at "rd"
    cases hb : (b || t == "bool") with
    | false =>
      rw [hb] at e3
      have e3 : false = b := e3
      refine iteF ?_
      rw [e3]; exact k
    | true =>
      rw [hb] at e3
      refine iteT ?_
      walk_at "rd"
      refine w_isi ty e2 ?_
      walk_at "rd"
      have e4 : (!c) = b := e3
      rw [e4]; exact k
def sp_check_integer (K : PySem.W.Frag) (C : Addr) (TS : List (Addr × Str)) : Sp := fun vs H Q _ => ∃ (i : Int) (z : Str), vs = [.int i, .str z] ∧ Q .non H
theorem ok_check_integer {P : Program} {w : World} {K : PySem.W.Frag} {mg : Str → Option Value} {base : Heap} (T : Txt K mg) (B : TBs T base) : FnOk P w K mg base CX0 2 T.f_check_integer T.fd_check_integer ["value", "argument"] (sp_check_integer K T.C_Kind T.tabs) := by
  have G_is_integer := ok_is_integer (P := P) (w := w) (base := base) T B
  refine T.F_check_integer.ok sc_check_integer (fun vs H Q E h => ?_) (fun cdv A outer s H vs Q E hr h => ?_)
  · obtain ⟨i, z, rfl, _⟩ := h
    rfl
  · obtain ⟨i, z, rfl, h⟩ := h
    have hr_is_integer : Room 1 _ := hr.mono (by decide)
    refine ⟨_, (pss_one (ps_if (pt_not (pt_val (pe_call G_is_integer hr_is_integer rfl T.g_is_integer T.k_is_integer T.b_is_integer .nil pass0 (pa_cons (pv 0 (hv := Or.inl rfl)) pa_nil)))) (pss_one ps_never) pss_nil)), ?_⟩
    try dsimp only [cxOf, Cx.nox, Cx.wish, Cx.blk]
    rw [show L2.start ["value", "argument"] [.int i, .str z] = [some (.int i), some (.str z)] from rfl]
    walk_at "rd"
    refine ⟨.int i, true, rfl, IntQ.int i, ?_⟩
    walk_at "rd"
    refine iteF ?_
    walk_at "rd"
    exact h
def sp_is_sixty_digits (K : PySem.W.Frag) (C : Addr) (TS : List (Addr × Str)) : Sp := fun vs H Q _ => ∃ (i : Int), vs = [.int i] ∧ Q (.bl (decide (-(10 ^ 60) < i ∧ i < 10 ^ 60))) H
theorem ok_is_sixty_digits {P : Program} {w : World} {K : PySem.W.Frag} {mg : Str → Option Value} {base : Heap} (T : Txt K mg) (B : TBs T base) : FnOk P w K mg base CX0 2 T.f_is_sixty_digits T.fd_is_sixty_digits ["value"] (sp_is_sixty_digits K T.C_Kind T.tabs) := by
  have G_is_integer := ok_is_integer (P := P) (w := w) (base := base) T B
  refine T.F_is_sixty_digits.ok sc_is_sixty_digits (fun vs H Q E h => ?_) (fun cdv A outer s H vs Q E hr h => ?_)
  · obtain ⟨i, rfl, _⟩ := h
    rfl
  · obtain ⟨i, rfl, h⟩ := h
    have hr_is_integer : Room 1 _ := hr.mono (by decide)
    refine ⟨_, (pss_one (ps_ret (pe_and (pe_call G_is_integer hr_is_integer rfl T.g_is_integer T.k_is_integer T.b_is_integer .nil pass0 (pa_cons (pv 0 (hv := Or.inl rfl)) pa_nil)) (pe_one (pe_cmpR op_lt (pe_callB (id := "abs") (r := rAbsC) call_abs (by rfl) T.n_abs (by decide +kernel) (pa_cons (pv 0 (hv := Or.inl rfl)) pa_nil)) (pe_glob (v := .int 1000000000000000000000000000000000000000000000000000000000000) rfl T.g_BEYOND_SIXTY_DIGITS ⟨_, rfl⟩) (nomark _)))))), ?_⟩
    try dsimp only [cxOf, Cx.nox, Cx.wish, Cx.blk]
    rw [show L2.start ["value"] [.int i] = [some (.int i)] from rfl]
    walk_at "rd"
    refine ⟨.int i, true, rfl, IntQ.int i, ?_⟩
    walk_at "rd"
    refine iteT ?_
    walk_at "rd"
    have e : decide (ab i < 1000000000000000000000000000000000000000000000000000000000000) = decide (-(10 ^ 60) < i ∧ i < 10 ^ 60) := by
      unfold ab
      by_cases c : i < 0
      · rw [if_pos c]
        by_cases d : -(10 ^ 60) < i
        · rw [decide_eq_true (show -i < 1000000000000000000000000000000000000000000000000000000000000 by omega), decide_eq_true ⟨d, by omega⟩]
        · rw [decide_eq_false (show ¬ -i < 1000000000000000000000000000000000000000000000000000000000000 by omega), decide_eq_false fun z => d z.1]
      · rw [if_neg c]
        by_cases d : i < 10 ^ 60
        · rw [decide_eq_true (show i < 1000000000000000000000000000000000000000000000000000000000000 by omega), decide_eq_true ⟨by omega, d⟩]
        · rw [decide_eq_false (show ¬ i < 1000000000000000000000000000000000000000000000000000000000000 by omega), decide_eq_false fun z => d z.2]
    rw [e]
    exact h
def sp_is_count (K : PySem.W.Frag) (C : Addr) (TS : List (Addr × Str)) : Sp := fun vs H Q _ => ∃ (i : Int), vs = [.int i] ∧ Q (.bl (decide (0 ≤ i))) H
theorem ok_is_count {P : Program} {w : World} {K : PySem.W.Frag} {mg : Str → Option Value} {base : Heap} (T : Txt K mg) (B : TBs T base) : FnOk P w K mg base CX0 2 T.f_is_count T.fd_is_count ["value"] (sp_is_count K T.C_Kind T.tabs) := by
  have G_is_integer := ok_is_integer (P := P) (w := w) (base := base) T B
  refine T.F_is_count.ok sc_is_count (fun vs H Q E h => ?_) (fun cdv A outer s H vs Q E hr h => ?_)
  · obtain ⟨i, rfl, _⟩ := h
    rfl
  · obtain ⟨i, rfl, h⟩ := h
    have hr_is_integer : Room 1 _ := hr.mono (by decide)
    refine ⟨_, (pss_one (ps_ret (pe_and (pe_call G_is_integer hr_is_integer rfl T.g_is_integer T.k_is_integer T.b_is_integer .nil pass0 (pa_cons (pv 0 (hv := Or.inl rfl)) pa_nil)) (pe_one (pe_cmpR op_ge (pv 0 (hv := Or.inl rfl)) pe_int (nomark _)))))), ?_⟩
    try dsimp only [cxOf, Cx.nox, Cx.wish, Cx.blk]
    rw [show L2.start ["value"] [.int i] = [some (.int i)] from rfl]
    walk_at "rd"
    refine ⟨.int i, true, rfl, IntQ.int i, ?_⟩
    walk_at "rd"
    refine iteT ?_
    walk_at "rd"
    exact h
def sp_check_number (K : PySem.W.Frag) (C : Addr) (TS : List (Addr × Str)) : Sp := fun vs H Q _ => ∃ (j t : Int), vs = [.int j, .int t] ∧ 0 ≤ j ∧ j < t ∧ Q .non H
theorem ok_check_number {P : Program} {w : World} {K : PySem.W.Frag} {mg : Str → Option Value} {base : Heap} (T : Txt K mg) (B : TBs T base) : FnOk P w K mg base CX0 3 T.f_check_number T.fd_check_number ["j", "total"] (sp_check_number K T.C_Kind T.tabs) := by
  have G_is_count := ok_is_count (P := P) (w := w) (base := base) T B
  refine T.F_check_number.ok sc_check_number (fun vs H Q E h => ?_) (fun cdv A outer s H vs Q E hr h => ?_)
  · obtain ⟨j, t, rfl, _⟩ := h
    rfl
  · obtain ⟨j, t, rfl, h⟩ := h
    have hr_is_count : Room 2 _ := hr.mono (by decide)
    refine ⟨_, (pss_one (ps_if (pt_not (PW.pt (pw_and (pt_val (pe_call G_is_count hr_is_count rfl T.g_is_count T.k_is_count T.b_is_count .nil pass0 (pa_cons (pv 0 (hv := Or.inl rfl)) pa_nil))) (pw_and1 (pt_cmpR op_lt (pv 0 (hv := Or.inl rfl)) (pv 1 (hv := Or.inl rfl)) (nomark _)))))) (pss_one ps_never) pss_nil)), ?_⟩
    try dsimp only [cxOf, Cx.nox, Cx.wish, Cx.blk]
    rw [show L2.start ["j", "total"] [.int j, .int t] = [some (.int j), some (.int t)] from rfl]
    obtain ⟨h1, h2, k⟩ := h
    walk_at "rd"
    refine ⟨j, rfl, ?_⟩
    walk_at "rd"
    refine w_decT h1 ?_
    walk_at "rd"
    refine w_bF (by rw [decide_eq_true h2]; rfl) ?_
    walk_at "rd"
    exact k
def sp_factors_of_two (K : PySem.W.Frag) (C : Addr) (TS : List (Addr × Str)) : Sp := fun vs H Q _ => ∃ (n a : Int) (j : Nat), vs = [.int n] ∧ n = 2 ^ j * (2 * a + 1) ∧ Q (.int (j : Int)) H
theorem ok_factors_of_two {P : Program} {w : World} {K : PySem.W.Frag} {mg : Str → Option Value} {base : Heap} (T : Txt K mg) (B : TBs T base) : FnOk P w K mg base CX0 1 T.f_factors_of_two T.fd_factors_of_two ["n"] (sp_factors_of_two K T.C_Kind T.tabs) := by
  refine T.F_factors_of_two.ok sc_factors_of_two (fun vs H Q E h => ?_) (fun cdv A outer s H vs Q E hr h => ?_)
  · obtain ⟨n, a, j, rfl, _⟩ := h
    rfl
  · obtain ⟨n, a, j, rfl, h⟩ := h
    refine ⟨_, (pss_one (ps_ret (pe_op op_sub (pe_bits (pe_op op_and (pv 0 (hv := Or.inl rfl)) (pe_un un_neg (pv 0 (hv := Or.inl rfl))))) pe_int))), ?_⟩
    try dsimp only [cxOf, Cx.nox, Cx.wish, Cx.blk]
    rw [show L2.start ["n"] [.int n] = [some (.int n)] from rfl]
    obtain ⟨c, k⟩ := h
    walk_at "rd"
    rw [c, PySem.W.kbt_low, bits_pow, show (((j + 1 : Nat) : Int) - 1) = (j : Int) by omega]
    exact k
def sp_Kind___init__ (K : PySem.W.Frag) (C : Addr) (TS : List (Addr × Str)) : Sp := fun vs H Q _ => ∃ (p : Addr) (wd : Nat) (s : Bool), vs = [.ref p, .int (wd : Int), .bl s] ∧ (∃ dx, H p = some (.ins C dx [])) ∧ 1 ≤ wd ∧ wd ≤ 128 ∧ ∀ H', Kd C H' p wd s → Kp p H H' → Q .non H'
theorem ok_Kind___init__ {P : Program} {w : World} {K : PySem.W.Frag} {mg : Str → Option Value} {base : Heap} (T : Txt K mg) (B : TBs T base) : FnOk P w K mg base CX0 2 T.f_Kind___init__ T.fd_Kind___init__ ["self", "bits", "is_signed"] (sp_Kind___init__ K T.C_Kind T.tabs) := by
  have G_is_integer := ok_is_integer (P := P) (w := w) (base := base) T B
  refine T.F_Kind___init__.ok sc_Kind___init__ (fun vs H Q E h => ?_) (fun cdv A outer s H vs Q E hr h => ?_)
  · obtain ⟨p, wd, s, rfl, _⟩ := h
    rfl
  · obtain ⟨p, wd, s, rfl, h⟩ := h
    have hr_is_integer : Room 1 _ := hr.mono (by decide)
    refine ⟨_, (pss_cons (ps_if (pt_not (PW.pt (pw_and (pt_val (pe_call G_is_integer hr_is_integer rfl T.g_is_integer T.k_is_integer T.b_is_integer .nil pass0 (pa_cons (pv 1 (hv := Or.inl rfl)) pa_nil))) (pw_and1 (pt_chain op_le op_le pe_int (pv 1 (hv := Or.inl rfl)) (pe_glob (v := .int 128) rfl T.g_MOST_BITS ⟨_, rfl⟩)))))) (pss_one ps_never) pss_nil)
      (pss_cons (ps_if (pt_not (pt_val (pe_callB (id := "isinstance") (r := rIsi K) call_isi (by rfl) T.n_isinstance (by decide +kernel) (pa_cons (pv 2 (hv := Or.inl rfl)) (pa_cons (pe_bltn (v := .ty "bool") (by rfl) T.n_bool (by decide +kernel) rfl) pa_nil))))) (pss_one ps_never) pss_nil)
      (pss_cons (ps_fld (pv 0 (hv := Or.inl rfl)) (pv 1 (hv := Or.inl rfl)) rfl)
      (pss_one (ps_fld (pv 0 (hv := Or.inl rfl)) (pv 2 (hv := Or.inl rfl)) rfl))))), ?_⟩
    try dsimp only [cxOf, Cx.nox, Cx.wish, Cx.blk]
    rw [show L2.start ["self", "bits", "is_signed"] [.ref p, .int (wd : Int), .bl s] = [some (.ref p), some (.int (wd : Int)), some (.bl s)] from rfl]
    obtain ⟨⟨dx, hp⟩, h1, h2, k⟩ := h
    walk_at "rd"
    refine ⟨_, true, rfl, IntQ.int _, ?_⟩
    walk_at "rd"
    refine iteT ?_
    walk_at "rd"
    refine w_chain ?_
    walk_at "rd"
    refine w_decT (by omega) ?_
    walk_at "rd"
    refine w_bF (by rw [decide_eq_true (show ((wd : Int) ≤ 128) by omega)]; rfl) ?_
    walk_at "rd"
    refine w_isi (b := true) (.base (.bl s)) (by decide +kernel) ?_
    walk_at "rd"
    refine iteF ?_
    walk_at "rd"
    refine ⟨p, _, dx, _, rfl, hp, T.cl_Kind, T.na_Kind_bits, (by show 0 < 1000; decide), ?_⟩
    walk_at "rd"
    refine ⟨p, _, dx, _, rfl, upd_same, T.cl_Kind, T.na_Kind_is_signed, (by show 1 < 1000; decide), ?_⟩
    refine k _ ⟨⟨dx, ?_⟩, h1, h2⟩ ((Kp.refl p H).upd.upd)
    rw [upd_same]
    show some (HO.ins _ _ (if ("bits" : Str) = "is_signed" then [(("bits" : Str), V.bl s)] else (("bits" : Str), V.int (wd : Int)) :: putF "is_signed" (V.bl s) [])) = _
    rw [if_neg (by decide +kernel)]
    rfl
def sp_check_kind (K : PySem.W.Frag) (C : Addr) (TS : List (Addr × Str)) : Sp := fun vs H Q _ => ∃ (p : Addr), vs = [.ref p] ∧ (∃ wd s, Kd C H p wd s) ∧ Q .non H
theorem ok_check_kind {P : Program} {w : World} {K : PySem.W.Frag} {mg : Str → Option Value} {base : Heap} (T : Txt K mg) (B : TBs T base) : FnOk P w K mg base CX0 1 T.f_check_kind T.fd_check_kind ["kind"] (sp_check_kind K T.C_Kind T.tabs) := by
  refine T.F_check_kind.ok sc_check_kind (fun vs H Q E h => ?_) (fun cdv A outer s H vs Q E hr h => ?_)
  · obtain ⟨p, rfl, _⟩ := h
    rfl
  · obtain ⟨p, rfl, h⟩ := h
    refine ⟨_, (pss_one (ps_if (pt_not (pt_val (pe_callB (id := "isinstance") (r := rIsi K) call_isi (by rfl) T.n_isinstance (by decide +kernel) (pa_cons (pv 0 (hv := Or.inl rfl)) (pa_cons (pe_glob (v := .ref T.C_Kind) rfl T.g_Kind rfl) pa_nil))))) (pss_one ps_never) pss_nil)), ?_⟩
    try dsimp only [cxOf, Cx.nox, Cx.wish, Cx.blk]
    rw [show L2.start ["kind"] [.ref p] = [some (.ref p)] from rfl]
    obtain ⟨⟨wd, s, hk⟩, k⟩ := h
    walk_at "rd"
    refine w_isK T hk ?_
    walk_at "rd"
    refine iteF ?_
    walk_at "rd"
    exact k
def sp_least (K : PySem.W.Frag) (C : Addr) (TS : List (Addr × Str)) : Sp := fun vs H Q _ => ∃ (p : Addr) (wd : Nat) (s : Bool), vs = [.ref p] ∧ Kd C H p wd s ∧ Q (.int (loK wd s)) H
theorem ok_least {P : Program} {w : World} {K : PySem.W.Frag} {mg : Str → Option Value} {base : Heap} (T : Txt K mg) (B : TBs T base) : FnOk P w K mg base CX0 2 T.f_least T.fd_least ["kind"] (sp_least K T.C_Kind T.tabs) := by
  have G_check_kind := ok_check_kind (P := P) (w := w) (base := base) T B
  refine T.F_least.ok sc_least (fun vs H Q E h => ?_) (fun cdv A outer s H vs Q E hr h => ?_)
  · obtain ⟨p, wd, s, rfl, _⟩ := h
    rfl
  · obtain ⟨p, wd, s, rfl, h⟩ := h
    have hr_check_kind : Room 1 _ := hr.mono (by decide)
    refine ⟨_, (pss_cons (ps_expr (pe_call G_check_kind hr_check_kind rfl T.g_check_kind T.k_check_kind T.b_check_kind .nil pass0 (pa_cons (pv 0 (hv := Or.inl rfl)) pa_nil)))
      (pss_one (ps_ret (pe_ifExp (pt_val (pe_fld (pv 0 (hv := Or.inl rfl)) rfl)) (pe_un un_neg (pe_op op_shl pe_int (pe_op op_sub (pe_fld (pv 0 (hv := Or.inl rfl)) rfl) pe_int))) pe_int)))), ?_⟩
    try dsimp only [cxOf, Cx.nox, Cx.wish, Cx.blk]
    rw [show L2.start ["kind"] [.ref p] = [some (.ref p)] from rfl]
    obtain ⟨hk, k⟩ := h
    walk_at "rd"
    refine ⟨p, rfl, ⟨wd, s, hk⟩, ?_⟩
    walk_at "rd"
    refine w_if ?_
    walk_at "rd"
    refine w_fs T rfl hk ?_
    walk_at "rd"
    cases s with
    | false =>
      refine iteF ?_
      walk_at "rd"
      have e : loK wd false = 0 := by unfold loK; rw [if_neg Bool.false_ne_true]
      rw [e] at k
      exact k
    | true =>
      refine iteT ?_
      walk_at "rd"
      refine w_fb T rfl hk ?_
      walk_at "rd"
      have h1 := hk.w1
      have h2 := hk.w2
      have e : (wd : Int) - 1 = ((wd - 1 : Nat) : Int) := by omega
      rw [e]
      refine w_I (cpow (n := 1) (by omega) (by decide)) ?_
      walk_at "rd"
      rw [Int.toNat_natCast, Int.one_mul]
      have e : loK wd true = -(2 ^ (wd - 1)) := by unfold loK; rw [if_pos rfl]
      rw [e] at k
      exact k
def sp_greatest (K : PySem.W.Frag) (C : Addr) (TS : List (Addr × Str)) : Sp := fun vs H Q _ => ∃ (p : Addr) (wd : Nat) (s : Bool), vs = [.ref p] ∧ Kd C H p wd s ∧ Q (.int (hiK wd s)) H
theorem ok_greatest {P : Program} {w : World} {K : PySem.W.Frag} {mg : Str → Option Value} {base : Heap} (T : Txt K mg) (B : TBs T base) : FnOk P w K mg base CX0 3 T.f_greatest T.fd_greatest ["kind"] (sp_greatest K T.C_Kind T.tabs) := by
  have G_least := ok_least (P := P) (w := w) (base := base) T B
  refine T.F_greatest.ok sc_greatest (fun vs H Q E h => ?_) (fun cdv A outer s H vs Q E hr h => ?_)
  · obtain ⟨p, wd, s, rfl, _⟩ := h
    rfl
  · obtain ⟨p, wd, s, rfl, h⟩ := h
    have hr_least : Room 2 _ := hr.mono (by decide)
    refine ⟨_, (pss_one (ps_ret (pe_op op_sub (pe_op op_add (pe_call G_least hr_least rfl T.g_least T.k_least T.b_least .nil pass0 (pa_cons (pv 0 (hv := Or.inl rfl)) pa_nil)) (pe_op op_shl pe_int (pe_fld (pv 0 (hv := Or.inl rfl)) rfl))) pe_int))), ?_⟩
    try dsimp only [cxOf, Cx.nox, Cx.wish, Cx.blk]
    rw [show L2.start ["kind"] [.ref p] = [some (.ref p)] from rfl]
    obtain ⟨hk, k⟩ := h
    have h2 := hk.w2
    walk_at "rd"
    refine ⟨p, wd, s, rfl, hk, ?_⟩
    walk_at "rd"
    refine w_fb T rfl hk ?_
    walk_at "rd"
    refine w_I (cpow (n := 1) (by omega) (by decide)) ?_
    walk_at "rd"
    rw [Int.toNat_natCast, Int.one_mul]
    exact k
def sp_is_value (K : PySem.W.Frag) (C : Addr) (TS : List (Addr × Str)) : Sp := fun vs H Q _ => ∃ (p : Addr) (v : V) (wd : Nat) (s : Bool), vs = [.ref p, v] ∧ Kd C H p wd s ∧ ((∃ i : Int, v = .int i ∧ Q (.bl (decide (loK wd s ≤ i ∧ i ≤ hiK wd s))) H) ∨ (IntQ K H v false ∧ Q (.bl false) H))
theorem ok_is_value {P : Program} {w : World} {K : PySem.W.Frag} {mg : Str → Option Value} {base : Heap} (T : Txt K mg) (B : TBs T base) : FnOk P w K mg base CX0 4 T.f_is_value T.fd_is_value ["kind", "x"] (sp_is_value K T.C_Kind T.tabs) := by
  have G_check_kind := ok_check_kind (P := P) (w := w) (base := base) T B
  have G_greatest := ok_greatest (P := P) (w := w) (base := base) T B
  have G_is_integer := ok_is_integer (P := P) (w := w) (base := base) T B
  have G_least := ok_least (P := P) (w := w) (base := base) T B
  refine T.F_is_value.ok sc_is_value (fun vs H Q E h => ?_) (fun cdv A outer s H vs Q E hr h => ?_)
  · obtain ⟨p, v, wd, s, rfl, _⟩ := h
    rfl
  · obtain ⟨p, v, wd, s, rfl, h⟩ := h
    have hr_check_kind : Room 1 _ := hr.mono (by decide)
    have hr_greatest : Room 3 _ := hr.mono (by decide)
    have hr_is_integer : Room 1 _ := hr.mono (by decide)
    have hr_least : Room 2 _ := hr.mono (by decide)
    refine ⟨_, (pss_cons (ps_expr (pe_call G_check_kind hr_check_kind rfl T.g_check_kind T.k_check_kind T.b_check_kind .nil pass0 (pa_cons (pv 0 (hv := Or.inl rfl)) pa_nil)))
      (pss_one (ps_ret (pe_and (pe_call G_is_integer hr_is_integer rfl T.g_is_integer T.k_is_integer T.b_is_integer .nil pass0 (pa_cons (pv 1 (hv := Or.inl rfl)) pa_nil)) (pe_one (pe_chain op_le op_le (pe_call G_least hr_least rfl T.g_least T.k_least T.b_least .nil pass0 (pa_cons (pv 0 (hv := Or.inl rfl)) pa_nil)) (pv 1 (hv := Or.inl rfl)) (pe_call G_greatest hr_greatest rfl T.g_greatest T.k_greatest T.b_greatest .nil pass0 (pa_cons (pv 0 (hv := Or.inl rfl)) pa_nil)))))))), ?_⟩
    try dsimp only [cxOf, Cx.nox, Cx.wish, Cx.blk]
    rw [show L2.start ["kind", "x"] [.ref p, v] = [some (.ref p), some (v)] from rfl]
    obtain ⟨hk, k⟩ := h
    walk_at "rd"
    refine ⟨p, rfl, ⟨wd, s, hk⟩, ?_⟩
    walk_at "rd"
    rcases k with ⟨i, rfl, k⟩ | ⟨hi, k⟩
    · refine ⟨_, true, rfl, IntQ.int _, ?_⟩
      walk_at "rd"
      refine iteT ?_
      refine w_chain ?_
      walk_at "rd"
      refine ⟨p, wd, s, rfl, hk, ?_⟩
      walk_at "rd"
      refine w_dec (fun h1 => ?_) (fun h1 => ?_)
      · walk_at "rd"
        refine ⟨p, wd, s, rfl, hk, ?_⟩
        walk_at "rd"
        have e : decide (loK wd s ≤ i ∧ i ≤ hiK wd s) = decide (i ≤ hiK wd s) := by simp [h1]
        rw [e] at k
        exact k
      · have e : decide (loK wd s ≤ i ∧ i ≤ hiK wd s) = false := by simp [h1]
        rw [e] at k
        exact k
    · refine ⟨_, false, rfl, hi, ?_⟩
      walk_at "rd"
      refine iteF ?_
      exact k
def sp_check_value (K : PySem.W.Frag) (C : Addr) (TS : List (Addr × Str)) : Sp := fun vs H Q _ => ∃ (p : Addr) (i : Int) (z : Str), vs = [.ref p, .int i, .str z] ∧ (∃ wd s, Kd C H p wd s ∧ loK wd s ≤ i ∧ i ≤ hiK wd s) ∧ Q .non H
theorem ok_check_value {P : Program} {w : World} {K : PySem.W.Frag} {mg : Str → Option Value} {base : Heap} (T : Txt K mg) (B : TBs T base) : FnOk P w K mg base CX0 5 T.f_check_value T.fd_check_value ["kind", "x", "argument"] (sp_check_value K T.C_Kind T.tabs) := by
  have G_is_value := ok_is_value (P := P) (w := w) (base := base) T B
  refine T.F_check_value.ok sc_check_value (fun vs H Q E h => ?_) (fun cdv A outer s H vs Q E hr h => ?_)
  · obtain ⟨p, i, z, rfl, _⟩ := h
    rfl
  · obtain ⟨p, i, z, rfl, h⟩ := h
    have hr_is_value : Room 4 _ := hr.mono (by decide)
    refine ⟨_, (pss_one (ps_if (pt_not (pt_val (pe_call G_is_value hr_is_value rfl T.g_is_value T.k_is_value T.b_is_value .nil pass0 (pa_cons (pv 0 (hv := Or.inl rfl)) (pa_cons (pv 1 (hv := Or.inl rfl)) pa_nil))))) (pss_one ps_never) pss_nil)), ?_⟩
    try dsimp only [cxOf, Cx.nox, Cx.wish, Cx.blk]
    rw [show L2.start ["kind", "x", "argument"] [.ref p, .int i, .str z] = [some (.ref p), some (.int i), some (.str z)] from rfl]
    obtain ⟨⟨wd, s, hk, h1, h2⟩, k⟩ := h
    walk_at "rd"
    refine ⟨p, _, wd, s, rfl, hk, Or.inl ⟨i, rfl, ?_⟩⟩
    walk_at "rd"
    rw [decide_eq_true (show loK wd s ≤ i ∧ i ≤ hiK wd s from ⟨h1, h2⟩)]
    refine iteF ?_
    walk_at "rd"
    exact k
def sp_wrapped (K : PySem.W.Frag) (C : Addr) (TS : List (Addr × Str)) : Sp := fun vs H Q _ => ∃ (p : Addr) (i : Int) (wd : Nat) (s : Bool), vs = [.ref p, .int i] ∧ Kd C H p wd s ∧ Q (.int (wr wd s i)) H
theorem ok_wrapped {P : Program} {w : World} {K : PySem.W.Frag} {mg : Str → Option Value} {base : Heap} (T : Txt K mg) (B : TBs T base) : FnOk P w K mg base CX0 3 T.f_wrapped T.fd_wrapped ["kind", "n"] (sp_wrapped K T.C_Kind T.tabs) := by
  have G_check_integer := ok_check_integer (P := P) (w := w) (base := base) T B
  have G_check_kind := ok_check_kind (P := P) (w := w) (base := base) T B
  have G_least := ok_least (P := P) (w := w) (base := base) T B
  refine T.F_wrapped.ok sc_wrapped (fun vs H Q E h => ?_) (fun cdv A outer s H vs Q E hr h => ?_)
  · obtain ⟨p, i, wd, s, rfl, _⟩ := h
    rfl
  · obtain ⟨p, i, wd, s, rfl, h⟩ := h
    have hr_check_integer : Room 2 _ := hr.mono (by decide)
    have hr_check_kind : Room 1 _ := hr.mono (by decide)
    have hr_least : Room 2 _ := hr.mono (by decide)
    refine ⟨_, (pss_cons (ps_expr (pe_call G_check_kind hr_check_kind rfl T.g_check_kind T.k_check_kind T.b_check_kind .nil pass0 (pa_cons (pv 0 (hv := Or.inl rfl)) pa_nil)))
      (pss_cons (ps_expr (pe_call G_check_integer hr_check_integer rfl T.g_check_integer T.k_check_integer T.b_check_integer .nil pass0 (pa_cons (pv 1 (hv := Or.inl rfl)) (pa_cons pe_str pa_nil))))
      (pss_cons (ps_set (i := 2) sc_wrapped.nd rfl (Or.inl rfl) (pe_call G_least hr_least rfl T.g_least T.k_least T.b_least .nil pass0 (pa_cons (pv 0 (hv := Or.inl rfl)) pa_nil)))
      (pss_one (ps_ret (pe_op op_add (pv 2 (hv := Or.inl rfl)) (pe_op op_mod (pe_op op_sub (pv 1 (hv := Or.inl rfl)) (pv 2 (hv := Or.inl rfl))) (pe_op op_shl pe_int (pe_fld (pv 0 (hv := Or.inl rfl)) rfl))))))))), ?_⟩
    try dsimp only [cxOf, Cx.nox, Cx.wish, Cx.blk]
    rw [show L2.start ["kind", "n", "low"] [.ref p, .int i] = [some (.ref p), some (.int i), none] from rfl]
    obtain ⟨hk, k⟩ := h
    have h2 := hk.w2
    walk_at "rd"
    refine ⟨p, rfl, ⟨wd, s, hk⟩, ?_⟩
    walk_at "rd"
    refine ⟨_, _, rfl, ?_⟩
    walk_at "rd"
    refine ⟨p, wd, s, rfl, hk, ?_⟩
    walk_at "rd"
    refine w_fb T rfl hk ?_
    walk_at "rd"
    refine w_I (cpow (n := 1) (by omega) (by decide)) ?_
    rw [Int.toNat_natCast, Int.one_mul]
    refine w_I (p2 wd) ?_
    walk_at "rd"
    exact k
def sp_wanted_of (K : PySem.W.Frag) (C : Addr) (TS : List (Addr × Str)) : CP → Sp := fun CC => fun vs H Q _ => ∃ (f : Addr) (first last j : Int) (p : Int → Bool), vs = [.ref f, .int first, .int last, .int (tot p first last), .int j] ∧ CC 12 f (spT2 TS H p first last) ∧ BB first ∧ BB last ∧ 0 ≤ j ∧ j < tot p first last ∧ ∀ x H', AtOf p first last j x → Sm TS H H' → Q (.int x) H'
theorem ok_wanted_of {P : Program} {w : World} {K : PySem.W.Frag} {mg : Str → Option Value} {base : Heap} (T : Txt K mg) (B : TBs T base) : FnOkC P w K mg base 16 T.f_wanted_of T.fd_wanted_of ["total", "first", "last", "many", "j"] (sp_wanted_of K T.C_Kind T.tabs) := by
  refine Fw.okC T.F_wanted_of sc_wanted_of (fun CC vs H Q E h => ?_) (fun cdv A outer s H vs Q hr h => ?_)
  · obtain ⟨f, first, last, j, p, rfl, _⟩ := h
    rfl
  · let CC : CP := Cal P w K mg base outer H s
    obtain ⟨f, first, last, j, p, rfl, h⟩ := h
    refine ⟨_, (pss_cons (ps_set (i := 5) sc_wanted_of.nd rfl (Or.inl rfl) pe_int)
      (pss_cons (ps_while PassesOwn.never (pt_cmpR op_le (pv 3 (hv := Or.inl rfl)) (pe_op op_sub (pv 2 (hv := Or.inl rfl)) (pv 1 (hv := Or.inl rfl))) (nomark _))
        (pss_cons (ps_set (i := 6) sc_wanted_of.nd rfl (Or.inl rfl) (pe_op op_sub (pv 2 (hv := Or.inl rfl)) (pv 1 (hv := Or.inl rfl))))
      (pss_cons (ps_set (i := 7) sc_wanted_of.nd rfl (Or.inl rfl) (pe_callB (id := "max") (r := rmax2C) (call_max2 rfl) (by rfl) T.n_max (by decide +kernel) (pa_cons pe_int (pa_cons (pe_op op_shr (pe_bits (pv 6 (hv := Or.inl rfl))) (pv 5 (hv := Or.inl rfl))) pa_nil))))
      (pss_cons (ps_set (i := 8) sc_wanted_of.nd rfl (Or.inl rfl) (pe_op op_add (pv 1 (hv := Or.inl rfl)) (pe_op op_fdivW (pe_op op_mulX (pv 6 (hv := Or.inl rfl)) (pe_op op_add (pe_op op_mul pe_int (pv 4 (hv := Or.inl rfl))) pe_int)) (pe_op op_mul pe_int (pv 3 (hv := Or.inl rfl))))))
      (pss_cons (ps_set (i := 9) sc_wanted_of.nd rfl (Or.inl rfl) (pe_op op_add (pv 1 (hv := Or.inl rfl)) (pe_op op_fdiv (pe_op op_sub (pv 6 (hv := Or.inl rfl)) pe_int) pe_int)))
      (pss_cons (ps_set (i := 10) sc_wanted_of.nd rfl (Or.inl rfl) (pe_cmpR op_le (pv 8 (hv := Or.inl rfl)) (pv 9 (hv := Or.inl rfl)) (nomark _)))
      (pss_cons (ps_if (pt_val (pv 10 (hv := Or.inl rfl))) (pss_cons (ps_set (i := 11) sc_wanted_of.nd rfl (Or.inl rfl) (pe_callB (id := "min") (r := rmin2C) (call_min2 rfl) (by rfl) T.n_min (by decide +kernel) (pa_cons (pe_op op_add (pv 8 (hv := Or.inl rfl)) (pe_op op_shr (pv 6 (hv := Or.inl rfl)) (pv 7 (hv := Or.inl rfl)))) (pa_cons (pv 9 (hv := Or.inl rfl)) pa_nil))))
      (pss_one (ps_set (i := 12) sc_wanted_of.nd rfl (Or.inl rfl) (pe_cal (C := CC) (k := 12) (i := 0) (fun _ _ _ z => z) (hr.mono (by decide)) rfl (Or.inl rfl) rfl (pa_cons (pv 1 (hv := Or.inl rfl)) (pa_cons (pv 11 (hv := Or.inl rfl)) pa_nil)))))) (pss_cons (ps_set (i := 11) sc_wanted_of.nd rfl (Or.inl rfl) (pe_callB (id := "max") (r := rmax2C) (call_max2 rfl) (by rfl) T.n_max (by decide +kernel) (pa_cons (pe_op op_sub (pe_op op_sub (pv 8 (hv := Or.inl rfl)) (pe_op op_shr (pv 6 (hv := Or.inl rfl)) (pv 7 (hv := Or.inl rfl)))) pe_int) (pa_cons (pv 9 (hv := Or.inl rfl)) pa_nil))))
      (pss_one (ps_set (i := 12) sc_wanted_of.nd rfl (Or.inl rfl) (pe_op op_sub (pv 3 (hv := Or.inl rfl)) (pe_cal (C := CC) (k := 12) (i := 0) (fun _ _ _ z => z) (hr.mono (by decide)) rfl (Or.inl rfl) rfl (pa_cons (pe_op op_add (pv 11 (hv := Or.inl rfl)) pe_int) (pa_cons (pv 2 (hv := Or.inl rfl)) pa_nil))))))))
      (pss_cons (ps_set (i := 13) sc_wanted_of.nd rfl (Or.inl rfl) (pe_cmpR op_lt (pv 4 (hv := Or.inl rfl)) (pv 12 (hv := Or.inl rfl)) (nomark _)))
      (pss_cons (ps_if (pt_val (pv 13 (hv := Or.inl rfl))) (pss_one (ps_par rfl sc_wanted_of.nd (i := 2) (j := 3) rfl rfl (by decide) rfl rfl (pa_cons (pv 11 (hv := Or.inl rfl)) (pa_cons (pv 12 (hv := Or.inl rfl)) pa_nil)) (by rfl))) (pss_one (ps_par3 rfl sc_wanted_of.nd (i := 1) (j := 3) (l := 4) rfl rfl rfl (by decide) (by decide) (by decide) rfl rfl rfl (pa_cons (pe_op op_add (pv 11 (hv := Or.inl rfl)) pe_int) (pa_cons (pe_op op_sub (pv 3 (hv := Or.inl rfl)) (pv 12 (hv := Or.inl rfl))) (pa_cons (pe_op op_sub (pv 4 (hv := Or.inl rfl)) (pv 12 (hv := Or.inl rfl))) pa_nil))) (by rfl))))
      (pss_one (ps_if (pt_cmpR op_eq (pv 13 (hv := Or.inl rfl)) (pv 10 (hv := Or.inl rfl)) (nomark _)) (pss_one (ps_set (i := 5) sc_wanted_of.nd rfl (Or.inl rfl) (pe_callB (id := "max") (r := rmax2C) (call_max2 rfl) (by rfl) T.n_max (by decide +kernel) (pa_cons pe_int (pa_cons (pe_op op_sub (pv 5 (hv := Or.inl rfl)) pe_int) pa_nil))))) (pss_one (ps_if (pt_cmpR op_gt (pv 7 (hv := Or.inl rfl)) pe_int (nomark _)) (pss_one (ps_aug (i := 5) sc_wanted_of.nd rfl (Or.inl rfl) pe_int ip_add)) pss_nil)))))))))))))
      (pss_one (ps_ret (pe_op op_add (pv 1 (hv := Or.inl rfl)) (pv 4 (hv := Or.inl rfl))))))), ?_⟩
    try dsimp only [cxOf, Cx.nox, Cx.wish, Cx.blk]
    rw [show L2.start ["total", "first", "last", "many", "j", "doubt", "width", "room", "guess", "middle", "is_low", "split", "ahead", "is_ahead"] [.ref f, .int first, .int last, .int (tot p first last), .int j] = [some (.ref f), some (.int first), some (.int last), some (.int (tot p first last)), some (.int j), none, none, none, none, none, none, none, none, none] from rfl]
    obtain ⟨hc, bf, bl, j0, j1, k⟩ := h
    unfold BB at bf bl
    have h302 : (2 : Nat) ^ 302 = 4 * 2 ^ 300 := by decide +kernel
    have fl : first ≤ last := Int.not_lt.mp fun c => by rw [tot_none c] at j1; omega
    walk_at "rd"
    refine w_while (fun m σ H' => ∃ (A B M J dbt : Int) (v6 v7 v8 v9 v10 v11 v12 v13 : Option V), σ = [some (.ref f), some (.int A), some (.int B), some (.int M), some (.int J), some (.int dbt), v6, v7, v8, v9, v10, v11, v12, v13] ∧ m = (B - A).toNat ∧ first ≤ A ∧ A ≤ B ∧ B ≤ last ∧ M = tot p A B ∧ 0 ≤ J ∧ J < M ∧ tot p first (A - 1) + J = j ∧ 1 ≤ dbt ∧ Sm T.tabs H H')
      (last - first).toNat ⟨first, last, _, j, 1, none, none, none, none, none, none, none, none, rfl, rfl, Int.le_refl _, fl, Int.le_refl _, rfl, j0, j1, by rw [tot_none (show first - 1 < first by omega)]; omega, by decide, Sm.refl H⟩ ?_
    rintro m σ H' ⟨A, B, M, J, dbt, v6, v7, v8, v9, v10, v11, v12, v13, rfl, rfl, hA, hAB, hB, hM, hJ0, hJ1, hj, hd, sm⟩
    walk_at "rd"
    refine w_dec (fun c => ?_) (fun c => ?_)
    · refine ⟨_, fun _ _ h => h, ?_⟩
      walk_at "rd"
      refine w_I (show (0 : Int) ≤ dbt by omega) ?_
      walk_at "rd"
      refine w_max2 ?_
      have r1 := Int.le_max_left 1 (((Builtin.Int.intBits (B - A) : Nat) : Int) / 2 ^ dbt.toNat)
      generalize max (1 : Int) (((Builtin.Int.intBits (B - A) : Nat) : Int) / 2 ^ dbt.toNat) = r at r1 ⊢
      obtain ⟨g0, g1⟩ := guess_lt (W := B - A) (M := M) (J := J) (by omega) c hJ0 hJ1
      walk_at "rd"
      refine w_I (mulx_ok (show (B - A).natAbs < 2 ^ 302 by omega) (show (2 * J + 1).natAbs < 2 ^ 303 by rw [show (2 : Nat) ^ 303 = 8 * 2 ^ 300 from by decide +kernel]; omega) (by decide)) ?_
      walk_at "rd"
      refine w_I (wide_div (show (0 : Int) < 2 * M by omega) (show (2 * M).natAbs < 2 ^ 303 by rw [show (2 : Nat) ^ 303 = 8 * 2 ^ 300 from by decide +kernel]; omega) (by decide) (by decide)) ?_
      generalize (B - A) * (2 * J + 1) / (2 * M) = g at g0 g1 ⊢
      walk_at "rd"
      have s0 : 0 ≤ (B - A) / 2 ^ r.toNat := Int.ediv_nonneg (by omega) (Int.le_of_lt (Int.pow_pos (by decide)))
      refine w_stJ (fun σ' H2 => (∃ sp : Int, σ' = [some (.ref f), some (.int A), some (.int B), some (.int M), some (.int J), some (.int dbt), some (.int (B - A)), some (.int r), some (.int (A + g)), some (.int (A + (B - A - 1) / 2)), some (.bl (decide (A + g ≤ A + (B - A - 1) / 2))), some (.int sp), some (.int (tot p A sp)), v13] ∧ A ≤ sp ∧ sp < B) ∧ Sm T.tabs H H2) (fun c1 D' q => ?_) (fun c1 D' q => ?_) ?_
      · walk_at "rd"
        refine w_I (show (0 : Int) ≤ r by omega) ?_
        walk_at "rd"
        refine w_min2 ?_
        have m1 : A ≤ min (A + g + (B - A) / 2 ^ r.toNat) (A + (B - A - 1) / 2) ∧ min (A + g + (B - A) / 2 ^ r.toNat) (A + (B - A - 1) / 2) < B := by omega
        generalize min (A + g + (B - A) / 2 ^ r.toNat) (A + (B - A - 1) / 2) = sp at m1 ⊢
        walk_at "rd"
        refine ⟨f, _, rfl, hc, ?_⟩
        walk_at "rd"
        refine ⟨A, sp, rfl, hA, by omega, by omega, sm, fun H2 s2 => ?_⟩
        walk_at "rd"
        exact q _ _ ⟨⟨sp, rfl, m1.1, m1.2⟩, sm.trans s2⟩
      · walk_at "rd"
        refine w_I (show (0 : Int) ≤ r by omega) ?_
        walk_at "rd"
        refine w_max2 ?_
        have m1 : A ≤ max (A + g - (B - A) / 2 ^ r.toNat - 1) (A + (B - A - 1) / 2) ∧ max (A + g - (B - A) / 2 ^ r.toNat - 1) (A + (B - A - 1) / 2) < B := by omega
        generalize max (A + g - (B - A) / 2 ^ r.toNat - 1) (A + (B - A - 1) / 2) = sp at m1 ⊢
        walk_at "rd"
        refine ⟨f, _, rfl, hc, ?_⟩
        walk_at "rd"
        refine ⟨sp + 1, B, rfl, by omega, hB, by omega, sm, fun H2 s2 => ?_⟩
        walk_at "rd"
        have e := tot_split p (first := A) (mid := sp) (last := B) (by omega) (by omega)
        rw [show M - tot p (sp + 1) B = tot p A sp by omega]
        exact q _ _ ⟨⟨sp, rfl, m1.1, m1.2⟩, sm.trans s2⟩
      · rintro σ' H2 ⟨⟨sp, rfl, m1, m2⟩, s2⟩
        have e := tot_split p (first := A) (mid := sp) (last := B) (by omega) (by omega)
        have n1 := tot_nonneg p A sp
        generalize decide (A + g ≤ A + (B - A - 1) / 2) = isl
        walk_at "rd"
        refine w_stJ (fun σ' H3 => (∃ (A' B' M' J' : Int) (b : Bool), σ' = [some (.ref f), some (.int A'), some (.int B'), some (.int M'), some (.int J'), some (.int dbt), some (.int (B - A)), some (.int r), some (.int (A + g)), some (.int (A + (B - A - 1) / 2)), some (.bl isl), some (.int sp), some (.int (tot p A sp)), some (.bl b)] ∧ (B' - A').toNat < (B - A).toNat ∧ first ≤ A' ∧ A' ≤ B' ∧ B' ≤ last ∧ M' = tot p A' B' ∧ 0 ≤ J' ∧ J' < M' ∧ tot p first (A' - 1) + J' = j) ∧ Sm T.tabs H H3) (fun c1 D' q => ?_) (fun c1 D' q => ?_) ?_
        · walk_at "rd"
          exact q _ _ ⟨⟨A, sp, _, J, _, rfl, by omega, hA, m1, by omega, rfl, hJ0, c1, hj⟩, s2⟩
        · walk_at "rd"
          refine w_par3 ?_
          walk_at "rd"
          refine ⟨_, _, _, rfl, ?_⟩
          have e2 := tot_split p (first := first) (mid := A - 1) (last := sp) (by omega) (by omega)
          rw [show A - 1 + 1 = A by omega] at e2
          exact q _ _ ⟨⟨sp + 1, B, _, J - tot p A sp, _, rfl, by omega, by omega, by omega, hB, by omega, by omega, by omega, by rw [show sp + 1 - 1 = sp by omega]; omega⟩, s2⟩
        · rintro σ' H3 ⟨⟨A', B', M', J', b, rfl, k1, k2, k3, k4, k5, k6, k7, k8⟩, s3⟩
          walk_at "rd"
          refine w_dec (fun c2 => ?_) (fun c2 => ?_)
          · walk_at "rd"
            refine w_max2 ?_
            exact ⟨_, k1, A', B', M', J', _, _, _, _, _, _, _, _, _, rfl, rfl, k2, k3, k4, k5, k6, k7, k8, Int.le_max_left _ _, s3⟩
          · walk_at "rd"
            refine w_dec (fun c3 => ?_) (fun c3 => ?_)
            · walk_at "rd"
              refine w_aug rfl ?_
              walk_at "rd"
              refine ⟨_, _, rfl, rfl, ?_⟩
              exact ⟨_, k1, A', B', M', J', _, _, _, _, _, _, _, _, _, rfl, rfl, k2, k3, k4, k5, k6, k7, k8, by omega, s3⟩
            · walk_at "rd"
              exact ⟨_, k1, A', B', M', J', _, _, _, _, _, _, _, _, _, rfl, rfl, k2, k3, k4, k5, k6, k7, k8, hd, s3⟩
    · walk_at "rd"
      have tl := tot_le p (first := A) (last := B) (by omega)
      have ta := (tot_all_iff (p := p) (first := A) (last := B) (by omega)).mp (by omega)
      have e2 := tot_split p (first := first) (mid := A - 1) (last := A + J - 1) (by omega) (by omega)
      rw [show A - 1 + 1 = A by omega] at e2
      have tb := (tot_all_iff (p := p) (first := A) (last := A + J - 1) (by omega)).mpr fun x x1 x2 => ta x x1 (by omega)
      exact k _ _ ⟨by omega, by omega, ta _ (by omega) (by omega), by omega⟩ sm
def sp_wanted_at (K : PySem.W.Frag) (C : Addr) (TS : List (Addr × Str)) : CP → Sp := fun CC => fun vs H Q _ => ∃ (f : Addr) (first last j : Int) (p : Int → Bool), vs = [.ref f, .int first, .int last, .int j] ∧ CC 12 f (spT3 TS H p first last) ∧ BB first ∧ BB last ∧ first ≤ last + 1 ∧ 0 ≤ j ∧ j < tot p first last ∧ ∀ x H', AtOf p first last j x → Sm TS H H' → Q (.int x) H'
theorem ok_wanted_at {P : Program} {w : World} {K : PySem.W.Frag} {mg : Str → Option Value} {base : Heap} (T : Txt K mg) (B : TBs T base) : FnOkC P w K mg base 18 T.f_wanted_at T.fd_wanted_at ["total", "first", "last", "j"] (sp_wanted_at K T.C_Kind T.tabs) := by
  have G_check_number := ok_check_number (P := P) (w := w) (base := base) T B
  have G_wanted_of := ok_wanted_of (P := P) (w := w) (base := base) T B
  refine Fw.okC T.F_wanted_at sc_wanted_at (fun CC vs H Q E h => ?_) (fun cdv A outer s H vs Q hr h => ?_)
  · obtain ⟨f, first, last, j, p, rfl, _⟩ := h
    rfl
  · let CC : CP := Cal P w K mg base outer H s
    obtain ⟨f, first, last, j, p, rfl, h⟩ := h
    have hr_check_number : Room 3 _ := hr.mono (by decide)
    have hr_wanted_of : Room 16 _ := hr.mono (by decide)
    refine ⟨_, (pss_cons (ps_set (i := 4) sc_wanted_at.nd rfl (Or.inl rfl) (pe_cal (C := CC) (k := 12) (i := 0) (fun _ _ _ z => z) (hr.mono (by decide)) rfl (Or.inl rfl) rfl (pa_cons (pv 1 (hv := Or.inl rfl)) (pa_cons (pv 2 (hv := Or.inl rfl)) pa_nil))))
      (pss_cons (ps_expr (pe_call G_check_number hr_check_number rfl T.g_check_number T.k_check_number T.b_check_number .nil pass0 (pa_cons (pv 3 (hv := Or.inl rfl)) (pa_cons (pv 4 (hv := Or.inl rfl)) pa_nil))))
      (pss_one (ps_ret (pe_callC (C := CC) (fun _ _ _ z => z) G_wanted_of hr_wanted_of rfl T.g_wanted_of T.k_wanted_of T.b_wanted_of rfl (pa_cons (pv 0 (hv := Or.inl rfl)) (pa_cons (pv 1 (hv := Or.inl rfl)) (pa_cons (pv 2 (hv := Or.inl rfl)) (pa_cons (pv 4 (hv := Or.inl rfl)) (pa_cons (pv 3 (hv := Or.inl rfl)) pa_nil)))))))))), ?_⟩
    try dsimp only [cxOf, Cx.nox, Cx.wish, Cx.blk]
    rw [show L2.start ["total", "first", "last", "j", "many"] [.ref f, .int first, .int last, .int j] = [some (.ref f), some (.int first), some (.int last), some (.int j), none] from rfl]
    obtain ⟨hc, bf, bl, fl, j0, j1, k⟩ := h
    
    walk_at "rd"
    refine ⟨f, _, rfl, hc, ?_⟩
    walk_at "rd"
    refine ⟨first, last, rfl, Int.le_refl _, Int.le_refl _, fl, Sm.refl H, fun H1 s1 => ?_⟩
    have tn := tot_nonneg p first last
    walk_at "rd"
    refine ⟨j, _, rfl, j0, j1, ?_⟩
    walk_at "rd"
    unfold tCallC
    walk_at "rd"
    intro C' hC'
    refine ⟨f, first, last, j, p, rfl, hC' 12 f _ _ hc (fun vs H2 Q2 z => ?_), bf, bl, by omega, by omega, fun x H2 hx s2 => ?_⟩
    · obtain ⟨u, v, rfl, z1, z2, z3, z4, z5⟩ := z
      exact ⟨u, v, rfl, z1, z2, by omega, s1.trans z4, z5⟩
    exact k _ _ hx (s1.trans s2)
def sp_is_polynomial (K : PySem.W.Frag) (C : Addr) (TS : List (Addr × Str)) : Sp := fun vs H Q _ => ∃ (p : Addr) (cs : List Int), vs = [.ref p] ∧ H p = some (.lst (cs.map V.int)) ∧ 1 ≤ cs.length ∧ cs.length ≤ 9 ∧ (∀ c ∈ cs, SD c) ∧ ∀ H', Same H H' → Q (.bl true) H'
theorem ok_is_polynomial {P : Program} {w : World} {K : PySem.W.Frag} {mg : Str → Option Value} {base : Heap} (T : Txt K mg) (B : TBs T base) : FnOk P w K mg base CX0 3 T.f_is_polynomial T.fd_is_polynomial ["value"] (sp_is_polynomial K T.C_Kind T.tabs) := by
  have G_is_sixty_digits := ok_is_sixty_digits (P := P) (w := w) (base := base) T B
  refine T.F_is_polynomial.ok sc_is_polynomial (fun vs H Q E h => ?_) (fun cdv A outer s H vs Q E hr h => ?_)
  · obtain ⟨p, cs, rfl, _⟩ := h
    rfl
  · obtain ⟨p, cs, rfl, h⟩ := h
    have hr_is_sixty_digits : Room 2 _ := hr.mono (by decide)
    refine ⟨_, (pss_cons (ps_if (pt_not (PW.pt (pw_and (pt_val (pe_callB (id := "isinstance") (r := rIsi K) call_isi (by rfl) T.n_isinstance (by decide +kernel) (pa_cons (pv 0 (hv := Or.inl rfl)) (pa_cons (pe_bltn (v := .ty "list") (by rfl) T.n_list (by decide +kernel) rfl) pa_nil)))) (pw_and1 (pt_chain op_le op_le pe_int (pe_callB (id := "len") (r := rLenS K) call_len_seq (by rfl) T.n_len (by decide +kernel) (pa_cons (pv 0 (hv := Or.inl rfl)) pa_nil)) (pe_glob (v := .int 9) rfl T.g_MOST_COEFFICIENTS ⟨_, rfl⟩)))))) (pss_one (ps_ret pe_bl)) pss_nil)
      (pss_one (ps_ret (pe_callB (id := "all") (r := rAll K) (cr_all rfl) (by rfl) T.n_all (by decide +kernel) (pa_cons (pe_lc (own := [("coefficient", 1)]) (g := gName 1) (tt := tYes) (by rfl) sc_is_polynomial.nd (pi_list (pv 0 (hv := Or.inl rfl))) (blkOk_by (own := [("coefficient", 1)]) (N := ["value", "coefficient"]) (sc := defScope s_is_polynomial) (by decide +kernel)) (fun _ _ _ _ _ => (pg_name (i := 1) sc_is_polynomial.nd rfl (Or.inl rfl))) (fun _ _ _ _ _ => pts_nil) (fun _ _ _ _ _ => (pe_call G_is_sixty_digits hr_is_sixty_digits rfl T.g_is_sixty_digits T.k_is_sixty_digits T.b_is_sixty_digits .nil pass0 (pa_cons (pv 1 (hv := Or.inl rfl)) pa_nil)))) pa_nil))))), ?_⟩
    try dsimp only [cxOf, Cx.nox, Cx.wish, Cx.blk]
    rw [show L2.start ["value", "coefficient"] [.ref p] = [some (.ref p), none] from rfl]
    obtain ⟨hp, l1, l9, hc, k⟩ := h
    walk_at "rd"
    refine w_isi (b := true) (.base (.lst hp)) (by decide +kernel) ?_
    walk_at "rd"
    refine iteT ?_
    walk_at "rd"
    refine w_chain ?_
    walk_at "rd"
    refine w_len hp ?_
    walk_at "rd"
    rw [List.length_map, decide_eq_true (show (1 : Int) ≤ (cs.length : Int) by omega)]
    refine iteT ?_
    walk_at "rd"
    rw [decide_eq_true (show (cs.length : Int) ≤ 9 by omega)]
    refine iteF ?_
    walk_at "rd"
    refine ⟨⟨_, SqL.of hp⟩, fun D hD => lc_list (K := K) (a := p) (xs := cs.map V.int) (fun j H' => H' D = some (.lst ((List.replicate j true).map V.bl)) ∧ Same H H') ⟨upd_same, sm_new (Same.refl H) hD⟩ (fun i H' _ q => SqL.of (q.2 _ _ hp)) ?_ ?_⟩
    · rintro j z H' hj ⟨hd, sm⟩
      obtain ⟨c, hcj, rfl⟩ := map_get hj
      have sc := hc c (List.mem_of_getElem? hcj)
      walk_at "rd"
      refine ⟨rfl, ?_⟩
      walk_at "rd"
      refine iteT ?_
      walk_at "rd"
      refine ⟨c, rfl, ?_⟩
      rw [decide_eq_true (show -(10 ^ 60) < c ∧ c < 10 ^ 60 from sc)]
      have jl := (List.getElem?_eq_some_iff.mp hcj).1
      refine ⟨_, hd, by rw [List.length_map, List.length_replicate]; exact Nat.lt_of_lt_of_le (show j < 9 by omega) (by decide), ?_, sm_mut sm hD⟩
      rw [upd_same, List.replicate_succ', List.map_append]; rfl
    rintro H' ⟨hd, sm⟩
    walk_at "rd"
    refine w_all hd ?_
    rw [show (List.replicate (cs.map V.int).length true).all id = true by simp]
    exact k _ sm
def sp_check_polynomial (K : PySem.W.Frag) (C : Addr) (TS : List (Addr × Str)) : Sp := fun vs H Q _ => ∃ (kp p : Addr) (cs : List Int), vs = [.ref kp, .ref p] ∧ (∃ wd s, Kd C H kp wd s) ∧ H p = some (.lst (cs.map V.int)) ∧ 1 ≤ cs.length ∧ cs.length ≤ 9 ∧ (∀ c ∈ cs, SD c) ∧ ∀ H', Same H H' → Q .non H'
theorem ok_check_polynomial {P : Program} {w : World} {K : PySem.W.Frag} {mg : Str → Option Value} {base : Heap} (T : Txt K mg) (B : TBs T base) : FnOk P w K mg base CX0 4 T.f_check_polynomial T.fd_check_polynomial ["kind", "polynomial"] (sp_check_polynomial K T.C_Kind T.tabs) := by
  have G_check_kind := ok_check_kind (P := P) (w := w) (base := base) T B
  have G_is_polynomial := ok_is_polynomial (P := P) (w := w) (base := base) T B
  refine T.F_check_polynomial.ok sc_check_polynomial (fun vs H Q E h => ?_) (fun cdv A outer s H vs Q E hr h => ?_)
  · obtain ⟨kp, p, cs, rfl, _⟩ := h
    rfl
  · obtain ⟨kp, p, cs, rfl, h⟩ := h
    have hr_check_kind : Room 1 _ := hr.mono (by decide)
    have hr_is_polynomial : Room 3 _ := hr.mono (by decide)
    refine ⟨_, (pss_cons (ps_expr (pe_call G_check_kind hr_check_kind rfl T.g_check_kind T.k_check_kind T.b_check_kind .nil pass0 (pa_cons (pv 0 (hv := Or.inl rfl)) pa_nil)))
      (pss_one (ps_if (pt_not (pt_val (pe_call G_is_polynomial hr_is_polynomial rfl T.g_is_polynomial T.k_is_polynomial T.b_is_polynomial .nil pass0 (pa_cons (pv 1 (hv := Or.inl rfl)) pa_nil)))) (pss_one ps_never) pss_nil))), ?_⟩
    try dsimp only [cxOf, Cx.nox, Cx.wish, Cx.blk]
    rw [show L2.start ["kind", "polynomial"] [.ref kp, .ref p] = [some (.ref kp), some (.ref p)] from rfl]
    obtain ⟨⟨wd, s, hk⟩, hp, l1, l9, hc, k⟩ := h
    walk_at "rd"
    refine ⟨kp, rfl, ⟨wd, s, hk⟩, ?_⟩
    walk_at "rd"
    refine ⟨p, cs, rfl, hp, l1, l9, hc, fun H1 s1 => ?_⟩
    walk_at "rd"
    refine iteF ?_
    walk_at "rd"
    exact k _ s1
def sp__value (K : PySem.W.Frag) (C : Addr) (TS : List (Addr × Str)) : Sp := fun vs H Q _ => ∃ (p : Addr) (cs : List Int) (x : Int) (b : Nat), vs = [.ref p, .int x, .int (2 ^ b)] ∧ H p = some (.lst (cs.map V.int)) ∧ b ≤ 200 ∧ x.natAbs < 2 ^ 3000 ∧ Q (.int (pvl cs x % 2 ^ b)) H
theorem ok__value {P : Program} {w : World} {K : PySem.W.Frag} {mg : Str → Option Value} {base : Heap} (T : Txt K mg) (B : TBs T base) : FnOk P w K mg base CX0 1 T.f__value T.fd__value ["polynomial", "x", "size"] (sp__value K T.C_Kind T.tabs) := by
  refine T.F__value.ok sc__value (fun vs H Q E h => ?_) (fun cdv A outer s H vs Q E hr h => ?_)
  · obtain ⟨p, cs, x, b, rfl, _⟩ := h
    rfl
  · obtain ⟨p, cs, x, b, rfl, h⟩ := h
    refine ⟨_, (pss_cons (ps_set (i := 3) sc__value.nd rfl (Or.inl rfl) pe_int)
      (pss_cons (ps_for PassesOwn.never rfl (pi_reversed (by rfl) T.n_reversed (pa_cons (pv 0 (hv := Or.inl rfl)) pa_nil)) (pg_name (i := 4) sc__value.nd rfl (Or.inl rfl))
        (pss_one (ps_set (i := 3) sc__value.nd rfl (Or.inl rfl) (pe_op op_mod (pe_op op_add (pe_op op_mulX (pv 3 (hv := Or.inl rfl)) (pv 1 (hv := Or.inl rfl))) (pv 4 (hv := Or.inl rfl))) (pv 2 (hv := Or.inl rfl))))))
      (pss_one (ps_ret (pv 3 (hv := Or.inl rfl)))))), ?_⟩
    try dsimp only [cxOf, Cx.nox, Cx.wish, Cx.blk]
    rw [show L2.start ["polynomial", "x", "size", "total", "coefficient"] [.ref p, .int x, .int (2 ^ b)] = [some (.ref p), some (.int x), some (.int (2 ^ b)), none, none] from rfl]
    obtain ⟨hp, b2, bx, k⟩ := h
    have hb := p2 b
    walk_at "rd"
    refine w_itR ?_
    walk_at "rd"
    refine ⟨p, cs.map V.int, rfl, SqL.of hp, for_it (walk_rev (K := K) (a := p) (xs := cs.map V.int)) (fun i σ H' => (∃ v4 : Option V, σ = [some (.ref p), some (.int x), some (.int (2 ^ b)), some (.int (pvl (cs.drop (cs.length - i)) x % 2 ^ b)), v4]) ∧ H' = H) ⟨⟨none, by rw [Nat.sub_zero, List.drop_length]; show _ = [_, _, _, some (V.int (0 % 2 ^ b)), none]; rw [Int.zero_emod]⟩, rfl⟩ (fun i σ H' _ q => by rw [q.2]; exact SqL.of hp) ?_ ?_⟩
    · rintro i z σ H' H'' hi ⟨⟨v4, rfl⟩, rfl⟩ ⟨rfl, hz⟩
      rw [List.length_map] at hi hz
      obtain ⟨c, hc, rfl⟩ := map_get hz
      have ed : cs.drop (cs.length - (i + 1)) = c :: cs.drop (cs.length - i) := by
        rw [show cs.length - (i + 1) = cs.length - 1 - i by omega, List.drop_eq_getElem_cons (by omega), show cs.length - 1 - i + 1 = cs.length - i by omega]
        congr 1
        exact Option.some.inj ((List.getElem?_eq_getElem _).symm.trans hc)
      have m0 := Int.emod_nonneg (pvl (cs.drop (cs.length - i)) x) (Int.ne_of_gt hb)
      have m1 := Int.emod_lt_of_pos (pvl (cs.drop (cs.length - i)) x) hb
      have tb : (pvl (cs.drop (cs.length - i)) x % 2 ^ b).natAbs < 2 ^ 201 := by
        have c2 : (2 : Int) ^ b ≤ 2 ^ 200 := by
          have := Nat.pow_le_pow_right (n := 2) (by decide) b2
          exact_mod_cast this
        have c3 : ((2 ^ 201 : Nat) : Int) = 2 ^ 201 := Int.natCast_pow 2 201
        have c4 : (2 : Int) ^ 200 < 2 ^ 201 := by decide +kernel
        omega
      walk_at "rd"
      refine w_I (mulx_ok tb bx (by decide)) ?_
      walk_at "rd"
      refine w_I hb ?_
      walk_at "rd"
      refine ⟨⟨some (.int c), ?_⟩, rfl⟩
      have e : (pvl (cs.drop (cs.length - i)) x % 2 ^ b * x + c) % 2 ^ b = pvl (cs.drop (cs.length - (i + 1))) x % 2 ^ b := by
        rw [ed]
        show _ = (c + x * pvl (cs.drop (cs.length - i)) x) % 2 ^ b
        refine gmd.mpr ?_
        rw [show pvl (cs.drop (cs.length - i)) x % 2 ^ b * x + c - (c + x * pvl (cs.drop (cs.length - i)) x) = (pvl (cs.drop (cs.length - i)) x % 2 ^ b - pvl (cs.drop (cs.length - i)) x) * x by rw [Int.sub_mul, Int.mul_comm x]; omega]
        exact Int.dvd_trans Int.dvd_emod_sub_self (Int.dvd_mul_right _ _)
      rw [e]
    rintro σ H' ⟨⟨v4, rfl⟩, rfl⟩
    walk_at "rd"
    rw [List.length_map, Nat.sub_self, List.drop_zero]
    exact k
def sp_value_at (K : PySem.W.Frag) (C : Addr) (TS : List (Addr × Str)) : Sp := fun vs H Q _ => ∃ (kp p : Addr) (cs : List Int) (x : Int) (wd : Nat) (s : Bool), vs = [.ref kp, .ref p, .int x] ∧ Kd C H kp wd s ∧ H p = some (.lst (cs.map V.int)) ∧ 1 ≤ cs.length ∧ cs.length ≤ 9 ∧ (∀ c ∈ cs, SD c) ∧ x.natAbs < 2 ^ 3000 ∧ ∀ H', Same H H' → Q (.int (wr wd s (pvl cs x))) H'
theorem ok_value_at {P : Program} {w : World} {K : PySem.W.Frag} {mg : Str → Option Value} {base : Heap} (T : Txt K mg) (B : TBs T base) : FnOk P w K mg base CX0 5 T.f_value_at T.fd_value_at ["kind", "polynomial", "x"] (sp_value_at K T.C_Kind T.tabs) := by
  have G__value := ok__value (P := P) (w := w) (base := base) T B
  have G_check_integer := ok_check_integer (P := P) (w := w) (base := base) T B
  have G_check_polynomial := ok_check_polynomial (P := P) (w := w) (base := base) T B
  have G_wrapped := ok_wrapped (P := P) (w := w) (base := base) T B
  refine T.F_value_at.ok sc_value_at (fun vs H Q E h => ?_) (fun cdv A outer s H vs Q E hr h => ?_)
  · obtain ⟨kp, p, cs, x, wd, s, rfl, _⟩ := h
    rfl
  · obtain ⟨kp, p, cs, x, wd, s, rfl, h⟩ := h
    have hr__value : Room 1 _ := hr.mono (by decide)
    have hr_check_integer : Room 2 _ := hr.mono (by decide)
    have hr_check_polynomial : Room 4 _ := hr.mono (by decide)
    have hr_wrapped : Room 3 _ := hr.mono (by decide)
    refine ⟨_, (pss_cons (ps_expr (pe_call G_check_polynomial hr_check_polynomial rfl T.g_check_polynomial T.k_check_polynomial T.b_check_polynomial .nil pass0 (pa_cons (pv 0 (hv := Or.inl rfl)) (pa_cons (pv 1 (hv := Or.inl rfl)) pa_nil))))
      (pss_cons (ps_expr (pe_call G_check_integer hr_check_integer rfl T.g_check_integer T.k_check_integer T.b_check_integer .nil pass0 (pa_cons (pv 2 (hv := Or.inl rfl)) (pa_cons pe_str pa_nil))))
      (pss_one (ps_ret (pe_call G_wrapped hr_wrapped rfl T.g_wrapped T.k_wrapped T.b_wrapped .nil pass0 (pa_cons (pv 0 (hv := Or.inl rfl)) (pa_cons (pe_call G__value hr__value rfl T.g__value T.k__value T.b__value .nil pass0 (pa_cons (pv 1 (hv := Or.inl rfl)) (pa_cons (pv 2 (hv := Or.inl rfl)) (pa_cons (pe_op op_shl pe_int (pe_fld (pv 0 (hv := Or.inl rfl)) rfl)) pa_nil)))) pa_nil))))))), ?_⟩
    try dsimp only [cxOf, Cx.nox, Cx.wish, Cx.blk]
    rw [show L2.start ["kind", "polynomial", "x"] [.ref kp, .ref p, .int x] = [some (.ref kp), some (.ref p), some (.int x)] from rfl]
    obtain ⟨hk, hp, l1, l9, hc, bx, k⟩ := h
    have w2 := hk.w2
    walk_at "rd"
    refine ⟨kp, p, cs, rfl, ⟨wd, s, hk⟩, hp, l1, l9, hc, fun H1 s1 => ?_⟩
    walk_at "rd"
    refine ⟨_, _, rfl, ?_⟩
    walk_at "rd"
    refine w_fb T rfl (hk.same s1) ?_
    walk_at "rd"
    refine w_I (cpow (n := 1) (by omega) (by decide)) ?_
    rw [Int.toNat_natCast, Int.one_mul]
    refine ⟨p, cs, x, wd, rfl, s1 _ _ hp, by omega, bx, ?_⟩
    walk_at "rd"
    refine ⟨kp, _, wd, s, rfl, hk.same s1, ?_⟩
    have e : wr wd s (pvl cs x % 2 ^ wd) = wr wd s (pvl cs x) := wr_cong (gmd.mpr Int.dvd_emod_sub_self)
    rw [e]
    exact k _ s1
def sp__one_behind (K : PySem.W.Frag) (C : Addr) (TS : List (Addr × Str)) : Sp := fun vs H Q _ => ∃ (p : Addr) (cs : List Int), vs = [.ref p] ∧ H p = some (.lst (cs.map V.int)) ∧ 1 ≤ cs.length ∧ cs.length ≤ 9 ∧ ∀ q H', Same H H' → H' q = some (.lst ((shf cs).map V.int)) → Q (.ref q) H'
theorem ok__one_behind {P : Program} {w : World} {K : PySem.W.Frag} {mg : Str → Option Value} {base : Heap} (T : Txt K mg) (B : TBs T base) : FnOk P w K mg base CX0 1 T.f__one_behind T.fd__one_behind ["polynomial"] (sp__one_behind K T.C_Kind T.tabs) := by
  refine T.F__one_behind.ok sc__one_behind (fun vs H Q E h => ?_) (fun cdv A outer s H vs Q E hr h => ?_)
  · obtain ⟨p, cs, rfl, _⟩ := h
    rfl
  · obtain ⟨p, cs, rfl, h⟩ := h
    refine ⟨_, (pss_cons (ps_set (i := 1) sc__one_behind.nd rfl (Or.inl rfl) (pe_callTy (T := "list") (r := rLstOf K) call_list_of (by rfl) T.n_list (by decide +kernel) (pa_cons (pv 0 (hv := Or.inl rfl)) pa_nil)))
      (pss_cons (ps_for PassesOwn.never rfl (pi_range1 (by rfl) T.n_range (pa_cons (pe_op op_sub (pe_callB (id := "len") (r := rLenS K) call_len_seq (by rfl) T.n_len (by decide +kernel) (pa_cons (pv 1 (hv := Or.inl rfl)) pa_nil)) pe_int) pa_nil)) (pg_name (i := 2) sc__one_behind.nd rfl (Or.inl rfl))
        (pss_one (ps_for PassesOwn.never rfl (pi_range3 (by rfl) T.n_range (pa_cons (pe_op op_sub (pe_callB (id := "len") (r := rLenS K) call_len_seq (by rfl) T.n_len (by decide +kernel) (pa_cons (pv 1 (hv := Or.inl rfl)) pa_nil)) pe_int) (pa_cons (pe_op op_sub (pv 2 (hv := Or.inl rfl)) pe_int) (pa_cons (pe_un un_neg pe_int) pa_nil)))) (pg_name (i := 3) sc__one_behind.nd rfl (Or.inl rfl))
        (pss_one (ps_augS (pv 1 (hv := Or.inl rfl)) (pv 3 (hv := Or.inl rfl)) pget_list (pe_ix (r := rIxL K) ix_list (pv 1 (hv := Or.inl rfl)) (pe_op op_add (pv 3 (hv := Or.inl rfl)) pe_int) (fun _ _ => rfl)) ip_add set_list)))))
      (pss_one (ps_ret (pv 1 (hv := Or.inl rfl)))))), ?_⟩
    try dsimp only [cxOf, Cx.nox, Cx.wish, Cx.blk]
    rw [show L2.start ["polynomial", "moved", "done", "i"] [.ref p] = [some (.ref p), none, none, none] from rfl]
    obtain ⟨hp, l1, l9, k⟩ := h
    obtain ⟨N, hN⟩ : ∃ N, cs.length = N + 1 := ⟨cs.length - 1, by omega⟩
    walk_at "rd"
    refine w_lstOf hp (fun M hM => ?_)
    have hMv : (L2.upd H M (.lst (cs.map V.int))) M = some (.lst (cs.map V.int)) := upd_same
    have sM := sm_new (o := .lst (cs.map V.int)) (Same.refl H) hM
    generalize L2.upd H M _ = H0 at hMv sM ⊢
    walk_at "rd"
    refine w_len hMv ?_
    walk_at "rd"
    refine ⟨_, rfl, by rw [List.length_map]; omega, by rw [List.length_map]; omega, ?_⟩
    rw [List.length_map, show ((cs.length : Int) - 1).toNat = N by omega]
    refine for_range (lo := 0) (n := N) (fun d σ H' => (∃ v2 v3 : Option V, σ = [some (.ref p), some (.ref M), v2, v3]) ∧ ∃ as bs : List Int, as.length = d ∧ as.length + bs.length = N + 1 ∧ (∀ t, pvl cs (t + 1) = pvl as t + t ^ d * pvl bs (t + 1)) ∧ H' M = some (.lst ((as ++ bs).map V.int)) ∧ Same H H')
      ⟨⟨_, _, rfl⟩, [], cs, rfl, by rw [List.length_nil, hN]; omega, fun t => by show _ = (0 : Int) + t ^ 0 * _; rw [Int.pow_zero, Int.one_mul, Int.zero_add], hMv, sM⟩ ?_ ?_
    rotate_left
    · rintro σ H' ⟨⟨v2, v3, rfl⟩, as, bs, al, abl, e, hm, sm⟩
      walk_at "rd"
      refine k M H' sm ?_
      obtain ⟨c, rfl⟩ : ∃ c, bs = [c] := by
        match bs, (show bs.length = 1 by omega) with
        | [c], _ => exact ⟨c, rfl⟩
      have : as ++ [c] = shf cs := shf_uniq (by rw [List.length_append, List.length_singleton, hN]; omega) fun t => by
        rw [e, pv_append, al]
        show _ + _ * (c + t * 0) = _ + _ * (c + (t + 1) * 0)
        rw [Int.mul_zero, Int.mul_zero]
      rw [← this]; exact hm
    rintro d σ H1 hd ⟨⟨v2, v3, rfl⟩, as, bs, al, abl, e, hm, sm⟩
    walk_at "rd"
    refine w_iRng3j ?_
    walk_at "rd"
    refine w_len hm ?_
    walk_at "rd"
    have bl : bs.length = N + 1 - d := by omega
    refine ⟨_, _, _, N - d, rfl, by
      have := RgC.neg (i := (((as ++ bs).map V.int).length : Int) - 2) (j := 0 + (d : Int) - 1) (by rw [List.length_map, List.length_append]; omega) (by rw [List.length_map, List.length_append]; omega) (by omega) (by omega)
      rw [show ((((as ++ bs).map V.int).length : Int) - 2 - (0 + (d : Int) - 1)).toNat = N - d by rw [List.length_map, List.length_append]; omega] at this
      exact this, for_rangeC (lo := (((as ++ bs).map V.int).length : Int) - 2) (c := -1) (n := N - d) (fun i σ H' => (∃ v3 : Option V, σ = [some (.ref p), some (.ref M), some (.int (0 + (d : Int))), v3]) ∧ H' M = some (.lst ((sfxL as bs (bs.length - 1 - i)).map V.int)) ∧ Same H H') ⟨⟨_, rfl⟩, by rw [Nat.sub_zero, sfxL_last (by omega)]; exact hm, sm⟩ ?_ ?_⟩
    · rintro i σ H2 hi ⟨⟨v3, rfl⟩, hm2, s2⟩
      obtain ⟨j, hj⟩ : ∃ j, bs.length - 1 - i = j + 1 := ⟨bs.length - 1 - i - 1, by omega⟩
      rw [hj] at hm2
      have jl : j < bs.length := by omega
      rw [show (((as ++ bs).map V.int).length : Int) - 2 + (i : Int) * -1 = ((as.length + j : Nat) : Int) by rw [List.length_map, List.length_append]; omega]
      walk_at "rd"
      refine w_augS ?_
      walk_at "rd"
      refine w_getL (v := .int bs[j]) hm2 (by rw [List.getElem?_map, sfxL_at jl]; rfl) ?_
      walk_at "rd"
      refine ⟨M, _, _, .int ((sfx (bs.drop (j + 1))).headD 0), rfl, rfl, SqL.of hm2, ?_, ?_⟩
      · unfold atI ixN
        have l2 : ((sfxL as bs (j + 1)).map V.int).length = as.length + bs.length := by
          rw [List.length_map, List.length_append, List.length_append, sfx_len, List.length_take, List.length_drop]; omega
        rw [l2, if_pos (by omega), if_pos (by omega), Option.bind_some, show (((as.length + j : Nat) : Int) + 1).toNat = as.length + j + 1 by omega, List.getElem?_map, sfxL_next (by omega)]
        rfl
      walk_at "rd"
      refine ⟨_, _, rfl, rfl, ?_⟩
      refine ⟨M, _, _, as.length + j, rfl, rfl, hm2, ?_, ?_⟩
      · unfold ixN
        have l2 : ((sfxL as bs (j + 1)).map V.int).length = as.length + bs.length := by
          rw [List.length_map, List.length_append, List.length_append, sfx_len, List.length_take, List.length_drop]; omega
        rw [l2, if_pos (by omega), if_pos (by omega), Int.toNat_natCast]
      rw [← List.map_set (f := V.int), sfxL_set jl]
      refine ⟨⟨_, rfl⟩, ?_, sm_mut s2 hM⟩
      rw [show bs.length - 1 - (i + 1) = j by omega]
      exact upd_same
    rintro σ H2 ⟨⟨v3, rfl⟩, hm2, s2⟩
    rw [show bs.length - 1 - (N - d) = 0 by omega, sfxL_zero] at hm2
    obtain ⟨h0, tl, e0⟩ : ∃ h0 tl, sfx bs = h0 :: tl := by
      have := sfx_len bs
      cases e : sfx bs with
      | nil => rw [e] at this; simp at this; omega
      | cons a l => exact ⟨a, l, rfl⟩
    have tll : tl.length + 1 = bs.length := by have := sfx_len bs; rw [e0] at this; simpa using this
    refine ⟨⟨_, _, rfl⟩, as ++ [h0], tl, by rw [List.length_append, List.length_singleton, al], by rw [List.length_append, List.length_singleton]; omega, fun t => ?_, by rw [e0] at hm2; rw [List.append_assoc]; exact hm2, s2⟩
    have e2 := pv_sfx (t + 1) bs
    rw [e0] at e2
    rw [e, e2, pv_append, al]
    show pvl as t + t ^ d * (h0 + (t + 1 - 1) * pvl tl (t + 1)) = pvl as t + t ^ d * (h0 + t * 0) + t ^ (d + 1) * pvl tl (t + 1)
    rw [show t + 1 - 1 = t by omega, Int.mul_zero, Int.add_zero, Int.mul_add, Int.pow_succ, Int.mul_assoc]
    omega
def sp__doubled (K : PySem.W.Frag) (C : Addr) (TS : List (Addr × Str)) : Sp := fun vs H Q _ => ∃ (p : Addr) (cs : List Int), vs = [.ref p] ∧ H p = some (.lst (cs.map V.int)) ∧ cs.length ≤ 9 ∧ (∀ c ∈ cs, c.natAbs < 2 ^ 300) ∧ ∀ q H', Same H H' → H' q = some (.lst ((dbl 0 cs).map V.int)) → Q (.ref q) H'
theorem ok__doubled {P : Program} {w : World} {K : PySem.W.Frag} {mg : Str → Option Value} {base : Heap} (T : Txt K mg) (B : TBs T base) : FnOk P w K mg base CX0 1 T.f__doubled T.fd__doubled ["polynomial"] (sp__doubled K T.C_Kind T.tabs) := by
  refine T.F__doubled.ok sc__doubled (fun vs H Q E h => ?_) (fun cdv A outer s H vs Q E hr h => ?_)
  · obtain ⟨p, cs, rfl, _⟩ := h
    rfl
  · obtain ⟨p, cs, rfl, h⟩ := h
    refine ⟨_, (pss_one (ps_ret (pe_lc (own := [("i", 1), ("coefficient", 2)]) (g := gTup K 2 (gCons (gName 1) (gCons (gName 2) gNil))) (tt := tYes) (by rfl) sc__doubled.nd (pi_enum (by rfl) T.n_enumerate (pa_cons (pv 0 (hv := Or.inl rfl)) pa_nil)) (blkOk_by (own := [("i", 1), ("coefficient", 2)]) (N := ["polynomial", "i", "coefficient"]) (sc := defScope s__doubled) (by decide +kernel)) (fun _ _ _ _ _ => (pg_tup rfl (pgs_cons (pg_name (i := 1) sc__doubled.nd rfl (Or.inl rfl)) (pgs_cons (pg_name (i := 2) sc__doubled.nd rfl (Or.inl rfl)) pgs_nil)))) (fun _ _ _ _ _ => pts_nil) (fun _ _ _ _ _ => (pe_op op_shlW (pv 2 (hv := Or.inl rfl)) (pv 1 (hv := Or.inl rfl))))))), ?_⟩
    try dsimp only [cxOf, Cx.nox, Cx.wish, Cx.blk]
    rw [show L2.start ["polynomial", "i", "coefficient"] [.ref p] = [some (.ref p), none, none] from rfl]
    obtain ⟨hp, l9, hb, k⟩ := h
    walk_at "rd"
    refine w_itE ?_
    walk_at "rd"
    refine ⟨p, cs.map V.int, rfl, SqL.of hp, fun D hD => lc_it (walk_enum (K := K) (a := p) (xs := cs.map V.int)) (fun j H' => H' D = some (.lst (((dbl 0 cs).take j).map V.int)) ∧ Same H H') ⟨upd_same, sm_new (Same.refl H) hD⟩ (fun i H' _ q => SqL.of (q.2 _ _ hp)) ?_ ?_⟩
    · rintro j z H' H'' hj ⟨hd, sm⟩ hy
      obtain ⟨tp, u, o', rfl, htp, rfl, hu, ho⟩ := hy
      obtain rfl : V.int (j : Nat) = u := Option.some.inj hu
      obtain ⟨c, hc, rfl⟩ := map_get ho
      have jl := (List.getElem?_eq_some_iff.mp hc).1
      have hd' := gn (u := .tup [.int (j : Nat), .int c]) hd htp
      have sm' := sm_new (o := .tup [.int (j : Nat), .int c]) sm htp
      walk_at "rd"
      refine ⟨rfl, ?_⟩
      walk_at "rd"
      refine iteT ?_
      walk_at "rd"
      refine w_I (shl_ok (hb c (List.mem_of_getElem? hc)) (by omega)) ?_
      refine ⟨_, hd', by rw [List.length_map, List.length_take]; exact Nat.lt_of_le_of_lt (show _ ≤ 9 by omega) (by decide), ?_, sm_mut sm' hD⟩
      rw [upd_same, List.take_add_one, dbl_get, hc, List.map_append]
      rw [Nat.zero_add, Int.toNat_natCast]
      rfl
    rintro H' ⟨hd, sm⟩
    rw [List.length_map, List.take_of_length_le (by rw [dbl_len]; exact Nat.le_refl _)] at hd
    exact k D H' sm hd
def sp__halves (K : PySem.W.Frag) (C : Addr) (TS : List (Addr × Str)) : Sp := fun vs H Q _ => ∃ (q : Addr) (f : Int) (k l : Nat) (cs : List Int), vs = [.ref q] ∧ NdAt H q f k cs l ∧ k ≤ 200 ∧ l ≤ 200 ∧ 1 ≤ cs.length ∧ cs.length ≤ 9 ∧ (∀ c ∈ cs, 0 ≤ c ∧ c < 2 ^ l) ∧ (∃ c ∈ cs, c ≠ 0) ∧ ∀ (s : Nat) (red : List Int) r out H', (∀ c ∈ cs, (2 : Int) ^ s ∣ c) → (∃ c ∈ cs, ¬ (2 : Int) ^ (s + 1) ∣ c) → s < l → red = cs.map (fun c => c / 2 ^ s) → Same H H' → H' r = some (.lst out) → (∀ m0 m1, NdL H' out ((if pvl red 0 % 2 = 0 then [⟨f, k + 1, dbl 0 red, l - s, m0⟩] else []) ++ (if pvl red 1 % 2 = 0 then [⟨f + 2 ^ k, k + 1, dbl 0 (shf red), l - s, m1⟩] else []))) → Q (.ref r) H'
theorem ok__halves {P : Program} {w : World} {K : PySem.W.Frag} {mg : Str → Option Value} {base : Heap} (T : Txt K mg) (B : TBs T base) : FnOk P w K mg base CX0 2 T.f__halves T.fd__halves ["node"] (sp__halves K T.C_Kind T.tabs) := by
  have G__doubled := ok__doubled (P := P) (w := w) (base := base) T B
  have G__one_behind := ok__one_behind (P := P) (w := w) (base := base) T B
  have G_factors_of_two := ok_factors_of_two (P := P) (w := w) (base := base) T B
  refine T.F__halves.ok sc__halves (fun vs H Q E h => ?_) (fun cdv A outer s H vs Q E hr h => ?_)
  · obtain ⟨q, f, k, l, cs, rfl, _⟩ := h
    rfl
  · obtain ⟨q, f, k, l, cs, rfl, h⟩ := h
    have hr__doubled : Room 1 _ := hr.mono (by decide)
    have hr__one_behind : Room 1 _ := hr.mono (by decide)
    have hr_factors_of_two : Room 1 _ := hr.mono (by decide)
    refine ⟨_, (pss_cons (ps_asg (pv 0 (hv := Or.inl rfl)) (pg_tup rfl (pgs_cons (pg_name (i := 1) sc__halves.nd rfl (Or.inl rfl)) (pgs_cons (pg_name (i := 2) sc__halves.nd rfl (Or.inl rfl)) (pgs_cons (pg_name (i := 3) sc__halves.nd rfl (Or.inl rfl)) (pgs_cons (pg_name (i := 4) sc__halves.nd rfl (Or.inl rfl)) pgs_nil))))))
      (pss_cons (ps_set (i := 5) sc__halves.nd rfl (Or.inr rfl) (pe_callB (id := "min") (r := rMin K) (cr_min rfl) (by rfl) T.n_min (by decide +kernel) (pa_cons (pe_lc (own := [("coefficient", 6)]) (g := gName 6) (by rfl) sc__halves.nd (pi_list (pv 3 (hv := Or.inl rfl))) (blkOk_by (own := [("coefficient", 6)]) (N := ["node", "first", "k", "polynomial", "left", "shared", "coefficient", "reduced", "halves"]) (sc := defScope s__halves) (by decide +kernel)) (fun _ _ _ _ _ => (pg_name (i := 6) sc__halves.nd rfl (Or.inl rfl))) (fun _ _ _ _ _ => pts_one (pt_cmpR op_ne (pv 6 (hv := Or.inl rfl)) pe_int (nomark _))) (fun _ _ _ _ _ => (pe_call G_factors_of_two hr_factors_of_two rfl T.g_factors_of_two T.k_factors_of_two T.b_factors_of_two .nil pass0 (pa_cons (pv 6 (hv := Or.inl rfl)) pa_nil)))) pa_nil)))
      (pss_cons (ps_setLc (i := 7) (own := [("coefficient", 6)]) (g := gName 6) (tt := tYes) rfl sc__halves.nd rfl rfl (sw_true rfl rfl rfl (by decide +kernel)) (pi_list (pv 3 (hv := Or.inl rfl))) (blkOk_by (own := [("coefficient", 6)]) (N := ["node", "first", "k", "polynomial", "left", "shared", "coefficient", "reduced", "halves"]) (sc := defScope s__halves) (by decide +kernel)) (fun _ _ _ _ _ => (pg_name (i := 6) sc__halves.nd rfl (Or.inl rfl))) (fun _ _ _ _ _ => pts_nil) (fun _ _ _ _ _ => (pe_op op_shr (pv 6 (hv := Or.inl rfl)) (pv 5 (hv := Or.inr (Or.inl rfl))))))
      (pss_cons (ps_set (i := 8) sc__halves.nd rfl (Or.inl rfl) (pe_lst pa_nil))
      (pss_cons (ps_if (pt_cmpR op_eq (pe_op op_mod (pe_ix (r := rIxL K) ix_list (pv 7 (hv := Or.inl rfl)) pe_int (fun _ _ => rfl)) pe_int) pe_int (nomark _)) (pss_one (ps_expr (pe_bm PySem.F.plainAttrs_list PySem.F.slot_list_append PySem.F.type_list_append mt_append (pv 8 (hv := Or.inl rfl)) (pa_cons (pe_tup (pa_cons (pv 1 (hv := Or.inl rfl)) (pa_cons (pe_op op_add (pv 2 (hv := Or.inl rfl)) pe_int) (pa_cons (pe_call G__doubled hr__doubled rfl T.g__doubled T.k__doubled T.b__doubled .nil pass0 (pa_cons (pv 7 (hv := Or.inl rfl)) pa_nil)) (pa_cons (pe_op op_sub (pv 4 (hv := Or.inl rfl)) (pv 5 (hv := Or.inr (Or.inl rfl)))) pa_nil))))) pa_nil)))) pss_nil)
      (pss_cons (ps_if (pt_cmpR op_eq (pe_op op_mod (pe_callB (id := "sum") (r := rSum K) (cr_sum rfl) (by rfl) T.n_sum (by decide +kernel) (pa_cons (pv 7 (hv := Or.inl rfl)) pa_nil)) pe_int) pe_int (nomark _)) (pss_one (ps_expr (pe_bm PySem.F.plainAttrs_list PySem.F.slot_list_append PySem.F.type_list_append mt_append (pv 8 (hv := Or.inl rfl)) (pa_cons (pe_tup (pa_cons (pe_op op_add (pv 1 (hv := Or.inl rfl)) (pe_op op_shl pe_int (pv 2 (hv := Or.inl rfl)))) (pa_cons (pe_op op_add (pv 2 (hv := Or.inl rfl)) pe_int) (pa_cons (pe_call G__doubled hr__doubled rfl T.g__doubled T.k__doubled T.b__doubled .nil pass0 (pa_cons (pe_call G__one_behind hr__one_behind rfl T.g__one_behind T.k__one_behind T.b__one_behind .nil pass0 (pa_cons (pv 7 (hv := Or.inl rfl)) pa_nil)) pa_nil)) (pa_cons (pe_op op_sub (pv 4 (hv := Or.inl rfl)) (pv 5 (hv := Or.inr (Or.inl rfl)))) pa_nil))))) pa_nil)))) pss_nil)
      (pss_one (ps_ret (pv 8 (hv := Or.inl rfl)))))))))), ?_⟩
    try dsimp only [cxOf, Cx.nox, Cx.wish, Cx.blk]
    rw [show L2.start ["node", "first", "k", "polynomial", "left", "shared", "coefficient", "reduced", "halves"] [.ref q] = [some (.ref q), none, none, none, none, none, none, none, none] from rfl]
    obtain ⟨⟨D, hq, hD⟩, k2, l2, c1, c9, cb, ⟨c0, c0m, c0n⟩, kk⟩ := h
    walk_at "rd"
    refine ⟨⟨_, SqL.of hD⟩, fun L hL => lc_list (K := K) (a := D) (xs := cs.map V.int) (fun j H' => ∃ js : List Int, H' L = some (.lst (js.map V.int)) ∧ js.length ≤ j ∧ TwosOf (cs.take j) js ∧ Same H H') ⟨[], upd_same, Nat.le_refl _, ⟨fun c hc => (by cases hc), fun j hj => (by cases hj)⟩, sm_new (Same.refl H) hL⟩ (fun i H' _ q => SqL.of (q.choose_spec.2.2.2 _ _ hD)) ?_ ?_⟩
    · rintro j z H' hj ⟨js, hl, jl, tw, sm⟩
      obtain ⟨c, hc, rfl⟩ := map_get hj
      have jlt := (List.getElem?_eq_some_iff.mp hc).1
      have et : cs.take (j + 1) = cs.take j ++ [c] := by rw [List.take_add_one, hc]; rfl
      walk_at "rd"
      refine ⟨rfl, ?_⟩
      walk_at "rd"
      refine w_ndec (fun nz => ?_) (fun z0 => ?_)
      · obtain ⟨i, a, e⟩ := two_ex _ c (Nat.le_refl _) nz
        walk_at "rd"
        refine ⟨c, a, i, rfl, e, ?_⟩
        refine ⟨_, hl, by rw [List.length_map]; exact Nat.lt_of_le_of_lt jl (Nat.lt_of_lt_of_le (show j < 9 by omega) (by decide)), js ++ [(i : Int)], ?_, by rw [List.length_append, List.length_singleton]; omega, ?_, sm_mut sm hL⟩
        · rw [upd_same, List.map_append]; rfl
        · rw [et]
          refine ⟨fun d hd dn => ?_, fun y hy => ?_⟩
          · rcases List.mem_append.mp hd with hd | hd
            · obtain ⟨i', a', h1, h2⟩ := tw.1 d hd dn
              exact ⟨i', a', List.mem_append.mpr (.inl h1), h2⟩
            · rw [List.mem_singleton.mp hd]
              exact ⟨i, a, List.mem_append.mpr (.inr (List.mem_singleton.mpr rfl)), e⟩
          · rcases List.mem_append.mp hy with hy | hy
            · obtain ⟨i', a', c', h1, h2, h3⟩ := tw.2 y hy
              exact ⟨i', a', c', h1, List.mem_append.mpr (.inl h2), h3⟩
            · exact ⟨i, a, c, List.mem_singleton.mp hy, List.mem_append.mpr (.inr (List.mem_singleton.mpr rfl)), e⟩
      · refine ⟨js, hl, by omega, ?_, sm⟩
        rw [et]
        refine ⟨fun d hd dn => ?_, fun y hy => ?_⟩
        · rcases List.mem_append.mp hd with hd | hd
          · exact tw.1 d hd dn
          · exact absurd ((List.mem_singleton.mp hd).trans z0) dn
        · obtain ⟨i', a', c', h1, h2, h3⟩ := tw.2 y hy
          exact ⟨i', a', c', h1, List.mem_append.mpr (.inl h2), h3⟩
    rintro H1 ⟨js, hl, jl, tw, s1⟩
    rw [List.length_map, List.take_length] at tw
    have jne : 0 < js.length := by
      obtain ⟨i, a, h1, _⟩ := tw.1 c0 c0m c0n
      exact List.length_pos_of_mem h1
    walk_at "rd"
    refine w_minL (SqL.of hl) jne (fun m hm hle => ?_)
    obtain ⟨s, rfl, sd, so⟩ := twos_min tw hm hle
    have sl : s < l := by
      refine Nat.lt_of_not_le fun z => ?_
      obtain ⟨b1, b2⟩ := cb c0 c0m
      have := Int.le_of_dvd (by omega) (Int.dvd_trans (gpp z) (sd c0 c0m))
      omega
    obtain ⟨red, hred⟩ : ∃ red, red = cs.map (fun c => c / 2 ^ s) := ⟨_, rfl⟩
    have rl : red.length = cs.length := by rw [hred, List.length_map]
    have hD1 := s1 _ _ hD
    walk_at "rd"
    refine ⟨⟨_, SqL.of hD1⟩, fun R hR => lc_list (K := K) (a := D) (xs := cs.map V.int) (fun j H' => H' R = some (.lst ((red.take j).map V.int)) ∧ Same H1 H') ⟨upd_same, sm_new (Same.refl H1) hR⟩ (fun i H' _ q => SqL.of (q.2 _ _ hD1)) ?_ ?_⟩
    · rintro j z H' hj ⟨hr, sm⟩
      obtain ⟨c, hc, rfl⟩ := map_get hj
      have jlt := (List.getElem?_eq_some_iff.mp hc).1
      walk_at "rd"
      refine ⟨rfl, ?_⟩
      walk_at "rd"
      refine iteT ?_
      walk_at "rd"
      refine w_I (by show (0 : Int) ≤ _; omega) ?_
      refine ⟨_, hr, by rw [List.length_map, List.length_take]; exact Nat.lt_of_le_of_lt (show _ ≤ 9 by omega) (by decide), ?_, sm_mut sm hR⟩
      rw [upd_same, List.take_add_one, hred, List.getElem?_map, hc, List.map_append, Int.toNat_natCast]
      rfl
    rintro H2 ⟨hr, s2⟩
    rw [List.length_map, List.take_of_length_le (by omega)] at hr
    have s2 := s1.trans s2
    clear hl jl tw s1 jne hm hle hD1
    obtain ⟨r0, rt, er⟩ : ∃ r0 rt, red = r0 :: rt := by
      cases e : red with
      | nil => rw [e] at rl; simp at rl; omega
      | cons a t => exact ⟨a, t, rfl⟩
    have rb : ∀ c ∈ red, c.natAbs < 2 ^ 200 := fun c hc => by
      rw [hred] at hc
      obtain ⟨d, hd, rfl⟩ := List.mem_map.mp hc
      obtain ⟨b1, b2⟩ := cb d hd
      have h1 : d / 2 ^ s ≤ d := Int.ediv_le_self _ b1
      have h0 : 0 ≤ d / 2 ^ s := Int.ediv_nonneg b1 (Int.le_of_lt (gpos s))
      have c2 : (2 : Int) ^ l ≤ 2 ^ 200 := by
        have := Nat.pow_le_pow_right (n := 2) (by decide) l2
        exact_mod_cast this
      have c3 : ((2 ^ 200 : Nat) : Int) = 2 ^ 200 := Int.natCast_pow 2 200
      omega
    have sb : ∀ c ∈ shf red, c.natAbs < 2 ^ 300 := fun c hc => by
      have := shf_bound (M := 2 ^ 200) (fun c hc => Nat.le_of_lt (rb c hc)) c hc
      have p9 : 2 ^ red.length ≤ 2 ^ 9 := Nat.pow_le_pow_right (by decide) (by omega)
      have := Nat.mul_le_mul_right (2 ^ 200) p9
      have c9' : (2 : Nat) ^ 9 * 2 ^ 200 < 2 ^ 300 := by decide +kernel
      omega
    walk_at "rd"
    refine ⟨by show 0 ≤ sizeLine; decide, fun R2 hR2 => ?_⟩
    have hr' := gn (u := .lst []) hr hR2
    have s3 := sm_new (o := .lst []) s2 hR2
    have hR2' : (L2.upd H2 R2 (.lst [])) R2 = some (.lst []) := upd_same
    have nH2 : H R2 = none := by
      cases z : H R2 with
      | none => rfl
      | some o => rw [s2 _ _ z] at hR2; cases hR2
    generalize L2.upd H2 R2 _ = H3 at hr' s3 hR2' ⊢
    have hr'' := hr'
    rw [er] at hr''
    have e0 : r0 = pvl red 0 := by rw [er, pv_zero]; rfl
    have noR : R ≠ R2 := fun z => by rw [z] at hr; rw [hr] at hR2; cases hR2
    walk_at "rd"
    have at0 : atI ((r0 :: rt).map V.int) 0 = some (.int r0) := by
      unfold atI ixN
      rw [if_pos (by decide), if_pos (by rw [List.length_map, List.length_cons]; omega)]; rfl
    refine w_ixL (xs := (r0 :: rt).map V.int) hr'' at0 ?_
    walk_at "rd"
    obtain ⟨A, hA⟩ : ∃ A : Nat → List Nd, A = fun m0 => if pvl red 0 % 2 = 0 then [⟨f, k + 1, dbl 0 red, l - s, m0⟩] else [] := ⟨_, rfl⟩
    refine w_stJ (fun σ' H' => σ' = [some (.ref q), some (.int f), some (.int (k : Int)), some (.ref D), some (.int (l : Int)), some (.int (s : Int)), none, some (.ref R), some (.ref R2)] ∧ H' R = some (.lst (red.map V.int)) ∧ (∃ out, H' R2 = some (.lst out) ∧ out.length ≤ 1 ∧ ∀ m0, NdL H' out (A m0)) ∧ Same H H') (fun ev D' qq => ?_) (fun od D' qq => ?_) ?_
    · walk_at "rd"
      refine w_bm ?_
      walk_at "rd"
      refine ⟨.inl ⟨rfl, _, SqL.of hR2'⟩, ?_⟩
      walk_at "rd"
      refine ⟨R, red, rfl, hr', by omega, fun c hc => Nat.lt_trans (rb c hc) (Nat.pow_lt_pow_right (by decide) (by decide)), fun E H4 s4 hE => ?_⟩
      walk_at "rd"
      refine ⟨by show 4 ≤ sizeLine; decide, fun q4 hq4 => ?_⟩
      walk_at "rd"
      have n4 : q4 ≠ R2 := fun z => by rw [z] at hq4; rw [s4 _ _ hR2'] at hq4; cases hq4
      refine ⟨R2, _, _, rfl, rfl, gn (s4 _ _ hR2') hq4, by decide, ?_⟩
      have nE : E ≠ R2 := fun z => by rw [z] at hE; rw [s4 _ _ hR2'] at hE; have := HO.lst.inj (Option.some.inj hE); have := congrArg List.length this; rw [List.length_map, dbl_len, rl] at this; simp at this; omega
      refine qq _ _ ⟨rfl, by rw [upd_ne noR]; exact gn (s4 _ _ hr') hq4, ⟨[.ref q4], upd_same, by simp, fun m0 => ?_⟩, fun b o e => by rw [upd_ne (ne_of_none e nH2)]; exact gn (s4 _ _ (s3 _ _ e)) hq4⟩
      rw [hA]
      show NdL _ _ (if pvl red 0 % 2 = 0 then _ else _)
      rw [if_pos (by rw [← e0]; exact ev)]
      refine .cons ⟨E, ?_, ?_⟩ .nil
      · rw [upd_ne n4, upd_same]
        show _ = some (HO.tup [V.int f, V.int ((k + 1 : Nat) : Int), V.ref E, V.int ((l - s : Nat) : Int)])
        rw [show ((k + 1 : Nat) : Int) = (k : Int) + 1 by omega, show ((l - s : Nat) : Int) = (l : Int) - (s : Int) by omega]
      · rw [upd_ne nE]; exact gn hE hq4
    · walk_at "rd"
      refine qq _ _ ⟨rfl, hr', ⟨[], hR2', by simp, fun m0 => ?_⟩, s3⟩
      rw [hA]
      show NdL _ _ (if pvl red 0 % 2 = 0 then _ else _)
      rw [if_neg (by rw [← e0]; exact od)]; exact .nil
    rintro σ H5 ⟨rfl, hr5, ⟨out, hR5, ol, nd⟩, s5⟩
    walk_at "rd"
    refine w_sumR hr5 ?_
    rw [← pv_one]
    walk_at "rd"
    refine w_stJ (fun σ' H' => σ' = [some (.ref q), some (.int f), some (.int (k : Int)), some (.ref D), some (.int (l : Int)), some (.int (s : Int)), none, some (.ref R), some (.ref R2)] ∧ (∃ out, H' R2 = some (.lst out) ∧ ∀ m0 m1, NdL H' out (A m0 ++ (if pvl red 1 % 2 = 0 then [⟨f + 2 ^ k, k + 1, dbl 0 (shf red), l - s, m1⟩] else []))) ∧ Same H H') (fun ev D' qq => ?_) (fun od D' qq => ?_) ?_
    · walk_at "rd"
      refine w_bm ?_
      walk_at "rd"
      refine ⟨.inl ⟨rfl, _, SqL.of hR5⟩, ?_⟩
      walk_at "rd"
      refine w_I (cpow (n := 1) (by omega) (by decide)) ?_
      rw [Int.toNat_natCast, Int.one_mul]
      walk_at "rd"
      refine ⟨R, red, rfl, hr5, by omega, by omega, fun F H6 s6 hF => ?_⟩
      walk_at "rd"
      refine ⟨F, shf red, rfl, hF, by rw [shf_len]; omega, sb, fun E H7 s7 hE => ?_⟩
      walk_at "rd"
      refine ⟨by show 4 ≤ sizeLine; decide, fun q4 hq4 => ?_⟩
      walk_at "rd"
      have hR7 := s7 _ _ (s6 _ _ hR5)
      have n4 : q4 ≠ R2 := fun z => by rw [z] at hq4; rw [hR7] at hq4; cases hq4
      refine ⟨R2, _, _, rfl, rfl, gn hR7 hq4, Nat.lt_of_le_of_lt ol (by decide), ?_⟩
      have nE : E ≠ R2 := fun z => by
        rw [z] at hE; rw [hR7] at hE
        have e1 := HO.lst.inj (Option.some.inj hE)
        have e2 := nd 0
        rw [e1] at e2
        cases e3 : (dbl 0 (shf red)) with
        | nil =>
          have l0 : (dbl 0 (shf red)).length = red.length := by rw [dbl_len, shf_len]
          rw [e3] at l0
          have l0 : 0 = red.length := l0
          omega
        | cons a t => rw [e3] at e2; cases e2
      have s67 := s6.trans s7
      have old : ∀ b o, H5 b = some o → b ≠ R2 → (L2.upd (L2.upd H7 q4 (.tup [.int (f + 2 ^ k), .int ((k : Int) + 1), .ref E, .int ((l : Int) - (s : Int))])) R2 (.lst (out ++ [.ref q4]))) b = some o := fun b o e nb => by
        rw [upd_ne nb]; exact gn (s67 _ _ e) hq4
      refine qq _ _ ⟨rfl, ⟨out ++ [.ref q4], upd_same, fun m0 m1 => ?_⟩, fun b o e => old b o (s5 _ _ e) (ne_of_none e nH2)⟩
      rw [if_pos ev]
      refine NdL.app (NdL.keepL (nd m0) hR5 old fun n hn => (nd m0).noInt hn _) (.cons ⟨E, ?_, ?_⟩ .nil)
      · rw [upd_ne n4, upd_same]
        show _ = some (HO.tup [V.int (f + 2 ^ k), V.int ((k + 1 : Nat) : Int), V.ref E, V.int ((l - s : Nat) : Int)])
        rw [show ((k + 1 : Nat) : Int) = (k : Int) + 1 by omega, show ((l - s : Nat) : Int) = (l : Int) - (s : Int) by omega]
      · rw [upd_ne nE]; exact gn hE hq4
    · walk_at "rd"
      refine qq _ _ ⟨rfl, ⟨out, hR5, fun m0 m1 => ?_⟩, s5⟩
      rw [if_neg od, List.append_nil]; exact nd m0
    rintro σ H6 ⟨rfl, ⟨out2, hR6, nd2⟩, s6⟩
    walk_at "rd"
    refine kk s red R2 out2 H6 sd so sl hred s6 hR6 fun m0 m1 => ?_
    have := nd2 m0 m1
    rw [hA] at this
    exact this
def sp_root_families (K : PySem.W.Frag) (C : Addr) (TS : List (Addr × Str)) : Sp := fun vs H Q _ => ∃ (p : Addr) (cs : List Int) (bits : Nat), vs = [.ref p, .int (bits : Int)] ∧ H p = some (.lst (cs.map V.int)) ∧ 1 ≤ cs.length ∧ cs.length ≤ 9 ∧ bits ≤ 128 ∧ ∀ q H', FamRow H' q bits (fun x => (2 : Int) ^ bits ∣ pvl cs x) → Same H H' → Q (.ref q) H'
theorem ok_root_families {P : Program} {w : World} {K : PySem.W.Frag} {mg : Str → Option Value} {base : Heap} (T : Txt K mg) (B : TBs T base) : FnOk P w K mg base CX0 3 T.f_root_families T.fd_root_families ["polynomial", "bits"] (sp_root_families K T.C_Kind T.tabs) := by
  have G__halves := ok__halves (P := P) (w := w) (base := base) T B
  have G_joined := ok_joined (P := P) (w := w) (base := base) T B
  refine T.F_root_families.ok sc_root_families (fun vs H Q E h => ?_) (fun cdv A outer s H vs Q E hr h => ?_)
  · obtain ⟨p, cs, bits, rfl, _⟩ := h
    rfl
  · obtain ⟨p, cs, bits, rfl, h⟩ := h
    have hr__halves : Room 2 _ := hr.mono (by decide)
    have hr_joined : Room 1 _ := hr.mono (by decide)
    refine ⟨_, (pss_cons (ps_set (i := 2) sc_root_families.nd rfl (Or.inl rfl) (pe_lst (pa_cons (pe_tup (pa_cons pe_int (pa_cons pe_int (pa_cons (pv 0 (hv := Or.inl rfl)) (pa_cons (pv 1 (hv := Or.inl rfl)) pa_nil))))) pa_nil)))
      (pss_cons (ps_set (i := 3) sc_root_families.nd rfl (Or.inl rfl) (pe_lst pa_nil))
      (pss_cons (ps_while PassesOwn.never (pt_truth (pv 2 (hv := Or.inl rfl)) (by intro _; rfl))
        (pss_cons (ps_set (i := 4) sc_root_families.nd rfl (Or.inl rfl) (pe_lst pa_nil))
      (pss_cons (ps_for PassesOwn.never rfl (pi_list (pv 2 (hv := Or.inl rfl))) (pg_tup rfl (pgs_cons (pg_name (i := 5) sc_root_families.nd rfl (Or.inl rfl)) (pgs_cons (pg_name (i := 6) sc_root_families.nd rfl (Or.inl rfl)) (pgs_cons (pg_name (i := 7) sc_root_families.nd rfl (Or.inl rfl)) (pgs_cons (pg_name (i := 8) sc_root_families.nd rfl (Or.inr rfl)) pgs_nil)))))
        (pss_cons (ps_setLc (i := 9) (own := [("coefficient", 10)]) (g := gName 10) (tt := tYes) rfl sc_root_families.nd rfl rfl (sw_true rfl rfl rfl (by decide +kernel)) (pi_list (pv 7 (hv := Or.inl rfl))) (blkOk_by (own := [("coefficient", 10)]) (N := ["polynomial", "bits", "nodes", "found", "below", "first", "k", "coefficients", "left", "rest", "coefficient"]) (sc := defScope s_root_families) (by decide +kernel)) (fun _ _ _ _ _ => (pg_name (i := 10) sc_root_families.nd rfl (Or.inl rfl))) (fun _ _ _ _ _ => pts_nil) (fun _ _ _ _ _ => (pe_op op_mod (pv 10 (hv := Or.inl rfl)) (pe_op op_shl pe_int (pv 8 (hv := Or.inr (Or.inl rfl)))))))
      (pss_one (ps_if (pt_val (pe_callB (id := "any") (r := rAnyI K) (cr_anyI rfl) (by rfl) T.n_any (by decide +kernel) (pa_cons (pv 9 (hv := Or.inl rfl)) pa_nil))) (pss_one (ps_expr (pe_bm PySem.F.plainAttrs_list PySem.F.slot_list_extend PySem.F.type_list_extend mt_extend (pv 4 (hv := Or.inl rfl)) (pa_cons (pe_call G__halves hr__halves rfl T.g__halves T.k__halves T.b__halves .nil pass0 (pa_cons (pe_tup (pa_cons (pv 5 (hv := Or.inl rfl)) (pa_cons (pv 6 (hv := Or.inl rfl)) (pa_cons (pv 9 (hv := Or.inl rfl)) (pa_cons (pv 8 (hv := Or.inr (Or.inl rfl))) pa_nil))))) pa_nil)) pa_nil)))) (pss_one (ps_expr (pe_bm PySem.F.plainAttrs_list PySem.F.slot_list_append PySem.F.type_list_append mt_append (pv 3 (hv := Or.inl rfl)) (pa_cons (pe_tup (pa_cons (pv 5 (hv := Or.inl rfl)) (pa_cons (pv 6 (hv := Or.inl rfl)) pa_nil))) pa_nil))))))))
      (pss_one (ps_set (i := 2) sc_root_families.nd rfl (Or.inl rfl) (pv 4 (hv := Or.inl rfl)))))))
      (pss_one (ps_ret (pe_call G_joined hr_joined rfl T.g_joined T.k_joined T.b_joined .nil pass0 (pa_cons (pv 3 (hv := Or.inl rfl)) (pa_cons (pv 1 (hv := Or.inl rfl)) pa_nil)))))))), ?_⟩
    try dsimp only [cxOf, Cx.nox, Cx.wish, Cx.blk]
    rw [show L2.start ["polynomial", "bits", "nodes", "found", "below", "first", "k", "coefficients", "left", "rest", "coefficient"] [.ref p, .int (bits : Int)] = [some (.ref p), some (.int (bits : Int)), none, none, none, none, none, none, none, none, none] from rfl]
    obtain ⟨hp, l1, l9, b2, k⟩ := h
    walk_at "rd"
    refine ⟨by show 4 ≤ sizeLine; decide, fun q0 hq0 => ?_⟩
    walk_at "rd"
    refine ⟨by show 1 ≤ sizeLine; decide, fun L0 hL0 => ?_⟩
    walk_at "rd"
    refine ⟨by show 0 ≤ sizeLine; decide, fun F hF => ?_⟩
    have sA := sm_new (o := .lst [V.ref q0]) (sm_new (o := .tup [V.int 0, V.int 0, V.ref p, V.int (bits : Int)]) (Same.refl H) hq0) hL0
    have nFH : H F = none := by
      cases z : H F with
      | none => rfl
      | some o => rw [sA _ _ z] at hF; cases hF
    have sB := sm_new (o := .lst []) sA hF
    have hq0' := gn (u := .lst []) (gn (u := .lst [V.ref q0]) (upd_same (H := H) (a := q0) (o := .tup [V.int 0, V.int 0, V.ref p, V.int (bits : Int)])) hL0) hF
    have hL0' := gn (u := .lst []) (upd_same (H := L2.upd H q0 (.tup [V.int 0, V.int 0, V.ref p, V.int (bits : Int)])) (a := L0) (o := .lst [V.ref q0])) hF
    have hF' : (L2.upd (L2.upd (L2.upd H q0 (.tup [V.int 0, V.int 0, V.ref p, V.int (bits : Int)])) L0 (.lst [V.ref q0])) F (.lst [])) F = some (.lst []) := upd_same
    generalize L2.upd (L2.upd (L2.upd H q0 _) L0 _) F _ = H0 at sB hq0' hL0' hF' ⊢
    walk_at "rd"
    refine w_while (fun m σ H' => (∃ (g : Nat) (NL : Addr) (outs fo : List V) (ns : List Nd) (fl : FL) (v4 v5 v6 v7 v8 v9 v10 : Option V), σ = [some (.ref p), some (.int (bits : Int)), some (.ref NL), some (.ref F), v4, v5, v6, v7, v8, v9, v10] ∧ m = bits + 2 - g ∧ g ≤ bits + 1 ∧ H' NL = some (.lst outs) ∧ NdL H' outs ns ∧ H' F = some (.lst fo) ∧ PRow H' fo fl ∧ fl.length ≤ 8 * g ∧ RInv bits cs g fl [] ns) ∧ Same H H') (bits + 2)
      ⟨⟨0, L0, [.ref q0], [], _, [], none, none, none, none, none, none, none, rfl, rfl, by omega, hL0', .cons ⟨p, hq0', sB _ _ hp⟩ .nil, hF', .nil, Nat.le_refl _, .start l9⟩, sB⟩ ?_
    rintro m σ H1 ⟨⟨g, NL, outs, fo, ns, fl, v4, v5, v6, v7, v8, v9, v10, rfl, rfl, hK, hNL, nd, hFo, row, fln, rI⟩, s1⟩
    walk_at "rd"
    refine w_truL (SqL.of hNL) ?_
    cases ns with
    | nil =>
      have e0 : outs = [] := List.eq_nil_of_length_eq_zero (by rw [nd.len]; rfl)
      subst e0
      show if (!([] : List V).isEmpty) = true then _ else _
      refine iteF ?_
      obtain ⟨wf, ap, cv⟩ := rI.fin
      have eS : SetOf H1 fo = famL fl := by
        funext f e
        refine propext ⟨fun ⟨q, hq, hv⟩ => ?_, fun h => ?_⟩
        · obtain ⟨i, hi⟩ := List.getElem?_of_mem hq
          obtain ⟨q', f', e', eq, hq', hf⟩ := row.get hi
          obtain rfl := V.ref.inj eq
          rw [hq'] at hv
          have e3 := HO.tup.inj (Option.some.inj hv)
          have e4 : f' = f := V.int.inj (List.cons.inj e3).1
          have e5 : (e' : Int) = e := V.int.inj (List.cons.inj (List.cons.inj e3).2).1
          rw [← e4, show e = e' by omega]
          exact List.mem_of_getElem? hf
        · obtain ⟨i, hi⟩ := List.getElem?_of_mem h
          obtain ⟨q, hq, hv⟩ := row.hit hi
          exact ⟨q, List.mem_of_getElem? hq, hv⟩
      walk_at "rd"
      refine ⟨F, bits, fo, rfl, b2, hFo, by rw [row.len]; omega, fun r hr => ?_, fun gl out q H2 mg ir hout row2 pw glen s2 => ?_⟩
      · obtain ⟨i, hi⟩ := List.getElem?_of_mem hr
        obtain ⟨q, f, e, rfl, hq, hf⟩ := row.get hi
        exact ⟨q, f, e, rfl, hq, (wf f e (List.mem_of_getElem? hf)).1⟩
      rw [eS] at mg
      exact k q H2 ⟨out, gl, hout, row2, ⟨pw, ⟨mg.wf wf, mg.apart ap, ir⟩⟩, fun x => by rw [mg.cover x, cv x], by have := row.len; omega⟩ (s1.trans s2)
    | cons n0 nt =>
      have gb := rI.deep
      have few := rI.few
      have ol : outs.length = nt.length + 1 := nd.len
      have one : (!outs.isEmpty) = true := by
        cases outs with
        | nil => simp at ol
        | cons a t => rfl
      rw [one]
      refine iteT ?_
      refine ⟨_, fun _ _ h => h, ?_⟩
      walk_at "rd"
      refine ⟨by show 0 ≤ sizeLine; decide, fun B hB => ?_⟩
      have nBH : H B = none := by
        cases z : H B with
        | none => rfl
        | some o => rw [s1 _ _ z] at hB; cases hB
      walk_at "rd"
      refine ⟨⟨_, SqL.of (gn hNL hB)⟩, for_list (K := K) (a := NL) (xs := outs) (fun j σ H' => (∃ v5 v6 v7 v8 v9 v10 : Option V, σ = [some (.ref p), some (.int (bits : Int)), some (.ref NL), some (.ref F), some (.ref B), v5, v6, v7, v8, v9, v10]) ∧ (∃ (fo bo : List V) (fl : FL) (bl : List Nd), H' NL = some (.lst outs) ∧ NdL H' outs (n0 :: nt) ∧ H' B = some (.lst bo) ∧ NdL H' bo bl ∧ H' F = some (.lst fo) ∧ PRow H' fo fl ∧ fl.length ≤ 8 * g + j ∧ RInv bits cs g fl bl ((n0 :: nt).drop j)) ∧ Same H H') ⟨⟨_, _, _, _, _, _, rfl⟩, ⟨fo, [], fl, [], gn hNL hB, nd.same (sm_new (Same.refl H1) hB), upd_same, .nil, gn hFo hB, row.keep (fun q f e h => gn h hB), by omega, rI⟩, sm_new s1 hB⟩ (fun i σ H' _ q => SqL.of (q.2.1.choose_spec.choose_spec.choose_spec.choose_spec.1)) ?_ ?_⟩
      rotate_left
      · rintro σ H2 ⟨⟨v5, v6, v7, v8, v9, v10, rfl⟩, ⟨fo2, bo, fl2, bl, hNL2, nd2, hB2, ndb, hF2, row2, fln2, rI2⟩, s2⟩
        walk_at "rd"
        have r3 : RInv bits cs g fl2 bl [] := by
          have : ((n0 :: nt).drop outs.length) = [] := List.drop_eq_nil_of_le (by rw [List.length_cons]; omega)
          rw [this] at rI2; exact rI2
        refine ⟨bits + 2 - (g + 1), by omega, ⟨g + 1, B, bo, fo2, bl, fl2, _, _, _, _, _, _, _, rfl, rfl, by omega, hB2, ndb, hF2, row2, ?_, r3.next⟩, s2⟩
        rw [List.length_cons] at few
        omega
      rintro j z σ H2 hj ⟨⟨v5, v6, v7, v8, v9, v10, rfl⟩, ⟨fo2, bo, fl2, bl, hNL2, nd2, hB2, ndb, hF2, row2, fln2, rI2⟩, s2⟩
      obtain ⟨q, n, rfl, ⟨D, hq, hD⟩, hn⟩ := nd2.get hj
      have jl := (List.getElem?_eq_some_iff.mp hn).1
      have ed : (n0 :: nt).drop j = n :: (n0 :: nt).drop (j + 1) := by
        rw [List.drop_eq_getElem_cons jl]
        congr 1
        exact Option.some.inj ((List.getElem?_eq_getElem _).symm.trans hn)
      rw [ed] at rI2
      obtain ⟨ok, ek⟩ := rI2.okn n List.mem_cons_self
      have ln := ok.len
      have kb := ok.deep
      have lb : n.l ≤ bits + 1 := by
        rcases ok.lv with ⟨_, e⟩ | ⟨_, _, e, _⟩ <;> omega
      have hpl := p2 n.l
      clear ed
      walk_at "rd"
      refine ⟨⟨_, SqL.of hD⟩, fun R hR => lc_list (K := K) (a := D) (xs := n.cs.map V.int) (fun i H' => H' R = some (.lst (((n.cs.map (· % 2 ^ n.l)).take i).map V.int)) ∧ Same H2 H') ⟨upd_same, sm_new (Same.refl H2) hR⟩ (fun i H' _ q => SqL.of (q.2 _ _ hD)) ?_ ?_⟩
      · rintro i z H' hi ⟨hr, sm⟩
        obtain ⟨c, hc, rfl⟩ := map_get hi
        have il := (List.getElem?_eq_some_iff.mp hc).1
        walk_at "rd"
        refine ⟨rfl, ?_⟩
        walk_at "rd"
        refine iteT ?_
        walk_at "rd"
        refine w_I (cpow (n := 1) (by omega) (by decide)) ?_
        rw [Int.toNat_natCast, Int.one_mul]
        refine w_I hpl ?_
        refine ⟨_, hr, by rw [List.length_map, List.length_take, List.length_map]; exact Nat.lt_of_le_of_lt (show _ ≤ 9 by omega) (by decide), ?_, sm_mut sm hR⟩
        rw [upd_same, List.take_add_one, List.getElem?_map, hc, List.map_append]
        rfl
      rintro H3 ⟨hr, s3⟩
      rw [List.length_map, List.take_of_length_le (by rw [List.length_map]; exact Nat.le_refl _)] at hr
      obtain ⟨rest, hrest⟩ : ∃ rest, rest = n.cs.map (· % 2 ^ n.l) := ⟨_, rfl⟩
      rw [← hrest] at hr
      have rb : ∀ c ∈ rest, 0 ≤ c ∧ c < 2 ^ n.l := fun c hc => by
        rw [hrest] at hc
        obtain ⟨d, _, rfl⟩ := List.mem_map.mp hc
        exact ⟨Int.emod_nonneg _ (Int.ne_of_gt hpl), Int.emod_lt_of_pos _ hpl⟩
      have rlen : rest.length = cs.length := by rw [hrest, List.length_map, ln]
      have cl := rI2.cl l1
      have nd3 := nd2.same s3
      have ndb3 := ndb.same s3
      have row3 := row2.same s3
      have hB3 := s3 _ _ hB2
      have hF3 := s3 _ _ hF2
      have hNL3 := s3 _ _ hNL2
      have ndc : ∀ m ∈ n0 :: nt, 1 ≤ m.cs.length := fun m hm => by rw [(rI.okn m hm).1.len]; exact l1
      have few2 := rI2.few
      rw [List.length_cons] at few2
      have bol : bo.length ≤ 8 := by rw [ndb.len]; omega
      have nNB : NL ≠ B := fun z => by rw [← z, hNL] at hB; cases hB
      have nNF : NL ≠ F := fun z => by
        rw [z, hF3] at hNL3
        have e := HO.lst.inj (Option.some.inj hNL3)
        rw [e] at row3
        obtain ⟨q1, n1, e1, ⟨D1, h1, _⟩, _⟩ := nd3.get (i := 0) (x := outs[0]'(by omega)) (List.getElem?_eq_getElem _)
        obtain ⟨q2, f2, e2, h2, h3, _⟩ := row3.get (i := 0) (x := outs[0]'(by omega)) (List.getElem?_eq_getElem _)
        rw [e1] at h2
        obtain rfl := V.ref.inj h2
        rw [h1] at h3; cases h3
      walk_at "rd"
      refine w_anyI hr ?_
      walk_at "rd"
      cases hany : rest.any (fun m => m != 0) with
      | true =>
        refine iteT ?_
        have nz : ∃ c ∈ rest, c ≠ 0 := by
          obtain ⟨c, hc, h⟩ := List.any_eq_true.mp hany
          exact ⟨c, hc, by simpa using h⟩
        walk_at "rd"
        refine w_bm ?_
        walk_at "rd"
        refine ⟨.inl ⟨rfl, _, SqL.of hB3⟩, ?_⟩
        walk_at "rd"
        refine ⟨by show 4 ≤ sizeLine; decide, fun q4 hq4 => ?_⟩
        have s4 := sm_new (o := .tup [.int n.f, .int (n.k : Int), .ref R, .int (n.l : Int)]) (Same.refl H3) hq4
        have hq4' : (L2.upd H3 q4 (.tup [.int n.f, .int (n.k : Int), .ref R, .int (n.l : Int)])) q4 = some (.tup [.int n.f, .int (n.k : Int), .ref R, .int (n.l : Int)]) := upd_same
        generalize L2.upd H3 q4 _ = H4 at s4 hq4' ⊢
        walk_at "rd"
        refine ⟨q4, n.f, n.k, n.l, rest, rfl, ⟨R, hq4', s4 _ _ hr⟩, by omega, by omega, by omega, by omega, rb, nz, fun s red r out H5 sd so sl hred s5 hout ndN => ?_⟩
        have hredn : red = n.cs.map fun c => c % 2 ^ n.l / 2 ^ s := by rw [hred, hrest, List.map_map]; rfl
        obtain ⟨m0, m1, rI3⟩ := rI2.go sl (fun c hc => sd _ (by rw [hrest]; exact List.mem_map.mpr ⟨c, hc, rfl⟩)) (by
          obtain ⟨c, hc, h⟩ := so
          rw [hrest] at hc
          obtain ⟨d, hd, rfl⟩ := List.mem_map.mp hc
          exact ⟨d, hd, h⟩) hredn
        have ndN := ndN m0 m1
        rw [← ek] at rI3
        have s345 := s4.trans s5
        have outl : out.length ≤ 8 := by
          rw [ndN.len]
          have := rI3.few
          rw [List.length_append] at this
          omega
        walk_at "rd"
        refine ⟨B, r, bo, out, rfl, rfl, s345 _ _ hB3, hout, Nat.le_trans (show bo.length + out.length ≤ 16 by omega) (by decide), ?_⟩
        have old : ∀ b o, b ≠ B → H5 b = some o → (L2.upd H5 B (.lst (bo ++ out))) b = some o := fun b o nb e => by rw [upd_ne nb]; exact e
        have hB5 := s345 _ _ hB3
        have noh := ndb.noHead
        have cl3 := rI3.cl l1
        have nFB : F ≠ B := fun z => by rw [← z, hFo] at hB; cases hB
        refine ⟨⟨_, _, _, _, _, _, rfl⟩, ⟨fo2, bo ++ out, fl2, _, old _ _ nNB (s345 _ _ hNL3), (nd3.same s345).keepO hB5 noh ndc old, upd_same, NdL.app ((ndb3.same s345).keepO hB5 noh cl.1 old) (ndN.keepO hB5 noh (fun m hm => cl3.1 m (List.mem_append.mpr (.inr hm))) old), old _ _ nFB (s345 _ _ hF3), (row3.same s345).keepO hB5 old, by omega, by rw [ek] at rI3 ⊢; exact rI3⟩, fun b o e => old _ _ (ne_of_none e nBH) (s345 _ _ (s3 _ _ (s2 _ _ e)))⟩
      | false =>
        refine iteF ?_
        have az : ∀ c ∈ n.cs, (2 : Int) ^ n.l ∣ c := fun c hc => by
          refine Int.dvd_of_emod_eq_zero ?_
          have := List.any_eq_false.mp hany (c % 2 ^ n.l) (by rw [hrest]; exact List.mem_map.mpr ⟨c, hc, rfl⟩)
          simpa using this
        walk_at "rd"
        refine w_bm ?_
        walk_at "rd"
        refine ⟨.inl ⟨rfl, _, SqL.of hF3⟩, ?_⟩
        walk_at "rd"
        refine ⟨by show 2 ≤ sizeLine; decide, fun q4 hq4 => ?_⟩
        have s4 := sm_new (o := .tup [.int n.f, .int (n.k : Int)]) (Same.refl H3) hq4
        have hq4' : (L2.upd H3 q4 (.tup [.int n.f, .int (n.k : Int)])) q4 = some (.tup [.int n.f, .int (n.k : Int)]) := upd_same
        generalize L2.upd H3 q4 _ = H4 at s4 hq4' ⊢
        have hF4 := s4 _ _ hF3
        walk_at "rd"
        refine ⟨F, _, _, rfl, rfl, hF4, by rw [row2.len]; exact Nat.lt_of_le_of_lt (show fl2.length ≤ 8 * 129 + 9 by omega) (by decide), ?_⟩
        have old : ∀ b o, b ≠ F → H4 b = some o → (L2.upd H4 F (.lst (fo2 ++ [.ref q4]))) b = some o := fun b o nb e => by rw [upd_ne nb]; exact e
        have noh := row2.noHead
        have nBF : B ≠ F := fun z => by rw [z, hFo] at hB; cases hB
        have nqF : q4 ≠ F := fun z => by rw [z, hF4] at hq4'; cases hq4'
        refine ⟨⟨_, _, _, _, _, _, rfl⟩, ⟨fo2 ++ [.ref q4], bo, fl2 ++ [(n.f, n.k)], bl, old _ _ nNF (s4 _ _ hNL3), (nd3.same s4).keepO hF4 noh ndc old, old _ _ nBF (s4 _ _ hB3), (ndb3.same s4).keepO hF4 noh cl.1 old, upd_same, PRow.add ((row3.same s4).keepO hF4 old) (old _ _ nqF hq4'), by rw [List.length_append, List.length_singleton]; omega, rI2.found az⟩, fun b o e => old _ _ (ne_of_none e nFH) (s4 _ _ (s3 _ _ (s2 _ _ e)))⟩
def sp_roots (K : PySem.W.Frag) (C : Addr) (TS : List (Addr × Str)) : Sp := fun vs H Q _ => ∃ (kp p : Addr) (cs : List Int) (wd : Nat) (s : Bool), vs = [.ref kp, .ref p] ∧ Kd C H kp wd s ∧ H p = some (.lst (cs.map V.int)) ∧ 1 ≤ cs.length ∧ cs.length ≤ 9 ∧ (∀ c ∈ cs, SD c) ∧ ∀ q H', FamRow H' q wd (fun x => (2 : Int) ^ wd ∣ pvl cs x) → Same H H' → Q (.ref q) H'
theorem ok_roots {P : Program} {w : World} {K : PySem.W.Frag} {mg : Str → Option Value} {base : Heap} (T : Txt K mg) (B : TBs T base) : FnOk P w K mg base CX0 5 T.f_roots T.fd_roots ["kind", "polynomial"] (sp_roots K T.C_Kind T.tabs) := by
  have G_check_polynomial := ok_check_polynomial (P := P) (w := w) (base := base) T B
  have G_root_families := ok_root_families (P := P) (w := w) (base := base) T B
  refine T.F_roots.ok sc_roots (fun vs H Q E h => ?_) (fun cdv A outer s H vs Q E hr h => ?_)
  · obtain ⟨kp, p, cs, wd, s, rfl, _⟩ := h
    rfl
  · obtain ⟨kp, p, cs, wd, s, rfl, h⟩ := h
    have hr_check_polynomial : Room 4 _ := hr.mono (by decide)
    have hr_root_families : Room 3 _ := hr.mono (by decide)
    refine ⟨_, (pss_cons (ps_expr (pe_call G_check_polynomial hr_check_polynomial rfl T.g_check_polynomial T.k_check_polynomial T.b_check_polynomial .nil pass0 (pa_cons (pv 0 (hv := Or.inl rfl)) (pa_cons (pv 1 (hv := Or.inl rfl)) pa_nil))))
      (pss_one (ps_ret (pe_call G_root_families hr_root_families rfl T.g_root_families T.k_root_families T.b_root_families .nil pass0 (pa_cons (pv 1 (hv := Or.inl rfl)) (pa_cons (pe_fld (pv 0 (hv := Or.inl rfl)) rfl) pa_nil)))))), ?_⟩
    try dsimp only [cxOf, Cx.nox, Cx.wish, Cx.blk]
    rw [show L2.start ["kind", "polynomial"] [.ref kp, .ref p] = [some (.ref kp), some (.ref p)] from rfl]
    obtain ⟨hk, hp, l1, l9, hc, k⟩ := h
    have w2 := hk.w2
    
    walk_at "rd"
    refine ⟨kp, p, cs, rfl, ⟨wd, s, hk⟩, hp, l1, l9, hc, fun H1 s1 => ?_⟩
    walk_at "rd"
    refine w_fb T rfl (hk.same s1) ?_
    refine ⟨p, cs, wd, rfl, s1 _ _ hp, l1, l9, w2, fun r H2 hf s2 => ?_⟩
    exact k r H2 hf (s1.trans s2)
def sp_root_total (K : PySem.W.Frag) (C : Addr) (TS : List (Addr × Str)) : Sp := fun vs H Q _ => ∃ (kp p : Addr) (cs : List Int) (wd : Nat) (s : Bool), vs = [.ref kp, .ref p] ∧ Kd C H kp wd s ∧ H p = some (.lst (cs.map V.int)) ∧ 1 ≤ cs.length ∧ cs.length ≤ 9 ∧ (∀ c ∈ cs, SD c) ∧ ∀ H', Same H H' → Q (.int (tot (rtP wd cs) (loK wd s) (hiK wd s))) H'
theorem ok_root_total {P : Program} {w : World} {K : PySem.W.Frag} {mg : Str → Option Value} {base : Heap} (T : Txt K mg) (B : TBs T base) : FnOk P w K mg base CX0 6 T.f_root_total T.fd_root_total ["kind", "polynomial"] (sp_root_total K T.C_Kind T.tabs) := by
  have G_roots := ok_roots (P := P) (w := w) (base := base) T B
  have G_total_size := ok_total_size (P := P) (w := w) (base := base) T B
  refine T.F_root_total.ok sc_root_total (fun vs H Q E h => ?_) (fun cdv A outer s H vs Q E hr h => ?_)
  · obtain ⟨kp, p, cs, wd, s, rfl, _⟩ := h
    rfl
  · obtain ⟨kp, p, cs, wd, s, rfl, h⟩ := h
    have hr_roots : Room 5 _ := hr.mono (by decide)
    have hr_total_size : Room 2 _ := hr.mono (by decide)
    refine ⟨_, (pss_one (ps_ret (pe_call G_total_size hr_total_size rfl T.g_total_size T.k_total_size T.b_total_size .nil pass0 (pa_cons (pe_call G_roots hr_roots rfl T.g_roots T.k_roots T.b_roots .nil pass0 (pa_cons (pv 0 (hv := Or.inl rfl)) (pa_cons (pv 1 (hv := Or.inl rfl)) pa_nil))) (pa_cons (pe_fld (pv 0 (hv := Or.inl rfl)) rfl) pa_nil))))), ?_⟩
    try dsimp only [cxOf, Cx.nox, Cx.wish, Cx.blk]
    rw [show L2.start ["kind", "polynomial"] [.ref kp, .ref p] = [some (.ref kp), some (.ref p)] from rfl]
    obtain ⟨hk, hp, l1, l9, hc, k⟩ := h
    have w2 := hk.w2
    walk_at "rd"
    refine ⟨kp, p, cs, wd, s, rfl, hk, hp, l1, l9, hc, fun r H1 hf s1 => ?_⟩
    obtain ⟨out, fl, hout, row, nrow, fl2, cnt⟩ := hf.cnt
    walk_at "rd"
    refine w_fb T rfl (hk.same s1) ?_
    refine ⟨r, wd, out, fl, rfl, hout, row, fl2, nrow.few, w2, fun H2 s2 => ?_⟩
    rw [← totF_size nrow.few (loK wd s), totF_tot cnt (by have := p2 wd; omega)]
    exact k _ (s1.trans s2)
def sp__check_two (K : PySem.W.Frag) (C : Addr) (TS : List (Addr × Str)) : Sp := fun vs H Q _ => ∃ (kp p q : Addr) (cs ds : List Int) (wd : Nat) (s : Bool), vs = [.ref kp, .ref p, .ref q] ∧ Kd C H kp wd s ∧ H p = some (.lst (cs.map V.int)) ∧ H q = some (.lst (ds.map V.int)) ∧ 1 ≤ cs.length ∧ cs.length ≤ 9 ∧ (∀ c ∈ cs, SD c) ∧ 1 ≤ ds.length ∧ ds.length ≤ 9 ∧ (∀ c ∈ ds, SD c) ∧ ∀ H', Same H H' → Q .non H'
theorem ok__check_two {P : Program} {w : World} {K : PySem.W.Frag} {mg : Str → Option Value} {base : Heap} (T : Txt K mg) (B : TBs T base) : FnOk P w K mg base CX0 4 T.f__check_two T.fd__check_two ["kind", "one", "other"] (sp__check_two K T.C_Kind T.tabs) := by
  have G_check_kind := ok_check_kind (P := P) (w := w) (base := base) T B
  have G_is_polynomial := ok_is_polynomial (P := P) (w := w) (base := base) T B
  refine T.F__check_two.ok sc__check_two (fun vs H Q E h => ?_) (fun cdv A outer s H vs Q E hr h => ?_)
  · obtain ⟨kp, p, q, cs, ds, wd, s, rfl, _⟩ := h
    rfl
  · obtain ⟨kp, p, q, cs, ds, wd, s, rfl, h⟩ := h
    have hr_check_kind : Room 1 _ := hr.mono (by decide)
    have hr_is_polynomial : Room 3 _ := hr.mono (by decide)
    refine ⟨_, (pss_cons (ps_expr (pe_call G_check_kind hr_check_kind rfl T.g_check_kind T.k_check_kind T.b_check_kind .nil pass0 (pa_cons (pv 0 (hv := Or.inl rfl)) pa_nil)))
      (pss_cons (ps_if (pt_not (pt_val (pe_call G_is_polynomial hr_is_polynomial rfl T.g_is_polynomial T.k_is_polynomial T.b_is_polynomial .nil pass0 (pa_cons (pv 1 (hv := Or.inl rfl)) pa_nil)))) (pss_one ps_never) pss_nil)
      (pss_one (ps_if (pt_not (pt_val (pe_call G_is_polynomial hr_is_polynomial rfl T.g_is_polynomial T.k_is_polynomial T.b_is_polynomial .nil pass0 (pa_cons (pv 2 (hv := Or.inl rfl)) pa_nil)))) (pss_one ps_never) pss_nil)))), ?_⟩
    try dsimp only [cxOf, Cx.nox, Cx.wish, Cx.blk]
    rw [show L2.start ["kind", "one", "other"] [.ref kp, .ref p, .ref q] = [some (.ref kp), some (.ref p), some (.ref q)] from rfl]
    obtain ⟨hk, hp, hq, l1, l9, hc, m1, m9, hd, k⟩ := h
    walk_at "rd"
    refine ⟨kp, rfl, ⟨wd, s, hk⟩, ?_⟩
    walk_at "rd"
    refine ⟨p, cs, rfl, hp, l1, l9, hc, fun H1 s1 => ?_⟩
    walk_at "rd"
    refine iteF ?_
    walk_at "rd"
    refine ⟨q, ds, rfl, s1 _ _ hq, m1, m9, hd, fun H2 s2 => ?_⟩
    walk_at "rd"
    refine iteF ?_
    walk_at "rd"
    exact k _ (s1.trans s2)
def sp__check_range (K : PySem.W.Frag) (C : Addr) (TS : List (Addr × Str)) : Sp := fun vs H Q _ => ∃ (kp p q : Addr) (cs ds : List Int) (first last : Int) (wd : Nat) (s : Bool), vs = [.ref kp, .ref p, .ref q, .int first, .int last] ∧ Kd C H kp wd s ∧ H p = some (.lst (cs.map V.int)) ∧ H q = some (.lst (ds.map V.int)) ∧ 1 ≤ cs.length ∧ cs.length ≤ 9 ∧ (∀ c ∈ cs, SD c) ∧ 1 ≤ ds.length ∧ ds.length ≤ 9 ∧ (∀ c ∈ ds, SD c) ∧ (loK wd s ≤ first ∧ first ≤ hiK wd s) ∧ (loK wd s ≤ last ∧ last ≤ hiK wd s) ∧ ∀ H', Same H H' → Q .non H'
theorem ok__check_range {P : Program} {w : World} {K : PySem.W.Frag} {mg : Str → Option Value} {base : Heap} (T : Txt K mg) (B : TBs T base) : FnOk P w K mg base CX0 6 T.f__check_range T.fd__check_range ["kind", "one", "other", "first", "last"] (sp__check_range K T.C_Kind T.tabs) := by
  have G__check_two := ok__check_two (P := P) (w := w) (base := base) T B
  have G_check_value := ok_check_value (P := P) (w := w) (base := base) T B
  refine T.F__check_range.ok sc__check_range (fun vs H Q E h => ?_) (fun cdv A outer s H vs Q E hr h => ?_)
  · obtain ⟨kp, p, q, cs, ds, first, last, wd, s, rfl, _⟩ := h
    rfl
  · obtain ⟨kp, p, q, cs, ds, first, last, wd, s, rfl, h⟩ := h
    have hr__check_two : Room 4 _ := hr.mono (by decide)
    have hr_check_value : Room 5 _ := hr.mono (by decide)
    refine ⟨_, (pss_cons (ps_expr (pe_call G__check_two hr__check_two rfl T.g__check_two T.k__check_two T.b__check_two .nil pass0 (pa_cons (pv 0 (hv := Or.inl rfl)) (pa_cons (pv 1 (hv := Or.inl rfl)) (pa_cons (pv 2 (hv := Or.inl rfl)) pa_nil)))))
      (pss_cons (ps_expr (pe_call G_check_value hr_check_value rfl T.g_check_value T.k_check_value T.b_check_value .nil pass0 (pa_cons (pv 0 (hv := Or.inl rfl)) (pa_cons (pv 3 (hv := Or.inl rfl)) (pa_cons pe_str pa_nil)))))
      (pss_one (ps_expr (pe_call G_check_value hr_check_value rfl T.g_check_value T.k_check_value T.b_check_value .nil pass0 (pa_cons (pv 0 (hv := Or.inl rfl)) (pa_cons (pv 4 (hv := Or.inl rfl)) (pa_cons pe_str pa_nil)))))))), ?_⟩
    try dsimp only [cxOf, Cx.nox, Cx.wish, Cx.blk]
    rw [show L2.start ["kind", "one", "other", "first", "last"] [.ref kp, .ref p, .ref q, .int first, .int last] = [some (.ref kp), some (.ref p), some (.ref q), some (.int first), some (.int last)] from rfl]
    obtain ⟨hk, hp, hq, l1, l9, hc, m1, m9, hd, f1, f2, k⟩ := h
    walk_at "rd"
    refine ⟨kp, p, q, cs, ds, wd, s, rfl, hk, hp, hq, l1, l9, hc, m1, m9, hd, fun H1 s1 => ?_⟩
    walk_at "rd"
    refine ⟨kp, first, _, rfl, ⟨wd, s, hk.same s1, f1⟩, ?_⟩
    walk_at "rd"
    refine ⟨kp, last, _, rfl, ⟨wd, s, hk.same s1, f2⟩, ?_⟩
    walk_at "rd"
    exact k _ s1
def sp__first_unlike (K : PySem.W.Frag) (C : Addr) (TS : List (Addr × Str)) : Sp := fun vs H Q _ => ∃ (kp p q : Addr) (cs ds : List Int) (wd : Nat) (s : Bool), vs = [.ref kp, .ref p, .ref q] ∧ Kd C H kp wd s ∧ H p = some (.lst (cs.map V.int)) ∧ H q = some (.lst (ds.map V.int)) ∧ 1 ≤ cs.length ∧ cs.length ≤ 9 ∧ (∀ c ∈ cs, SD c) ∧ 1 ≤ ds.length ∧ ds.length ≤ 9 ∧ (∀ c ∈ ds, SD c) ∧ ∀ v H', UnV wd cs ds v → Same H H' → Q v H'
theorem ok__first_unlike {P : Program} {w : World} {K : PySem.W.Frag} {mg : Str → Option Value} {base : Heap} (T : Txt K mg) (B : TBs T base) : FnOk P w K mg base CX0 6 T.f__first_unlike T.fd__first_unlike ["kind", "one", "other"] (sp__first_unlike K T.C_Kind T.tabs) := by
  have G_value_at := ok_value_at (P := P) (w := w) (base := base) T B
  refine T.F__first_unlike.ok sc__first_unlike (fun vs H Q E h => ?_) (fun cdv A outer s H vs Q E hr h => ?_)
  · obtain ⟨kp, p, q, cs, ds, wd, s, rfl, _⟩ := h
    rfl
  · obtain ⟨kp, p, q, cs, ds, wd, s, rfl, h⟩ := h
    have hr_value_at : Room 5 _ := hr.mono (by decide)
    refine ⟨_, (pss_cons (ps_for PassesOwn.never rfl (pi_range1 (by rfl) T.n_range (pa_cons (pe_callB (id := "max") (r := rmax2C) (call_max2 rfl) (by rfl) T.n_max (by decide +kernel) (pa_cons (pe_callB (id := "len") (r := rLenS K) call_len_seq (by rfl) T.n_len (by decide +kernel) (pa_cons (pv 1 (hv := Or.inl rfl)) pa_nil)) (pa_cons (pe_callB (id := "len") (r := rLenS K) call_len_seq (by rfl) T.n_len (by decide +kernel) (pa_cons (pv 2 (hv := Or.inl rfl)) pa_nil)) pa_nil))) pa_nil)) (pg_name (i := 3) sc__first_unlike.nd rfl (Or.inl rfl))
        (pss_one (ps_if (pt_cmpR op_ne (pe_call G_value_at hr_value_at rfl T.g_value_at T.k_value_at T.b_value_at .nil pass0 (pa_cons (pv 0 (hv := Or.inl rfl)) (pa_cons (pv 1 (hv := Or.inl rfl)) (pa_cons (pv 3 (hv := Or.inl rfl)) pa_nil)))) (pe_call G_value_at hr_value_at rfl T.g_value_at T.k_value_at T.b_value_at .nil pass0 (pa_cons (pv 0 (hv := Or.inl rfl)) (pa_cons (pv 2 (hv := Or.inl rfl)) (pa_cons (pv 3 (hv := Or.inl rfl)) pa_nil)))) (nomark _)) (pss_one (ps_ret (pv 3 (hv := Or.inl rfl)))) pss_nil)))
      (pss_one (ps_ret pe_non))), ?_⟩
    try dsimp only [cxOf, Cx.nox, Cx.wish, Cx.blk]
    rw [show L2.start ["kind", "one", "other", "x"] [.ref kp, .ref p, .ref q] = [some (.ref kp), some (.ref p), some (.ref q), none] from rfl]
    obtain ⟨hk, hp, hq, l1, l9, hc, m1, m9, hd, k⟩ := h
    have w2 := hk.w2
    walk_at "rd"
    refine w_len hp ?_
    walk_at "rd"
    refine w_len hq ?_
    walk_at "rd"
    refine w_max2 ?_
    rw [List.length_map, List.length_map]
    walk_at "rd"
    rw [show max (cs.length : Int) (ds.length : Int) = ((max cs.length ds.length : Nat) : Int) by omega]
    refine ⟨_, rfl, by omega, by omega, ?_⟩
    rw [Int.toNat_natCast]
    refine for_range (lo := 0) (n := max cs.length ds.length) (fun i σ H' => (∃ v3 : Option V, σ = [some (.ref kp), some (.ref p), some (.ref q), v3]) ∧ Same H H' ∧ ∀ j : Nat, j < i → unP wd cs ds j = false) ⟨⟨_, rfl⟩, Same.refl H, fun j hj => absurd hj (Nat.not_lt_zero _)⟩ ?_ ?_
    · rintro i σ H1 hi ⟨⟨v3, rfl⟩, s1, u1⟩
      have bx : ((0 : Int) + (i : Int)).natAbs < 2 ^ 3000 := Nat.lt_trans (show _ < 2 ^ 8 by omega) (Nat.pow_lt_pow_right (by decide) (by decide))
      walk_at "rd"
      refine ⟨kp, p, cs, _, wd, s, rfl, hk.same s1, s1 _ _ hp, l1, l9, hc, bx, fun H2 s2 => ?_⟩
      have s2 := s1.trans s2
      walk_at "rd"
      refine ⟨kp, q, ds, _, wd, s, rfl, hk.same s2, s2 _ _ hq, m1, m9, hd, bx, fun H3 s3 => ?_⟩
      have s3 := s2.trans s3
      walk_at "rd"
      rw [unP_wr]
      cases hu : unP wd cs ds (0 + (i : Int)) with
      | true =>
        refine iteT ?_
        rw [Int.zero_add] at hu ⊢
        walk_at "rd"
        exact k _ _ (.inr ⟨i, rfl, by omega, hu, u1⟩) s3
      | false =>
        refine iteF ?_
        walk_at "rd"
        refine ⟨⟨_, rfl⟩, s3, fun j hj => ?_⟩
        by_cases c : j < i
        · exact u1 j c
        · rw [show j = i by omega, ← Int.zero_add (i : Int)]; exact hu
    rintro σ H1 ⟨⟨v3, rfl⟩, s1, u1⟩
    walk_at "rd"
    refine k _ _ (.inl ⟨rfl, fun x => ?_⟩) s1
    have := alike_all (S := 2 ^ wd) (cs := cs) (ds := ds) (n := max cs.length ds.length) (Nat.le_refl _) (fun j hj => by
      have z := u1 j hj
      by_cases c : (2 : Int) ^ wd ∣ pvl cs j - pvl ds j
      · exact c
      · rw [unP_iff.mpr c] at z; cases z) x
    cases hu : unP wd cs ds x with
    | false => rfl
    | true => exact absurd this (unP_iff.mp hu)
def sp_are_alike (K : PySem.W.Frag) (C : Addr) (TS : List (Addr × Str)) : Sp := fun vs H Q _ => ∃ (kp p q : Addr) (cs ds : List Int) (wd : Nat) (s : Bool), vs = [.ref kp, .ref p, .ref q] ∧ Kd C H kp wd s ∧ H p = some (.lst (cs.map V.int)) ∧ H q = some (.lst (ds.map V.int)) ∧ 1 ≤ cs.length ∧ cs.length ≤ 9 ∧ (∀ c ∈ cs, SD c) ∧ 1 ≤ ds.length ∧ ds.length ≤ 9 ∧ (∀ c ∈ ds, SD c) ∧ ∀ (b : Bool) H', (b = true ↔ ∀ x, unP wd cs ds x = false) → Same H H' → Q (.bl b) H'
theorem ok_are_alike {P : Program} {w : World} {K : PySem.W.Frag} {mg : Str → Option Value} {base : Heap} (T : Txt K mg) (B : TBs T base) : FnOk P w K mg base CX0 7 T.f_are_alike T.fd_are_alike ["kind", "one", "other"] (sp_are_alike K T.C_Kind T.tabs) := by
  have G__check_two := ok__check_two (P := P) (w := w) (base := base) T B
  have G__first_unlike := ok__first_unlike (P := P) (w := w) (base := base) T B
  refine T.F_are_alike.ok sc_are_alike (fun vs H Q E h => ?_) (fun cdv A outer s H vs Q E hr h => ?_)
  · obtain ⟨kp, p, q, cs, ds, wd, s, rfl, _⟩ := h
    rfl
  · obtain ⟨kp, p, q, cs, ds, wd, s, rfl, h⟩ := h
    have hr__check_two : Room 4 _ := hr.mono (by decide)
    have hr__first_unlike : Room 6 _ := hr.mono (by decide)
    refine ⟨_, (pss_cons (ps_expr (pe_call G__check_two hr__check_two rfl T.g__check_two T.k__check_two T.b__check_two .nil pass0 (pa_cons (pv 0 (hv := Or.inl rfl)) (pa_cons (pv 1 (hv := Or.inl rfl)) (pa_cons (pv 2 (hv := Or.inl rfl)) pa_nil)))))
      (pss_one (ps_ret (pe_cmpR (r := rIsNn) op_isN (pe_call G__first_unlike hr__first_unlike rfl T.g__first_unlike T.k__first_unlike T.b__first_unlike .nil pass0 (pa_cons (pv 0 (hv := Or.inl rfl)) (pa_cons (pv 1 (hv := Or.inl rfl)) (pa_cons (pv 2 (hv := Or.inl rfl)) pa_nil)))) pe_non (nomark _))))), ?_⟩
    try dsimp only [cxOf, Cx.nox, Cx.wish, Cx.blk]
    rw [show L2.start ["kind", "one", "other"] [.ref kp, .ref p, .ref q] = [some (.ref kp), some (.ref p), some (.ref q)] from rfl]
    obtain ⟨hk, hp, hq, l1, l9, hc, m1, m9, hd, k⟩ := h
    walk_at "rd"
    refine ⟨kp, p, q, cs, ds, wd, s, rfl, hk, hp, hq, l1, l9, hc, m1, m9, hd, fun H1 s1 => ?_⟩
    walk_at "rd"
    refine ⟨kp, p, q, cs, ds, wd, s, rfl, hk.same s1, s1 _ _ hp, s1 _ _ hq, l1, l9, hc, m1, m9, hd, fun v H2 hv s2 => ?_⟩
    walk_at "rd"
    rcases hv with ⟨rfl, hv⟩ | ⟨n, rfl, n9, hn, _⟩
    · unfold rIsNn
      exact ⟨rfl, k _ _ ⟨fun _ => hv, fun _ => decide_eq_true rfl⟩ (s1.trans s2)⟩
    · unfold rIsNn
      refine ⟨rfl, k _ _ ⟨fun z => ?_, fun z => ?_⟩ (s1.trans s2)⟩
      · exact absurd (of_decide_eq_true z) (by intro y; cases y)
      · rw [z n] at hn; cases hn
def sp_first_unlike (K : PySem.W.Frag) (C : Addr) (TS : List (Addr × Str)) : Sp := fun vs H Q _ => ∃ (kp p q : Addr) (cs ds : List Int) (wd : Nat) (s : Bool), vs = [.ref kp, .ref p, .ref q] ∧ Kd C H kp wd s ∧ H p = some (.lst (cs.map V.int)) ∧ H q = some (.lst (ds.map V.int)) ∧ 1 ≤ cs.length ∧ cs.length ≤ 9 ∧ (∀ c ∈ cs, SD c) ∧ 1 ≤ ds.length ∧ ds.length ≤ 9 ∧ (∀ c ∈ ds, SD c) ∧ ∀ v H', UnV wd cs ds v → Same H H' → Q v H'
theorem ok_first_unlike {P : Program} {w : World} {K : PySem.W.Frag} {mg : Str → Option Value} {base : Heap} (T : Txt K mg) (B : TBs T base) : FnOk P w K mg base CX0 7 T.f_first_unlike T.fd_first_unlike ["kind", "one", "other"] (sp_first_unlike K T.C_Kind T.tabs) := by
  have G__check_two := ok__check_two (P := P) (w := w) (base := base) T B
  have G__first_unlike := ok__first_unlike (P := P) (w := w) (base := base) T B
  refine T.F_first_unlike.ok sc_first_unlike (fun vs H Q E h => ?_) (fun cdv A outer s H vs Q E hr h => ?_)
  · obtain ⟨kp, p, q, cs, ds, wd, s, rfl, _⟩ := h
    rfl
  · obtain ⟨kp, p, q, cs, ds, wd, s, rfl, h⟩ := h
    have hr__check_two : Room 4 _ := hr.mono (by decide)
    have hr__first_unlike : Room 6 _ := hr.mono (by decide)
    refine ⟨_, (pss_cons (ps_expr (pe_call G__check_two hr__check_two rfl T.g__check_two T.k__check_two T.b__check_two .nil pass0 (pa_cons (pv 0 (hv := Or.inl rfl)) (pa_cons (pv 1 (hv := Or.inl rfl)) (pa_cons (pv 2 (hv := Or.inl rfl)) pa_nil)))))
      (pss_one (ps_ret (pe_call G__first_unlike hr__first_unlike rfl T.g__first_unlike T.k__first_unlike T.b__first_unlike .nil pass0 (pa_cons (pv 0 (hv := Or.inl rfl)) (pa_cons (pv 1 (hv := Or.inl rfl)) (pa_cons (pv 2 (hv := Or.inl rfl)) pa_nil))))))), ?_⟩
    try dsimp only [cxOf, Cx.nox, Cx.wish, Cx.blk]
    rw [show L2.start ["kind", "one", "other"] [.ref kp, .ref p, .ref q] = [some (.ref kp), some (.ref p), some (.ref q)] from rfl]
    obtain ⟨hk, hp, hq, l1, l9, hc, m1, m9, hd, k⟩ := h
    walk_at "rd"
    refine ⟨kp, p, q, cs, ds, wd, s, rfl, hk, hp, hq, l1, l9, hc, m1, m9, hd, fun H1 s1 => ?_⟩
    walk_at "rd"
    exact ⟨kp, p, q, cs, ds, wd, s, rfl, hk.same s1, s1 _ _ hp, s1 _ _ hq, l1, l9, hc, m1, m9, hd, fun v H2 hv s2 => k v _ hv (s1.trans s2)⟩
def sp__alike_families (K : PySem.W.Frag) (C : Addr) (TS : List (Addr × Str)) : Sp := fun vs H Q _ => ∃ (kp p q : Addr) (cs ds : List Int) (wd : Nat) (s : Bool), vs = [.ref kp, .ref p, .ref q] ∧ Kd C H kp wd s ∧ H p = some (.lst (cs.map V.int)) ∧ H q = some (.lst (ds.map V.int)) ∧ 1 ≤ cs.length ∧ cs.length ≤ 9 ∧ ds.length ≤ 9 ∧ ∀ r H', FamRow H' r wd (fun x => (2 : Int) ^ wd ∣ pvl (difL cs ds) x) → Same H H' → Q (.ref r) H'
theorem ok__alike_families {P : Program} {w : World} {K : PySem.W.Frag} {mg : Str → Option Value} {base : Heap} (T : Txt K mg) (B : TBs T base) : FnOk P w K mg base CX0 4 T.f__alike_families T.fd__alike_families ["kind", "one", "other"] (sp__alike_families K T.C_Kind T.tabs) := by
  have G_root_families := ok_root_families (P := P) (w := w) (base := base) T B
  refine T.F__alike_families.ok sc__alike_families (fun vs H Q E h => ?_) (fun cdv A outer s H vs Q E hr h => ?_)
  · obtain ⟨kp, p, q, cs, ds, wd, s, rfl, _⟩ := h
    rfl
  · obtain ⟨kp, p, q, cs, ds, wd, s, rfl, h⟩ := h
    have hr_root_families : Room 3 _ := hr.mono (by decide)
    refine ⟨_, (pss_one (ps_ret (pe_call G_root_families hr_root_families rfl T.g_root_families T.k_root_families T.b_root_families .nil pass0 (pa_cons (pe_lc (own := [("c", 3), ("d", 4)]) (g := gTup K 2 (gCons (gName 3) (gCons (gName 4) gNil))) (tt := tYes) (by rfl) sc__alike_families.nd (ZLg.pi_zl (by rfl) T.g_zip_longest (pa_cons (pv 1 (hv := Or.inl rfl)) (pa_cons (pv 2 (hv := Or.inl rfl)) pa_nil)) pe_int) (blkOk_by (own := [("c", 3), ("d", 4)]) (N := ["kind", "one", "other", "c", "d"]) (sc := defScope s__alike_families) (by decide +kernel)) (fun _ _ _ _ _ => (pg_tup rfl (pgs_cons (pg_name (i := 3) sc__alike_families.nd rfl (Or.inl rfl)) (pgs_cons (pg_name (i := 4) sc__alike_families.nd rfl (Or.inl rfl)) pgs_nil)))) (fun _ _ _ _ _ => pts_nil) (fun _ _ _ _ _ => (pe_op op_sub (pv 3 (hv := Or.inl rfl)) (pv 4 (hv := Or.inl rfl))))) (pa_cons (pe_fld (pv 0 (hv := Or.inl rfl)) rfl) pa_nil))))), ?_⟩
    try dsimp only [cxOf, Cx.nox, Cx.wish, Cx.blk]
    rw [show L2.start ["kind", "one", "other", "c", "d"] [.ref kp, .ref p, .ref q] = [some (.ref kp), some (.ref p), some (.ref q), none, none] from rfl]
    obtain ⟨hk, hp, hq, l1, l9, m9, k⟩ := h
    have w2 := hk.w2
    walk_at "rd"
    unfold ZLg.iZlg
    walk_at "rd"
    refine ⟨p, q, _, _, 0, rfl, rfl, SqL.of hp, SqL.of hq, fun D hD => ZLg.lc_zl (K := K) (fun j H' => H' D = some (.lst (((difL cs ds).take j).map V.int)) ∧ Same H H') ⟨upd_same, sm_new (Same.refl H) hD⟩ (fun i H' z => ⟨SqL.of (z.2 _ _ hp), SqL.of (z.2 _ _ hq)⟩) ?_ ?_⟩
    · rintro j t H' hj ⟨hd, sm⟩ ht
      rw [List.length_map, List.length_map] at hj
      have ec : (cs.map V.int).getD j (.int 0) = .int (cs.getD j 0) := by
        simp only [List.getD_eq_getElem?_getD, List.getElem?_map]
        cases cs[j]? <;> rfl
      have ed : (ds.map V.int).getD j (.int 0) = .int (ds.getD j 0) := by
        simp only [List.getD_eq_getElem?_getD, List.getElem?_map]
        cases ds[j]? <;> rfl
      rw [ec, ed]
      have hd := gn (u := .tup [.int (cs.getD j 0), .int (ds.getD j 0)]) hd ht
      have sm := sm_new (o := .tup [.int (cs.getD j 0), .int (ds.getD j 0)]) sm ht
      have ht' : (L2.upd H' t (.tup [.int (cs.getD j 0), .int (ds.getD j 0)])) t = some (.tup [.int (cs.getD j 0), .int (ds.getD j 0)]) := upd_same
      generalize L2.upd H' t _ = H'' at hd sm ht' ⊢
      walk_at "rd"
      refine ⟨rfl, ?_⟩
      walk_at "rd"
      refine iteT ?_
      walk_at "rd"
      refine ⟨_, hd, by rw [List.length_map, List.length_take]; exact small1000 (by omega), ?_, sm_mut sm hD⟩
      rw [upd_same, List.take_succ, difL_get cs ds j hj, List.map_append]
      rfl
    rintro H1 ⟨hd, s1⟩
    rw [List.length_map, List.length_map, List.take_of_length_le (by rw [difL_len]; exact Nat.le_refl _)] at hd
    walk_at "rd"
    refine w_fb T rfl (hk.same s1) ?_
    have dl := difL_len cs ds
    exact ⟨D, difL cs ds, wd, rfl, hd, by omega, by omega, w2, fun r H2 hf s2 => k r _ hf (s1.trans s2)⟩
def sp__unlike_total (K : PySem.W.Frag) (C : Addr) (TS : List (Addr × Str)) : Sp := fun vs H Q _ => ∃ (q : Addr) (first last : Int) (out : List V) (fl : FL) (P : Int → Bool), vs = [.ref q, .int first, .int last] ∧ H q = some (.lst out) ∧ PRow H out fl ∧ fl.length ≤ 2000 ∧ (∀ x, (cntF x fl : Int) = if P x = true then 1 else 0) ∧ ∀ H', Same H H' → Q (.int (tot (fun x => !P x) first last)) H'
theorem ok__unlike_total {P : Program} {w : World} {K : PySem.W.Frag} {mg : Str → Option Value} {base : Heap} (T : Txt K mg) (B : TBs T base) : FnOk P w K mg base CX0 2 T.f__unlike_total T.fd__unlike_total ["families", "first", "last"] (sp__unlike_total K T.C_Kind T.tabs) := by
  have G_total_inside := ok_total_inside (P := P) (w := w) (base := base) T B
  refine T.F__unlike_total.ok sc__unlike_total (fun vs H Q E h => ?_) (fun cdv A outer s H vs Q E hr h => ?_)
  · obtain ⟨q, first, last, out, fl, P, rfl, _⟩ := h
    rfl
  · obtain ⟨q, first, last, out, fl, P, rfl, h⟩ := h
    have hr_total_inside : Room 1 _ := hr.mono (by decide)
    refine ⟨_, (pss_one (ps_ret (pe_ifExp (pt_cmpR op_le (pv 1 (hv := Or.inl rfl)) (pv 2 (hv := Or.inl rfl)) (nomark _)) (pe_op op_sub (pe_op op_add (pe_op op_sub (pv 2 (hv := Or.inl rfl)) (pv 1 (hv := Or.inl rfl))) pe_int) (pe_call G_total_inside hr_total_inside rfl T.g_total_inside T.k_total_inside T.b_total_inside .nil pass0 (pa_cons (pv 0 (hv := Or.inl rfl)) (pa_cons (pv 1 (hv := Or.inl rfl)) (pa_cons (pv 2 (hv := Or.inl rfl)) pa_nil))))) pe_int))), ?_⟩
    try dsimp only [cxOf, Cx.nox, Cx.wish, Cx.blk]
    rw [show L2.start ["families", "first", "last"] [.ref q, .int first, .int last] = [some (.ref q), some (.int first), some (.int last)] from rfl]
    obtain ⟨hq, row, fl2, cnt, k⟩ := h
    walk_at "rd"
    refine w_if ?_
    walk_at "rd"
    refine w_dec (fun c => ?_) (fun c => ?_)
    · walk_at "rd"
      refine ⟨q, first, last, out, fl, rfl, hq, row, fl2, fun H1 s1 => ?_⟩
      rw [totF_tot cnt (by omega)]
      walk_at "rd"
      rw [tot_not (by omega)] at k
      exact k _ s1
    · walk_at "rd"
      rw [tot_none (by omega)] at k
      exact k _ (Same.refl H)
def sp_unlike_total (K : PySem.W.Frag) (C : Addr) (TS : List (Addr × Str)) : Sp := fun vs H Q _ => ∃ (kp p q : Addr) (cs ds : List Int) (first last : Int) (wd : Nat) (s : Bool), vs = [.ref kp, .ref p, .ref q, .int first, .int last] ∧ Kd C H kp wd s ∧ H p = some (.lst (cs.map V.int)) ∧ H q = some (.lst (ds.map V.int)) ∧ 1 ≤ cs.length ∧ cs.length ≤ 9 ∧ (∀ c ∈ cs, SD c) ∧ 1 ≤ ds.length ∧ ds.length ≤ 9 ∧ (∀ c ∈ ds, SD c) ∧ (loK wd s ≤ first ∧ first ≤ hiK wd s) ∧ (loK wd s ≤ last ∧ last ≤ hiK wd s) ∧ ∀ H', Same H H' → Q (.int (tot (unP wd cs ds) first last)) H'
theorem ok_unlike_total {P : Program} {w : World} {K : PySem.W.Frag} {mg : Str → Option Value} {base : Heap} (T : Txt K mg) (B : TBs T base) : FnOk P w K mg base CX0 7 T.f_unlike_total T.fd_unlike_total ["kind", "one", "other", "first", "last"] (sp_unlike_total K T.C_Kind T.tabs) := by
  have G__alike_families := ok__alike_families (P := P) (w := w) (base := base) T B
  have G__check_range := ok__check_range (P := P) (w := w) (base := base) T B
  have G__unlike_total := ok__unlike_total (P := P) (w := w) (base := base) T B
  refine T.F_unlike_total.ok sc_unlike_total (fun vs H Q E h => ?_) (fun cdv A outer s H vs Q E hr h => ?_)
  · obtain ⟨kp, p, q, cs, ds, first, last, wd, s, rfl, _⟩ := h
    rfl
  · obtain ⟨kp, p, q, cs, ds, first, last, wd, s, rfl, h⟩ := h
    have hr__alike_families : Room 4 _ := hr.mono (by decide)
    have hr__check_range : Room 6 _ := hr.mono (by decide)
    have hr__unlike_total : Room 2 _ := hr.mono (by decide)
    refine ⟨_, (pss_cons (ps_expr (pe_call G__check_range hr__check_range rfl T.g__check_range T.k__check_range T.b__check_range .nil pass0 (pa_cons (pv 0 (hv := Or.inl rfl)) (pa_cons (pv 1 (hv := Or.inl rfl)) (pa_cons (pv 2 (hv := Or.inl rfl)) (pa_cons (pv 3 (hv := Or.inl rfl)) (pa_cons (pv 4 (hv := Or.inl rfl)) pa_nil)))))))
      (pss_one (ps_ret (pe_call G__unlike_total hr__unlike_total rfl T.g__unlike_total T.k__unlike_total T.b__unlike_total .nil pass0 (pa_cons (pe_call G__alike_families hr__alike_families rfl T.g__alike_families T.k__alike_families T.b__alike_families .nil pass0 (pa_cons (pv 0 (hv := Or.inl rfl)) (pa_cons (pv 1 (hv := Or.inl rfl)) (pa_cons (pv 2 (hv := Or.inl rfl)) pa_nil)))) (pa_cons (pv 3 (hv := Or.inl rfl)) (pa_cons (pv 4 (hv := Or.inl rfl)) pa_nil))))))), ?_⟩
    try dsimp only [cxOf, Cx.nox, Cx.wish, Cx.blk]
    rw [show L2.start ["kind", "one", "other", "first", "last"] [.ref kp, .ref p, .ref q, .int first, .int last] = [some (.ref kp), some (.ref p), some (.ref q), some (.int first), some (.int last)] from rfl]
    obtain ⟨hk, hp, hq, l1, l9, hc, m1, m9, hd, f1, f2, k⟩ := h
    walk_at "rd"
    refine ⟨kp, p, q, cs, ds, first, last, wd, s, rfl, hk, hp, hq, l1, l9, hc, m1, m9, hd, f1, f2, fun H1 s1 => ?_⟩
    walk_at "rd"
    refine ⟨kp, p, q, cs, ds, wd, s, rfl, hk.same s1, s1 _ _ hp, s1 _ _ hq, l1, l9, m9, fun r H2 hf s2 => ?_⟩
    obtain ⟨out, fl, hout, row, nrow, fl2, cnt⟩ := hf.cnt
    walk_at "rd"
    exact ⟨r, first, last, out, fl, rtP wd (difL cs ds), rfl, hout, row, fl2, cnt, fun H3 s3 => k _ ((s1.trans s2).trans s3)⟩
def sp_unlike_at (K : PySem.W.Frag) (C : Addr) (TS : List (Addr × Str)) : Sp := fun vs H Q _ => ∃ (kp p q : Addr) (cs ds : List Int) (first last : Int) (j : Int) (wd : Nat) (s : Bool), vs = [.ref kp, .ref p, .ref q, .int first, .int last, .int j] ∧ Kd C H kp wd s ∧ H p = some (.lst (cs.map V.int)) ∧ H q = some (.lst (ds.map V.int)) ∧ 1 ≤ cs.length ∧ cs.length ≤ 9 ∧ (∀ c ∈ cs, SD c) ∧ 1 ≤ ds.length ∧ ds.length ≤ 9 ∧ (∀ c ∈ ds, SD c) ∧ (loK wd s ≤ first ∧ first ≤ hiK wd s) ∧ (loK wd s ≤ last ∧ last ≤ hiK wd s) ∧ LamX.Tabs TS H ∧ first ≤ last + 1 ∧ 0 ≤ j ∧ j < tot (unP wd cs ds) first last ∧ ∀ x H', AtOf (unP wd cs ds) first last j x → Sm TS H H' → Q (.int x) H'
theorem ok_unlike_at {P : Program} {w : World} {K : PySem.W.Frag} {mg : Str → Option Value} {base : Heap} (T : Txt K mg) (B : TBs T base) : FnOk P w K mg base CX0 19 T.f_unlike_at T.fd_unlike_at ["kind", "one", "other", "first", "last", "j"] (sp_unlike_at K T.C_Kind T.tabs) := by
  have G__alike_families := ok__alike_families (P := P) (w := w) (base := base) T B
  have G__check_range := ok__check_range (P := P) (w := w) (base := base) T B
  have G__unlike_total := ok__unlike_total (P := P) (w := w) (base := base) T B
  have G_wanted_at := ok_wanted_at (P := P) (w := w) (base := base) T B
  refine T.F_unlike_at.ok sc_unlike_at (fun vs H Q E h => ?_) (fun A outer s H vs Q E hr h => ?_)
  · obtain ⟨kp, p, q, cs, ds, first, last, j, wd, s, rfl, _⟩ := h
    rfl
  · obtain ⟨kp, p, q, cs, ds, first, last, j, wd, s, rfl, h⟩ := h
    have hr__alike_families : Room 4 _ := hr.mono (by decide)
    have hr__check_range : Room 6 _ := hr.mono (by decide)
    have hr__unlike_total : Room 2 _ := hr.mono (by decide)
    have hr_wanted_at : Room 18 _ := hr.mono (by decide)
    refine ⟨_, (pss_cons (ps_expr (pe_call G__check_range hr__check_range rfl T.g__check_range T.k__check_range T.b__check_range .nil pass0 (pa_cons (pv 0 (hv := Or.inl rfl)) (pa_cons (pv 1 (hv := Or.inl rfl)) (pa_cons (pv 2 (hv := Or.inl rfl)) (pa_cons (pv 3 (hv := Or.inl rfl)) (pa_cons (pv 4 (hv := Or.inl rfl)) pa_nil)))))))
      (pss_cons (ps_set (i := 6) sc_unlike_at.nd rfl (Or.inr rfl) (pe_call G__alike_families hr__alike_families rfl T.g__alike_families T.k__alike_families T.b__alike_families .nil pass0 (pa_cons (pv 0 (hv := Or.inl rfl)) (pa_cons (pv 1 (hv := Or.inl rfl)) (pa_cons (pv 2 (hv := Or.inl rfl)) pa_nil)))))
      (pss_one (ps_ret (pe_lamC2 (T := T.tabs) (pa := "start") (pb := "end") (kb := 2) (C := (fun _ _ _ => False)) G_wanted_at hr_wanted_at rfl T.g_wanted_at T.k_wanted_at T.b_wanted_at B.tb_unlike_at rfl T.mT_unlike_at T.uT_unlike_at (lamP2_by (sc := defScope s_unlike_at) (by decide +kernel)) (fun z => absurd (show ("start" : Str) ∈ (["kind", "one", "other", "first", "last", "j", "families"] : List Str) from z) (by decide +kernel)) (fun z => absurd (show ("end" : Str) ∈ (["kind", "one", "other", "first", "last", "j", "families"] : List Str) from z) (by decide +kernel)) rfl rfl (fun _ _ _ _ _ _ _ => rfl) (fun _ _ _ z => z.elim)
      (fun _ _ _ _ _ _ KN hrL => (pe_call G__unlike_total (hrL.mono (by decide)) rfl T.g__unlike_total T.k__unlike_total T.b__unlike_total .nil pass0 (pa_cons (pv 6 (hv := Or.inr (Or.inr rfl))) (pa_cons (pv 7 (hv := Or.inl rfl)) (pa_cons (pv 8 (hv := Or.inl rfl)) pa_nil))))) (pa_cons (pv 3 (hv := Or.inl rfl)) (pa_cons (pv 4 (hv := Or.inl rfl)) (pa_cons (pv 5 (hv := Or.inl rfl)) pa_nil)))))))), ?_⟩
    try dsimp only [cxOf, Cx.nox, Cx.wish, Cx.blk]
    rw [show L2.start ["kind", "one", "other", "first", "last", "j", "families"] [.ref kp, .ref p, .ref q, .int first, .int last, .int j] = [some (.ref kp), some (.ref p), some (.ref q), some (.int first), some (.int last), some (.int j), none] from rfl]
    obtain ⟨hk, hp, hq, l1, l9, hc, m1, m9, hd, f1, f2, hT, le, j0, j1, k⟩ := h
    have w2 := hk.w2
    walk_at "rd"
    refine ⟨kp, p, q, cs, ds, first, last, wd, s, rfl, hk, hp, hq, l1, l9, hc, m1, m9, hd, f1, f2, fun H1 s1 => ?_⟩
    walk_at "rd"
    refine ⟨kp, p, q, cs, ds, wd, s, rfl, hk.same s1, s1 _ _ hp, s1 _ _ hq, l1, l9, m9, fun r H2 hf s2 => ?_⟩
    obtain ⟨out, fl, hout, row, nrow, fl2, cnt⟩ := hf.cnt
    have s12 := s1.trans s2
    have bf := bbk w2 f1.1 f1.2
    have bl := bbk w2 f2.1 f2.2
    walk_at "rd"
    refine ⟨(Sm.of s12).2 hT, fun fn c' H3 s3 hco => ?_⟩
    walk_at "rd"
    intro C' hC' hlam
    refine ⟨fn, first, last, j, unP wd cs ds, rfl, hlam 12 _ (by decide) (fun ws H4 Q4 zz => ?_), bf, bl, le, j0, j1, fun x H' hx s5 => k _ _ hx (((Sm.of s12).trans s3).trans s5)⟩
    obtain ⟨u, u2, rfl, e1, e2, e3, s4, qq⟩ := zz
    refine ⟨_, _, rfl, s4.at hco, ?_⟩
    dsimp only [List.cons_append, List.nil_append]
    walk_at "rd"
    have s34 := s3.trans s4
    refine ⟨r, u, u2, out, fl, rtP wd (difL cs ds), rfl, s34.at hout, row.sm s34, fl2, cnt, fun H5 s5 => ?_⟩
    exact qq _ (Sm.of s5)
def sp__without_zeros (K : PySem.W.Frag) (C : Addr) (TS : List (Addr × Str)) : Sp := fun vs H Q _ => ∃ (p : Addr) (cs : List Int), vs = [.ref p] ∧ H p = some (.lst (cs.map V.int)) ∧ cs.length ≤ 1000 ∧ ∀ (q : Addr) H', H' q = some (.lst ((trm cs).map V.int)) → H q = none → Same H H' → Q (.ref q) H'
theorem ok__without_zeros {P : Program} {w : World} {K : PySem.W.Frag} {mg : Str → Option Value} {base : Heap} (T : Txt K mg) (B : TBs T base) : FnOk P w K mg base CX0 1 T.f__without_zeros T.fd__without_zeros ["numbers"] (sp__without_zeros K T.C_Kind T.tabs) := by
  refine T.F__without_zeros.ok sc__without_zeros (fun vs H Q E h => ?_) (fun cdv A outer s H vs Q E hr h => ?_)
  · obtain ⟨p, cs, rfl, _⟩ := h
    rfl
  · obtain ⟨p, cs, rfl, h⟩ := h
    refine ⟨_, (pss_cons (ps_set (i := 1) sc__without_zeros.nd rfl (Or.inl rfl) (pe_callB (id := "len") (r := rLenS K) call_len_seq (by rfl) T.n_len (by decide +kernel) (pa_cons (pv 0 (hv := Or.inl rfl)) pa_nil)))
      (pss_cons (ps_while PassesOwn.never (PW.pt (pw_and (pt_cmpR op_gt (pv 1 (hv := Or.inl rfl)) pe_int (nomark _)) (pw_and1 (pt_cmpR op_eq (pe_ix (r := rIxL K) ix_list (pv 0 (hv := Or.inl rfl)) (pe_op op_sub (pv 1 (hv := Or.inl rfl)) pe_int) (fun _ _ => rfl)) pe_int (nomark _)))))
        (pss_one (ps_aug (i := 1) sc__without_zeros.nd rfl (Or.inl rfl) pe_int ip_sub)))
      (pss_one (ps_ret (pe_slice sl_list (pv 0 (hv := Or.inl rfl)) po_none (po_some (pv 1 (hv := Or.inl rfl)))))))), ?_⟩
    try dsimp only [cxOf, Cx.nox, Cx.wish, Cx.blk]
    rw [show L2.start ["numbers", "many"] [.ref p] = [some (.ref p), none] from rfl]
    obtain ⟨hp, l9, k⟩ := h
    walk_at "rd"
    refine w_len hp ?_
    rw [List.length_map]
    walk_at "rd"
    have fin : ∀ n : Nat, n ≤ cs.length → trm cs = trm (cs.take n) → trm (cs.take n) = cs.take n → ∀ (q : Addr), H q = none → Q (.ref q) (L2.upd H q (.lst (cutV (cs.map V.int) none (some (n : Int))))) := fun n hn e1 e2 q hq => by
      refine k q _ ?_ hq (sm_new (Same.refl H) hq)
      rw [upd_same, cut_take V.int cs n, e1, e2]
    refine w_while (fun m σ H' => ∃ n : Nat, σ = [some (.ref p), some (.int (n : Int))] ∧ m = n ∧ n ≤ cs.length ∧ trm cs = trm (cs.take n) ∧ H = H') cs.length ⟨cs.length, rfl, rfl, Nat.le_refl _, by rw [List.take_of_length_le (Nat.le_refl _)], rfl⟩ ?_
    rintro m σ H' ⟨n, rfl, rfl, hn, he, rfl⟩
    walk_at "rd"
    refine w_dec (fun c1 => ?_) (fun c1 => ?_)
    · obtain ⟨n, rfl⟩ : ∃ i, m = i + 1 := ⟨m - 1, by omega⟩
      have ex : cs[n]? = some (cs[n]'(by omega)) := List.getElem?_eq_getElem (by omega)
      generalize cs[n]'(by omega) = x at ex
      have et : cs.take (n + 1) = cs.take n ++ [x] := by rw [List.take_succ, ex]; rfl
      walk_at "rd"
      rw [show ((n + 1 : Nat) : Int) - 1 = (n : Int) by omega]
      refine w_ixL hp (atI_nat (j := n) (v := .int x) (by rw [List.getElem?_map, ex]; rfl)) ?_
      walk_at "rd"
      refine w_dec (fun c2 => ?_) (fun c2 => ?_)
      · refine ⟨fun σ H' => σ = [some (.ref p), some (.int (n : Int))] ∧ H = H', fun σ' H' z => ⟨n, Nat.lt_succ_self n, n, z.1, rfl, by omega, by rw [he, et, c2, trm_app0], z.2⟩, ?_⟩
        walk_at "rd"
        refine w_aug rfl ?_
        walk_at "rd"
        refine ⟨_, _, rfl, rfl, ?_, rfl⟩
        rw [show ((n + 1 : Nat) : Int) - 1 = (n : Int) by omega]
        rfl
      · walk_at "rd"
        refine w_slL (SqL.of hp) (fun q hq => ?_)
        exact fin (n + 1) hn he (by rw [et, trm_last c2]) q hq
    · refine iteF ?_
      have m0 : m = 0 := by omega
      subst m0
      walk_at "rd"
      refine w_slL (SqL.of hp) (fun q hq => ?_)
      exact fin 0 hn he rfl q hq

theorem pick_nf {xs : List Int} {lo hi st : Option Int} {n : Nat} {ix : List Nat} (hn : xs.length = n) (h : sliceRange (sliceBounds lo hi st n).1 (sliceBounds lo hi st n).2.1 (sliceBounds lo hi st n).2.2 = ix) : pickL xs lo hi st = ix.filterMap (xs[·]?) := by
  unfold pickL
  rw [hn, h]
/-- what stands in the row after i steps -/
def divL (c : Int) (cs : List Int) (i : Nat) : List Int := (List.range i).map fun s => pvl (cs.drop (cs.length - s)) c
theorem divL_len (c : Int) (cs : List Int) (i : Nat) : (divL c cs i).length = i := by unfold divL; rw [List.length_map, List.length_range]
theorem divL_succ (c : Int) (cs : List Int) (i : Nat) : divL c cs (i + 1) = divL c cs i ++ [pvl (cs.drop (cs.length - i)) c] := by unfold divL; rw [List.range_succ, List.map_append]; rfl
theorem divL_pick (c : Int) : ∀ cs : List Int, cs.length ≤ 9 → pickL (divL c cs cs.length) none (some 0) (some (-1)) = sfv c cs.tail
  | [], _ => by
    rw [pick_nf (n := 0) rfl (show _ = ([] : List Nat) by decide +kernel)]
    rfl
  | [a0], _ => by
    rw [pick_nf (n := 1) rfl (show _ = ([] : List Nat) by decide +kernel)]
    rfl
  | [a0, a1], _ => by
    rw [pick_nf (n := 2) rfl (show _ = ([1] : List Nat) by decide +kernel)]
    rfl
  | [a0, a1, a2], _ => by
    rw [pick_nf (n := 3) rfl (show _ = ([2, 1] : List Nat) by decide +kernel)]
    rfl
  | [a0, a1, a2, a3], _ => by
    rw [pick_nf (n := 4) rfl (show _ = ([3, 2, 1] : List Nat) by decide +kernel)]
    rfl
  | [a0, a1, a2, a3, a4], _ => by
    rw [pick_nf (n := 5) rfl (show _ = ([4, 3, 2, 1] : List Nat) by decide +kernel)]
    rfl
  | [a0, a1, a2, a3, a4, a5], _ => by
    rw [pick_nf (n := 6) rfl (show _ = ([5, 4, 3, 2, 1] : List Nat) by decide +kernel)]
    rfl
  | [a0, a1, a2, a3, a4, a5, a6], _ => by
    rw [pick_nf (n := 7) rfl (show _ = ([6, 5, 4, 3, 2, 1] : List Nat) by decide +kernel)]
    rfl
  | [a0, a1, a2, a3, a4, a5, a6, a7], _ => by
    rw [pick_nf (n := 8) rfl (show _ = ([7, 6, 5, 4, 3, 2, 1] : List Nat) by decide +kernel)]
    rfl
  | [a0, a1, a2, a3, a4, a5, a6, a7, a8], _ => by
    rw [pick_nf (n := 9) rfl (show _ = ([8, 7, 6, 5, 4, 3, 2, 1] : List Nat) by decide +kernel)]
    rfl
  | _ :: _ :: _ :: _ :: _ :: _ :: _ :: _ :: _ :: _ :: _, h => absurd h (by simp only [List.length_cons]; omega)
def sp__divided (K : PySem.W.Frag) (C : Addr) (TS : List (Addr × Str)) : Sp := fun vs H Q _ => ∃ (p : Addr) (cs : List Int) (c : Int), vs = [.ref p, .int c] ∧ H p = some (.lst (cs.map V.int)) ∧ cs.length ≤ 9 ∧ (∀ i : Nat, i ≤ cs.length → (pvl (cs.drop i) c).natAbs < 2 ^ 2000) ∧ c.natAbs ≤ 9 ∧ ∀ (t q : Addr) H', H' q = some (.lst ((sfv c cs.tail).map V.int)) → H' t = some (.tup [.ref q, .int (pvl cs c)]) → H q = none → Same H H' → Q (.ref t) H'
theorem ok__divided {P : Program} {w : World} {K : PySem.W.Frag} {mg : Str → Option Value} {base : Heap} (T : Txt K mg) (B : TBs T base) : FnOk P w K mg base CX0 1 T.f__divided T.fd__divided ["polynomial", "k"] (sp__divided K T.C_Kind T.tabs) := by
  refine T.F__divided.ok sc__divided (fun vs H Q E h => ?_) (fun cdv A outer s H vs Q E hr h => ?_)
  · obtain ⟨p, cs, c, rfl, _⟩ := h
    rfl
  · obtain ⟨p, cs, c, rfl, h⟩ := h
    refine ⟨_, (pss_cons (ps_set (i := 2) sc__divided.nd rfl (Or.inl rfl) (pe_lst pa_nil))
      (pss_cons (ps_set (i := 3) sc__divided.nd rfl (Or.inl rfl) pe_int)
      (pss_cons (ps_for PassesOwn.never rfl (pi_reversed (by rfl) T.n_reversed (pa_cons (pv 0 (hv := Or.inl rfl)) pa_nil)) (pg_name (i := 4) sc__divided.nd rfl (Or.inl rfl))
        (pss_cons (ps_expr (pe_bm PySem.F.plainAttrs_list PySem.F.slot_list_append PySem.F.type_list_append mt_append (pv 2 (hv := Or.inl rfl)) (pa_cons (pv 3 (hv := Or.inl rfl)) pa_nil)))
      (pss_one (ps_set (i := 3) sc__divided.nd rfl (Or.inl rfl) (pe_op op_add (pe_op op_mulX (pv 3 (hv := Or.inl rfl)) (pv 1 (hv := Or.inl rfl))) (pv 4 (hv := Or.inl rfl)))))))
      (pss_one (ps_ret (pe_tup (pa_cons (pe_sliceS (pv 2 (hv := Or.inl rfl)) po_none (po_some pe_int) (po_some (pe_un un_neg pe_int))) (pa_cons (pv 3 (hv := Or.inl rfl)) pa_nil)))))))), ?_⟩
    try dsimp only [cxOf, Cx.nox, Cx.wish, Cx.blk]
    rw [show L2.start ["polynomial", "k", "quotient", "rest", "coefficient"] [.ref p, .int c] = [some (.ref p), some (.int c), none, none, none] from rfl]
    obtain ⟨hp, l9, hb, c9, k⟩ := h
    walk_at "rd"
    refine ⟨by show 0 ≤ sizeLine; decide, fun F hF => ?_⟩
    have hFv : (L2.upd H F (.lst [])) F = some (.lst (([] : List Int).map V.int)) := upd_same
    have s1 := sm_new (o := .lst []) (Same.refl H) hF
    generalize L2.upd H F _ = H1 at hFv s1 ⊢
    walk_at "rd"
    refine w_itR ?_
    walk_at "rd"
    have hp1 := s1 _ _ hp
    have e0 : ((cs.map V.int).length) = cs.length := List.length_map _
    refine ⟨p, cs.map V.int, rfl, SqL.of hp1, for_it (walk_rev (K := K) (a := p) (xs := cs.map V.int)) (fun i σ H' => (∃ v4 : Option V, σ = [some (.ref p), some (.int c), some (.ref F), some (.int (pvl (cs.drop (cs.length - i)) c)), v4]) ∧ H' F = some (.lst ((divL c cs i).map V.int)) ∧ Same H H') ⟨⟨none, by rw [Nat.sub_zero, List.drop_length]; rfl⟩, hFv, s1⟩ (fun i σ H' _ q => SqL.of (q.2.2 _ _ hp)) ?_ ?_⟩
    · rintro i z σ H' H'' hi ⟨⟨v4, rfl⟩, hd, sm⟩ ⟨rfl, hz⟩
      rw [List.length_map] at hi hz
      obtain ⟨x, hx, rfl⟩ := map_get hz
      have ed : cs.drop (cs.length - (i + 1)) = x :: cs.drop (cs.length - i) := by
        rw [show cs.length - (i + 1) = cs.length - 1 - i by omega, List.drop_eq_getElem_cons (by omega), show cs.length - 1 - i + 1 = cs.length - i by omega]
        congr 1
        exact Option.some.inj ((List.getElem?_eq_getElem _).symm.trans hx)
      walk_at "rd"
      refine w_bm ?_
      walk_at "rd"
      refine ⟨.inl ⟨rfl, _, SqL.of hd⟩, ?_⟩
      walk_at "rd"
      refine ⟨F, _, _, rfl, rfl, hd, by rw [List.length_map, divL_len]; exact small1000 (by omega), ?_⟩
      walk_at "rd"
      refine w_I (mulx_ok (hb (cs.length - i) (by omega)) (b := 4) (Nat.lt_of_le_of_lt c9 (by decide)) (by decide)) ?_
      walk_at "rd"
      refine ⟨⟨some (.int x), ?_⟩, ?_, sm_mut sm hF⟩
      · rw [ed]
        show [some (V.ref p), some (V.int c), some (V.ref F), some (V.int (pvl (cs.drop (cs.length - i)) c * c + x)), _] = [some (V.ref p), some (V.int c), some (V.ref F), some (V.int (x + c * pvl (cs.drop (cs.length - i)) c)), _]
        rw [Int.mul_comm, Int.add_comm]
      · rw [upd_same, divL_succ, List.map_append]; rfl
    rintro σ H2 ⟨⟨v4, rfl⟩, hd, sm⟩
    rw [List.length_map] at hd ⊢
    walk_at "rd"
    unfold tSlS
    walk_at "rd"
    refine ⟨by decide, F, _, rfl, SqL.of hd, fun q hq => ?_⟩
    rw [pickV_L, pickL_map, divL_pick c cs l9]
    have hq' : (L2.upd H2 q (.lst ((sfv c cs.tail).map V.int))) q = some (.lst ((sfv c cs.tail).map V.int)) := upd_same
    have nq : H q = none := by
      cases z : H q with
      | none => rfl
      | some o => rw [sm _ _ z] at hq; cases hq
    have s2 := sm_new (o := .lst ((sfv c cs.tail).map V.int)) sm hq
    generalize L2.upd H2 q _ = H3 at hq' s2 ⊢
    rw [Nat.sub_self, List.drop_zero]
    walk_at "rd"
    refine ⟨by show 2 ≤ sizeLine; decide, fun t ht => ?_⟩
    exact k t q _ (gn hq' ht) upd_same nq (sm_new s2 ht)
def sp_normal_form (K : PySem.W.Frag) (C : Addr) (TS : List (Addr × Str)) : Sp := fun vs H Q _ => ∃ (kp p : Addr) (cs : List Int) (wd : Nat) (s : Bool), vs = [.ref kp, .ref p] ∧ Kd C H kp wd s ∧ H p = some (.lst (cs.map V.int)) ∧ 1 ≤ cs.length ∧ cs.length ≤ 9 ∧ (∀ c ∈ cs, SD c) ∧ ∀ (q : Addr) H', H' q = some (.lst ((trm (nfm wd cs)).map V.int)) → H q = none → Same H H' → Q (.ref q) H'
theorem ok_normal_form {P : Program} {w : World} {K : PySem.W.Frag} {mg : Str → Option Value} {base : Heap} (T : Txt K mg) (B : TBs T base) : FnOk P w K mg base CX0 5 T.f_normal_form T.fd_normal_form ["kind", "polynomial"] (sp_normal_form K T.C_Kind T.tabs) := by
  have G__divided := ok__divided (P := P) (w := w) (base := base) T B
  have G__without_zeros := ok__without_zeros (P := P) (w := w) (base := base) T B
  have G_check_polynomial := ok_check_polynomial (P := P) (w := w) (base := base) T B
  have G_factors_of_two := ok_factors_of_two (P := P) (w := w) (base := base) T B
  refine T.F_normal_form.ok sc_normal_form (fun vs H Q E h => ?_) (fun cdv A outer s H vs Q E hr h => ?_)
  · obtain ⟨kp, p, cs, wd, s, rfl, _⟩ := h
    rfl
  · obtain ⟨kp, p, cs, wd, s, rfl, h⟩ := h
    have hr__divided : Room 1 _ := hr.mono (by decide)
    have hr__without_zeros : Room 1 _ := hr.mono (by decide)
    have hr_check_polynomial : Room 4 _ := hr.mono (by decide)
    have hr_factors_of_two : Room 1 _ := hr.mono (by decide)
    refine ⟨_, (pss_cons (ps_expr (pe_call G_check_polynomial hr_check_polynomial rfl T.g_check_polynomial T.k_check_polynomial T.b_check_polynomial .nil pass0 (pa_cons (pv 0 (hv := Or.inl rfl)) (pa_cons (pv 1 (hv := Or.inl rfl)) pa_nil))))
      (pss_cons (ps_set (i := 2) sc_normal_form.nd rfl (Or.inl rfl) (pe_lst pa_nil))
      (pss_cons (ps_set (i := 3) sc_normal_form.nd rfl (Or.inl rfl) (pv 1 (hv := Or.inl rfl)))
      (pss_cons (ps_set (i := 4) sc_normal_form.nd rfl (Or.inl rfl) (pe_fld (pv 0 (hv := Or.inl rfl)) rfl))
      (pss_cons (ps_for PassesOwn.never rfl (pi_range1 (by rfl) T.n_range (pa_cons (pe_callB (id := "len") (r := rLenS K) call_len_seq (by rfl) T.n_len (by decide +kernel) (pa_cons (pv 1 (hv := Or.inl rfl)) pa_nil)) pa_nil)) (pg_name (i := 5) sc_normal_form.nd rfl (Or.inl rfl))
        (pss_cons (ps_set (i := 4) sc_normal_form.nd rfl (Or.inl rfl) (pe_callB (id := "max") (r := rmax2C) (call_max2 rfl) (by rfl) T.n_max (by decide +kernel) (pa_cons pe_int (pa_cons (pe_op op_sub (pv 4 (hv := Or.inl rfl)) (pe_call G_factors_of_two hr_factors_of_two rfl T.g_factors_of_two T.k_factors_of_two T.b_factors_of_two .nil pass0 (pa_cons (pe_callB (id := "max") (r := rmax2C) (call_max2 rfl) (by rfl) T.n_max (by decide +kernel) (pa_cons pe_int (pa_cons (pv 5 (hv := Or.inl rfl)) pa_nil))) pa_nil))) pa_nil))))
      (pss_cons (ps_asg (pe_call G__divided hr__divided rfl T.g__divided T.k__divided T.b__divided .nil pass0 (pa_cons (pv 3 (hv := Or.inl rfl)) (pa_cons (pv 5 (hv := Or.inl rfl)) pa_nil))) (pg_tup rfl (pgs_cons (pg_name (i := 3) sc_normal_form.nd rfl (Or.inl rfl)) (pgs_cons (pg_name (i := 6) sc_normal_form.nd rfl (Or.inl rfl)) pgs_nil))))
      (pss_one (ps_expr (pe_bm PySem.F.plainAttrs_list PySem.F.slot_list_append PySem.F.type_list_append mt_append (pv 2 (hv := Or.inl rfl)) (pa_cons (pe_op op_mod (pv 6 (hv := Or.inl rfl)) (pe_op op_shl pe_int (pv 4 (hv := Or.inl rfl)))) pa_nil)))))))
      (pss_one (ps_ret (pe_call G__without_zeros hr__without_zeros rfl T.g__without_zeros T.k__without_zeros T.b__without_zeros .nil pass0 (pa_cons (pv 2 (hv := Or.inl rfl)) pa_nil))))))))), ?_⟩
    try dsimp only [cxOf, Cx.nox, Cx.wish, Cx.blk]
    rw [show L2.start ["kind", "polynomial", "form", "quotient", "left", "k", "rest"] [.ref kp, .ref p] = [some (.ref kp), some (.ref p), none, none, none, none, none] from rfl]
    obtain ⟨hk, hp, l1, l9, hc, k⟩ := h
    have w2 := hk.w2
    walk_at "rd"
    refine ⟨kp, p, cs, rfl, ⟨wd, s, hk⟩, hp, l1, l9, hc, fun H1 s1 => ?_⟩
    walk_at "rd"
    refine ⟨by show 0 ≤ sizeLine; decide, fun F hF => ?_⟩
    have hFv : (L2.upd H1 F (.lst [])) F = some (.lst (([] : List Int).map V.int)) := upd_same
    have nF : H F = none := by
      cases z : H F with
      | none => rfl
      | some o => rw [s1 _ _ z] at hF; cases hF
    have s2 := sm_new (o := .lst []) s1 hF
    generalize L2.upd H1 F _ = H2 at hFv s2 ⊢
    walk_at "rd"
    refine w_fb T rfl (hk.same s2) ?_
    walk_at "rd"
    refine w_len (s2 _ _ hp) ?_
    rw [List.length_map]
    walk_at "rd"
    have cb : ∀ c ∈ cs, c.natAbs ≤ 10 ^ 60 := fun c h => by
      have := hc c h
      unfold SD at this
      have e : ((10 ^ 60 : Nat) : Int) = (10 : Int) ^ 60 := Int.natCast_pow 10 60
      omega
    refine ⟨_, rfl, by omega, by omega, ?_⟩
    rw [Int.toNat_natCast]
    refine for_range (lo := 0) (n := cs.length) (fun i σ H' => (∃ (qq : Addr) (v5 v6 : Option V), σ = [some (.ref kp), some (.ref p), some (.ref F), some (.ref qq), some (.int ((wd - twT (i - 1) : Nat) : Int)), v5, v6] ∧ H' qq = some (.lst ((qnk 0 i cs).map V.int)) ∧ qq ≠ F) ∧ H' F = some (.lst (((nfm wd cs).take i).map V.int)) ∧ Same H H') ⟨⟨p, _, _, by show [_, _, _, _, _, _, _] = [_, _, _, _, some (V.int ((wd - 0 : Nat) : Int)), _, _]; rw [Nat.sub_zero], s2 _ _ hp, ne_of_none hp nF⟩, hFv, s2⟩ ?_ ?_
    · rintro i σ H3 hi ⟨⟨qq, v5, v6, rfl, hq, nqF⟩, hd, sm⟩
      walk_at "rd"
      refine w_max2 ?_
      rw [Int.zero_add]
      have i9 : i < 9 := by omega
      walk_at "rd"
      refine ⟨_, _, _, rfl, tw1_max i i9, ?_⟩
      walk_at "rd"
      refine w_max2 ?_
      rw [tw_left i9]
      walk_at "rd"
      have ql : (qnk 0 i cs).length = cs.length - i := qnk_len 0 cs i
      have qb := qnk_b (A := 10 ^ 60) cs l9 cb i (by omega)
      have k9 : ((i : Int)).natAbs ≤ 9 := by omega
      refine ⟨qq, qnk 0 i cs, (i : Int), rfl, hq, by omega, fun j _ => ?_, k9, fun t q2 H4 hq2 ht nq2 s4 => ?_⟩
      · refine Nat.lt_of_le_of_lt (pv_bd k9 _ (fun c hcm => qb c (List.mem_of_mem_drop hcm))) ?_
        rw [List.length_drop, ql]
        have h1 : (10 ^ 60 * (10 ^ 9) ^ i) * 10 ^ (cs.length - i - j) ≤ (10 ^ 60 * (10 ^ 9) ^ 9) * 10 ^ 9 := Nat.mul_le_mul (Nat.mul_le_mul_left _ (Nat.pow_le_pow_right (by decide) (by omega))) (Nat.pow_le_pow_right (by decide) (by omega))
        exact Nat.lt_of_le_of_lt h1 (by decide +kernel)
      have nF2 : q2 ≠ F := (ne_of_none hd nq2).symm
      have hd := s4 _ _ hd
      have sm4 := sm.trans s4
      walk_at "rd"
      refine w_bm ?_
      walk_at "rd"
      refine ⟨.inl ⟨rfl, _, SqL.of hd⟩, ?_⟩
      walk_at "rd"
      refine w_I (cpow (n := 1) (by omega) (by decide)) ?_
      rw [Int.toNat_natCast, Int.one_mul]
      walk_at "rd"
      refine w_I (p2 _) ?_
      refine ⟨F, _, _, rfl, rfl, hd, by rw [List.length_map, List.length_take, nfm_len]; exact small1000 (by omega), ?_⟩
      refine ⟨⟨q2, _, _, by rw [Nat.add_sub_cancel], ?_, nF2⟩, ?_, sm_mut sm4 nF⟩
      · rw [upd_ne nF2, hq2]
        show some (HO.lst ((sfv (i : Int) (qnk 0 i cs).tail).map V.int)) = some (HO.lst ((sfv (0 + (i : Int)) (qnk 0 i cs).tail).map V.int))
        rw [Int.zero_add]
      · rw [upd_same, List.take_succ, nfm_at hi, List.map_append]; rfl
    rintro σ H3 ⟨⟨qq, v5, v6, rfl, hq, nqF⟩, hd, sm⟩
    rw [List.take_of_length_le (by rw [nfm_len]; exact Nat.le_refl _)] at hd
    walk_at "rd"
    have nl := nfm_len wd cs
    refine ⟨F, nfm wd cs, rfl, hd, by omega, fun q H4 hq4 nq s4 => ?_⟩
    exact k q _ hq4 (by
      cases z : H q with
      | none => rfl
      | some o => rw [sm _ _ z] at nq; cases nq) (sm.trans s4)
def sp__is_form (K : PySem.W.Frag) (C : Addr) (TS : List (Addr × Str)) : Sp := fun vs H Q _ => ∃ (p : Addr) (cs : List Int), vs = [.ref p] ∧ H p = some (.lst (cs.map V.int)) ∧ cs.length ≤ 9 ∧ (∀ c ∈ cs, SD c) ∧ ∀ H', Same H H' → Q (.bl true) H'
theorem ok__is_form {P : Program} {w : World} {K : PySem.W.Frag} {mg : Str → Option Value} {base : Heap} (T : Txt K mg) (B : TBs T base) : FnOk P w K mg base CX0 3 T.f__is_form T.fd__is_form ["value"] (sp__is_form K T.C_Kind T.tabs) := by
  have G_is_sixty_digits := ok_is_sixty_digits (P := P) (w := w) (base := base) T B
  refine T.F__is_form.ok sc__is_form (fun vs H Q E h => ?_) (fun cdv A outer s H vs Q E hr h => ?_)
  · obtain ⟨p, cs, rfl, _⟩ := h
    rfl
  · obtain ⟨p, cs, rfl, h⟩ := h
    have hr_is_sixty_digits : Room 2 _ := hr.mono (by decide)
    refine ⟨_, (pss_cons (ps_if (pt_not (PW.pt (pw_and (pt_val (pe_callB (id := "isinstance") (r := rIsi K) call_isi (by rfl) T.n_isinstance (by decide +kernel) (pa_cons (pv 0 (hv := Or.inl rfl)) (pa_cons (pe_bltn (v := .ty "list") (by rfl) T.n_list (by decide +kernel) rfl) pa_nil)))) (pw_and1 (pt_cmpR op_le (pe_callB (id := "len") (r := rLenS K) call_len_seq (by rfl) T.n_len (by decide +kernel) (pa_cons (pv 0 (hv := Or.inl rfl)) pa_nil)) (pe_glob (v := .int 9) rfl T.g_MOST_COEFFICIENTS ⟨_, rfl⟩) (nomark _)))))) (pss_one (ps_ret pe_bl)) pss_nil)
      (pss_one (ps_ret (pe_callB (id := "all") (r := rAll K) (cr_all rfl) (by rfl) T.n_all (by decide +kernel) (pa_cons (pe_lc (own := [("c", 1)]) (g := gName 1) (tt := tYes) (by rfl) sc__is_form.nd (pi_list (pv 0 (hv := Or.inl rfl))) (blkOk_by (own := [("c", 1)]) (N := ["value", "c"]) (sc := defScope s__is_form) (by decide +kernel)) (fun _ _ _ _ _ => (pg_name (i := 1) sc__is_form.nd rfl (Or.inl rfl))) (fun _ _ _ _ _ => pts_nil) (fun _ _ _ _ _ => (pe_call G_is_sixty_digits hr_is_sixty_digits rfl T.g_is_sixty_digits T.k_is_sixty_digits T.b_is_sixty_digits .nil pass0 (pa_cons (pv 1 (hv := Or.inl rfl)) pa_nil)))) pa_nil))))), ?_⟩
    try dsimp only [cxOf, Cx.nox, Cx.wish, Cx.blk]
    rw [show L2.start ["value", "c"] [.ref p] = [some (.ref p), none] from rfl]
    obtain ⟨hp, l9, hc, k⟩ := h
    walk_at "rd"
    refine w_isi (b := true) (.base (.lst hp)) (by decide +kernel) ?_
    walk_at "rd"
    refine iteT ?_
    walk_at "rd"
    refine w_len hp ?_
    rw [List.length_map]
    walk_at "rd"
    rw [decide_eq_true (show (cs.length : Int) ≤ 9 by omega)]
    refine iteF ?_
    walk_at "rd"
    refine ⟨⟨_, SqL.of hp⟩, fun D hD => lc_list (K := K) (a := p) (xs := cs.map V.int) (fun j H' => H' D = some (.lst ((List.replicate j true).map V.bl)) ∧ Same H H') ⟨upd_same, sm_new (Same.refl H) hD⟩ (fun i H' _ q => SqL.of (q.2 _ _ hp)) ?_ ?_⟩
    · rintro j z H' hj ⟨hd, sm⟩
      obtain ⟨c, hcj, rfl⟩ := map_get hj
      have sc := hc c (List.mem_of_getElem? hcj)
      walk_at "rd"
      refine ⟨rfl, ?_⟩
      walk_at "rd"
      refine iteT ?_
      walk_at "rd"
      refine ⟨c, rfl, ?_⟩
      rw [decide_eq_true (show -(10 ^ 60) < c ∧ c < 10 ^ 60 from sc)]
      have jl := (List.getElem?_eq_some_iff.mp hcj).1
      refine ⟨_, hd, by rw [List.length_map, List.length_replicate]; exact Nat.lt_of_lt_of_le (show j < 9 by omega) (by decide), ?_, sm_mut sm hD⟩
      rw [upd_same, List.replicate_succ', List.map_append]; rfl
    rintro H' ⟨hd, sm⟩
    walk_at "rd"
    refine w_all hd ?_
    rw [show (List.replicate (cs.map V.int).length true).all id = true by simp]
    exact k _ sm
def sp_of_form (K : PySem.W.Frag) (C : Addr) (TS : List (Addr × Str)) : Sp := fun vs H Q _ => ∃ (p : Addr) (fs : List Int), vs = [.ref p] ∧ H p = some (.lst (fs.map V.int)) ∧ fs.length ≤ 9 ∧ (∀ c ∈ fs, SD c) ∧ ∀ (q : Addr) H', H' q = some (.lst ((ofF fs).map V.int)) → H q = none → Same H H' → Q (.ref q) H'
theorem ok_of_form {P : Program} {w : World} {K : PySem.W.Frag} {mg : Str → Option Value} {base : Heap} (T : Txt K mg) (B : TBs T base) : FnOk P w K mg base CX0 4 T.f_of_form T.fd_of_form ["form"] (sp_of_form K T.C_Kind T.tabs) := by
  have G__is_form := ok__is_form (P := P) (w := w) (base := base) T B
  have G__without_zeros := ok__without_zeros (P := P) (w := w) (base := base) T B
  refine T.F_of_form.ok sc_of_form (fun vs H Q E h => ?_) (fun cdv A outer s H vs Q E hr h => ?_)
  · obtain ⟨p, fs, rfl, _⟩ := h
    rfl
  · obtain ⟨p, fs, rfl, h⟩ := h
    have hr__is_form : Room 3 _ := hr.mono (by decide)
    have hr__without_zeros : Room 1 _ := hr.mono (by decide)
    refine ⟨_, (pss_cons (ps_if (pt_not (pt_val (pe_call G__is_form hr__is_form rfl T.g__is_form T.k__is_form T.b__is_form .nil pass0 (pa_cons (pv 0 (hv := Or.inl rfl)) pa_nil)))) (pss_one ps_never) pss_nil)
      (pss_cons (ps_set (i := 1) sc_of_form.nd rfl (Or.inl rfl) (pe_lst pa_nil))
      (pss_cons (ps_for PassesOwn.never rfl (pi_range3 (by rfl) T.n_range (pa_cons (pe_op op_sub (pe_callB (id := "len") (r := rLenS K) call_len_seq (by rfl) T.n_len (by decide +kernel) (pa_cons (pv 0 (hv := Or.inl rfl)) pa_nil)) pe_int) (pa_cons (pe_un un_neg pe_int) (pa_cons (pe_un un_neg pe_int) pa_nil)))) (pg_name (i := 2) sc_of_form.nd rfl (Or.inr rfl))
        (pss_cons (ps_setLc (i := 1) (own := [("upper", 3), ("lower", 4)]) (g := gTup K 2 (gCons (gName 3) (gCons (gName 4) gNil))) (tt := tYes) rfl sc_of_form.nd rfl rfl (sw_true rfl rfl rfl (by decide +kernel)) (pi_zip (by rfl) T.n_zip (pa_cons (pe_op op_cat (pe_lst (pa_cons pe_int pa_nil)) (pv 1 (hv := Or.inl rfl))) (pa_cons (pe_op op_cat (pv 1 (hv := Or.inl rfl)) (pe_lst (pa_cons pe_int pa_nil))) pa_nil))) (blkOk_by (own := [("upper", 3), ("lower", 4)]) (N := ["form", "polynomial", "k", "upper", "lower"]) (sc := defScope s_of_form) (by decide +kernel)) (fun _ _ _ _ _ => (pg_tup rfl (pgs_cons (pg_name (i := 3) sc_of_form.nd rfl (Or.inl rfl)) (pgs_cons (pg_name (i := 4) sc_of_form.nd rfl (Or.inl rfl)) pgs_nil)))) (fun _ _ _ _ _ => pts_nil) (fun _ _ _ _ _ => (pe_op op_sub (pv 3 (hv := Or.inl rfl)) (pe_op op_mulX (pv 2 (hv := Or.inr (Or.inl rfl))) (pv 4 (hv := Or.inl rfl))))))
      (pss_one (ps_augS (pv 1 (hv := Or.inl rfl)) pe_int pget_list (pe_ix (r := rIxL K) ix_list (pv 0 (hv := Or.inl rfl)) (pv 2 (hv := Or.inr (Or.inl rfl))) (fun _ _ => rfl)) ip_add set_list))))
      (pss_one (ps_ret (pe_orT (pe_call G__without_zeros hr__without_zeros rfl T.g__without_zeros T.k__without_zeros T.b__without_zeros .nil pass0 (pa_cons (pv 1 (hv := Or.inl rfl)) pa_nil)) (pe_one (pe_lst (pa_cons pe_int pa_nil))))))))), ?_⟩
    try dsimp only [cxOf, Cx.nox, Cx.wish, Cx.blk]
    rw [show L2.start ["form", "polynomial", "k", "upper", "lower"] [.ref p] = [some (.ref p), none, none, none, none] from rfl]
    obtain ⟨hp, l9, hc, k⟩ := h
    walk_at "rd"
    refine ⟨p, fs, rfl, hp, l9, hc, fun H1 s1 => ?_⟩
    walk_at "rd"
    refine iteF ?_
    walk_at "rd"
    refine ⟨by show 0 ≤ sizeLine; decide, fun q0 hq0 => ?_⟩
    have hq0v : (L2.upd H1 q0 (.lst [])) q0 = some (.lst (([] : List Int).map V.int)) := upd_same
    have s2 := sm_new (o := .lst []) s1 hq0
    generalize L2.upd H1 q0 _ = H2 at hq0v s2 ⊢
    walk_at "rd"
    refine w_iRng3j ?_
    walk_at "rd"
    refine w_len (s2 _ _ hp) ?_
    rw [List.length_map]
    walk_at "rd"
    have cb : ∀ c ∈ fs, c.natAbs ≤ 10 ^ 60 := fun c h => by
      have := hc c h
      unfold SD at this
      have e : ((10 ^ 60 : Nat) : Int) = (10 : Int) ^ 60 := Int.natCast_pow 10 60
      omega
    refine ⟨_, _, _, fs.length, rfl, by
      have := RgC.neg (i := (fs.length : Int) - 1) (j := -1) (by omega) (by omega) (by omega) (by omega)
      rw [show ((fs.length : Int) - 1 - (-1)).toNat = fs.length by omega] at this
      exact this, for_rangeC (lo := (fs.length : Int) - 1) (c := -1) (n := fs.length) (fun i σ H' => (∃ (qq : Addr) (v2 v3 v4 : Option V), σ = [some (.ref p), some (.ref qq), v2, v3, v4] ∧ H' qq = some (.lst ((grw ((fs.length - i : Nat) : Int) (fs.drop (fs.length - i))).map V.int))) ∧ Same H H') ⟨⟨q0, _, _, _, rfl, by rw [Nat.sub_zero, List.drop_length]; exact hq0v⟩, s2⟩ ?_ ?_⟩
    · rintro i σ H3 hi ⟨⟨qq, v2, v3, v4, rfl, hq⟩, sm⟩
      obtain ⟨n, hn⟩ : ∃ n, fs.length - i = n + 1 := ⟨fs.length - i - 1, by omega⟩
      rw [hn] at hq
      have ek : (fs.length : Int) - 1 + (i : Int) * -1 = (n : Int) := by omega
      rw [ek]
      obtain ⟨g, hg⟩ : ∃ g, g = grw ((n + 1 : Nat) : Int) (fs.drop (n + 1)) := ⟨_, rfl⟩
      have gl : g.length = fs.length - (n + 1) := by rw [hg, grw_len, List.length_drop]
      have gb : ∀ x ∈ g, x.natAbs ≤ 10 ^ 60 * 11 ^ 9 := fun x hx => by
        rw [hg] at hx
        refine Nat.le_trans (grw_b (A := 10 ^ 60) _ (n + 1) (by rw [List.length_drop]; omega) (fun a ha => cb a (List.mem_of_mem_drop ha)) x hx) (Nat.mul_le_mul_left _ (Nat.pow_le_pow_right (by decide) (by rw [List.length_drop]; omega)))
      rw [← hg] at hq
      walk_at "rd"
      unfold iZip
      walk_at "rd"
      refine ⟨by show 1 ≤ sizeLine; decide, fun qa hqa => ?_⟩
      have hqa' : (L2.upd H3 qa (.lst [.int 0])) qa = some (.lst [.int 0]) := upd_same
      have hq := gn (u := .lst [.int 0]) hq hqa
      have sA := sm_new (o := .lst [.int 0]) sm hqa
      generalize L2.upd H3 qa _ = HA at hqa' hq sA ⊢
      walk_at "rd"
      refine w_cat hqa' hq (by rw [List.length_map, gl]; show 1 + (fs.length - (n + 1)) ≤ sizeLine; exact Nat.le_of_lt (small1000 (by omega))) (fun qb hqb => ?_)
      rw [show ([V.int 0] ++ g.map V.int : List V) = (0 :: g).map V.int from rfl]
      have hqb' : (L2.upd HA qb (.lst ((0 :: g).map V.int))) qb = some (.lst ((0 :: g).map V.int)) := upd_same
      have hq := gn (u := .lst ((0 :: g).map V.int)) hq hqb
      have sB := sm_new (o := .lst ((0 :: g).map V.int)) sA hqb
      generalize L2.upd HA qb _ = HB at hqb' hq sB ⊢
      walk_at "rd"
      refine ⟨by show 1 ≤ sizeLine; decide, fun qc hqc => ?_⟩
      have hqc' : (L2.upd HB qc (.lst [.int 0])) qc = some (.lst [.int 0]) := upd_same
      have hq := gn (u := .lst [.int 0]) hq hqc
      have hqb' := gn (u := .lst [.int 0]) hqb' hqc
      have sC := sm_new (o := .lst [.int 0]) sB hqc
      generalize L2.upd HB qc _ = HC at hqc' hq hqb' sC ⊢
      walk_at "rd"
      refine w_cat hq hqc' (by rw [List.length_map, gl]; show (fs.length - (n + 1)) + 1 ≤ sizeLine; exact Nat.le_of_lt (small1000 (by omega))) (fun qd hqd => ?_)
      rw [show (g.map V.int ++ [V.int 0] : List V) = (g ++ [0]).map V.int by rw [List.map_append]; rfl]
      have hqd' : (L2.upd HC qd (.lst ((g ++ [0]).map V.int))) qd = some (.lst ((g ++ [0]).map V.int)) := upd_same
      have hqb' := gn (u := .lst ((g ++ [0]).map V.int)) hqb' hqd
      have sD := sm_new (o := .lst ((g ++ [0]).map V.int)) sC hqd
      generalize L2.upd HC qd _ = HD at hqd' hqb' sD ⊢
      walk_at "rd"
      refine ⟨qb, qd, _, _, rfl, SqL.of hqb', SqL.of hqd', fun D hD => ZLg.lc_zip (K := K) (fun j H' => H' D = some (.lst (((mlk n 0 g).take j).map V.int)) ∧ Same HD H') ⟨upd_same, sm_new (Same.refl HD) hD⟩ (fun i H' z => ⟨SqL.of (z.2 _ _ hqb'), SqL.of (z.2 _ _ hqd')⟩) ?_ ?_⟩
      · rintro j x y t H' hx hy ⟨hd, s5⟩ ht
        obtain ⟨u, hu, rfl⟩ := map_get hx
        obtain ⟨l, hl, rfl⟩ := map_get hy
        have jl : j < g.length + 1 := by simpa using get_lt hu
        have em : (mlk n 0 g)[j]? = some (u - n * l) := by
          rw [mlk_get n g 0 j jl, List.getD_eq_getElem?_getD, hu, List.getD_eq_getElem?_getD, hl]; rfl
        have lb : l.natAbs ≤ 10 ^ 60 * 11 ^ 9 := by
          rcases List.mem_append.mp (List.mem_of_getElem? hl) with z | z
          · exact gb l z
          · rw [List.mem_singleton.mp z]; exact Nat.zero_le _
        have hd := gn (u := .tup [.int u, .int l]) hd ht
        have s5 := sm_new (o := .tup [.int u, .int l]) s5 ht
        have ht' : (L2.upd H' t (.tup [.int u, .int l])) t = some (.tup [.int u, .int l]) := upd_same
        generalize L2.upd H' t _ = H'' at hd s5 ht' ⊢
        walk_at "rd"
        refine ⟨rfl, ?_⟩
        walk_at "rd"
        refine iteT ?_
        walk_at "rd"
        refine w_I (mulx_ok (a := 4) (Nat.lt_of_le_of_lt (show ((n : Int)).natAbs ≤ 9 by omega) (by decide)) (b := 300) (Nat.lt_of_le_of_lt lb (by decide +kernel)) (by decide)) ?_
        walk_at "rd"
        refine ⟨_, hd, by rw [List.length_map, List.length_take, mlk_len]; exact small1000 (by omega), ?_, sm_mut s5 hD⟩
        rw [upd_same, List.take_succ, em, List.map_append]
        rfl
      rintro H4 ⟨hd, s5⟩
      have lm : min ((0 :: g).map V.int).length ((g ++ [0]).map V.int).length = g.length + 1 := by
        rw [List.length_map, List.length_map, List.length_append]; simp
      rw [lm, List.take_of_length_le (by rw [mlk_len]; exact Nat.le_refl _)] at hd
      have ea : fs[n]? = some (fs[n]'(by omega)) := List.getElem?_eq_getElem (by omega)
      have edr : fs.drop n = fs[n]'(by omega) :: fs.drop (n + 1) := List.drop_eq_getElem_cons (by omega)
      generalize fs[n]'(by omega) = a at ea edr
      obtain ⟨h0, tl, e1, e2⟩ := mlk_head n a g
      rw [e1] at hd
      have nD : H D = none := by
        cases z : H D with
        | none => rfl
        | some o => rw [sD _ _ z] at hD; cases hD
      walk_at "rd"
      dsimp only
      refine w_augS ?_
      walk_at "rd"
      refine w_getL (v := .int h0) (k := 0) hd rfl ?_
      have hpF := s5 _ _ (sD _ _ hp)
      walk_at "rd"
      refine w_ixL hpF (atI_nat (j := n) (v := .int a) (by rw [List.getElem?_map, ea]; rfl)) ?_
      walk_at "rd"
      refine ⟨_, _, rfl, rfl, ?_⟩
      refine w_setL (j := 0) hd (by unfold ixN; rw [if_pos (by decide), if_pos (by show (0 : Int) < ((List.map V.int (h0 :: tl)).length : Int); simp)]; rfl) ?_
      have en1 : fs.length - (i + 1) = n := by omega
      refine ⟨⟨D, _, _, _, rfl, ?_⟩, sm_mut (sD.trans s5) nD⟩
      rw [upd_same, en1, edr]
      show some (HO.lst (((h0 :: tl).map V.int).set 0 (V.int (h0 + a)))) = some (HO.lst ((mlk (n : Int) a (grw ((n : Int) + 1) (fs.drop (n + 1)))).map V.int))
      rw [show ((n : Int) + 1) = ((n + 1 : Nat) : Int) by omega, ← hg, e2]
      rfl
    rintro σ H3 ⟨⟨qq, v2, v3, v4, rfl, hq⟩, sm⟩
    rw [Nat.sub_self, List.drop_zero] at hq
    walk_at "rd"
    unfold tOrT
    walk_at "rd"
    have gl := grw_len fs 0
    refine ⟨qq, grw 0 fs, rfl, hq, by omega, fun q H4 hq4 nq s4 => ?_⟩
    have nqH : H q = none := by
      cases z : H q with
      | none => rfl
      | some o => rw [sm _ _ z] at nq; cases nq
    have sm := sm.trans s4
    refine w_truL (SqL.of hq4) ?_
    unfold ofF at k
    by_cases c : trm (grw 0 fs) = []
    · rw [if_pos c] at k
      rw [c]
      refine iteF ?_
      walk_at "rd"
      refine ⟨by show 1 ≤ sizeLine; decide, fun q5 hq5 => ?_⟩
      exact k q5 _ upd_same (by
        cases z : H q5 with
        | none => rfl
        | some o => rw [sm _ _ z] at hq5; cases hq5) (sm_new sm hq5)
    · rw [if_neg c] at k
      refine w_bT ?_ (k q _ hq4 nqH sm)
      cases e : trm (grw 0 fs) with
      | nil => exact absurd e c
      | cons x r => rfl
def sp__law_jar (K : PySem.W.Frag) (C : Addr) (TS : List (Addr × Str)) : Sp := fun vs H Q _ => ∃ (c : Int), vs = [.int c] ∧ ∀ p H', H p = none → Same H H' → JarAt H' p → Q (.ref p) H'
theorem ok__law_jar {P : Program} {w : World} {K : PySem.W.Frag} {mg : Str → Option Value} {base : Heap} (T : Txt K mg) (B : TBs T base) : FnOk P w K mg base CX0 1 T.f__law_jar T.fd__law_jar ["_law_cell"] (sp__law_jar K T.C_Kind T.tabs) := by
  refine T.F__law_jar.ok sc__law_jar (fun vs H Q E h => ?_) (fun cdv A outer s H vs Q E hr h => ?_)
  · obtain ⟨c, rfl, _⟩ := h
    rfl
  · obtain ⟨c, rfl, h⟩ := h
    refine ⟨_, (pss_one (ps_ret (pe_disp (pps_cons pe_str (pe_op op_mul (pv 0 (hv := Or.inl rfl)) (pe_callTy (T := "int") (r := rIntC) call_int1 (by rfl) T.n_int (by decide +kernel) (pa_cons (pe_cmpR op_ge (pv 0 (hv := Or.inl rfl)) (pe_op op_pow pe_int pe_int) (nomark _)) pa_nil))) (pps_cons pe_str (pe_op op_mod (pe_callTy (T := "int") (r := rIntC) call_int1 (by rfl) T.n_int (by decide +kernel) (pa_cons (pv 0 (hv := Or.inl rfl)) pa_nil)) pe_int) (pps_cons pe_str pe_int pps_nil))) (by rfl) (by rfl) (fun z => by cases z) (by decide)))), ?_⟩
    try dsimp only [cxOf, Cx.nox, Cx.wish, Cx.blk]
    rw [show L2.start ["_law_cell"] [.int c] = [some (.int c)] from rfl]
    walk_at "rd"
    unfold tDisp
    intro p hp
    unfold tPairs
    walk_at "rd"
    refine w_I (Or.inr ⟨by split <;> decide, by split <;> decide⟩) ?_
    unfold tPairs
    walk_at "rd"
    unfold tPairs
    walk_at "rd"
    unfold tPairs
    refine ⟨upd_same, [(kL, _), (kS, _), (kT, _)], rfl, by show 3 ≤ 15; decide, ?_⟩
    rw [merge_jar]
    have e : ∀ (H : Hp) (o o' : HO), L2.upd (L2.upd H p o) p o' = L2.upd H p o' := fun H o o' => by
      funext z
      by_cases hz : z = p
      · rw [hz, upd_same, upd_same]
      · rw [upd_ne hz, upd_ne hz, upd_ne hz]
    rw [e]
    exact h p _ hp (sm_new (Same.refl H) hp) ⟨_, _, _, upd_same⟩
def sp__law_sip (K : PySem.W.Frag) (C : Addr) (TS : List (Addr × Str)) : Sp := fun vs H Q _ => ∃ (p : Addr) (m : Int), vs = [.ref p, .int m] ∧ JarAt H p ∧ 0 < m ∧ m.natAbs < 2 ^ 8999 ∧ ∀ v H', 0 ≤ v → v < m → Kp p H H' → JarAt H' p → Q (.int v) H'
theorem ok__law_sip {P : Program} {w : World} {K : PySem.W.Frag} {mg : Str → Option Value} {base : Heap} (T : Txt K mg) (B : TBs T base) : FnOk P w K mg base CX0 1 T.f__law_sip T.fd__law_sip ["_law_jar_here", "_law_many"] (sp__law_sip K T.C_Kind T.tabs) := by
  refine T.F__law_sip.ok sc__law_sip (fun vs H Q E h => ?_) (fun cdv A outer s H vs Q E hr h => ?_)
  · obtain ⟨p, m, rfl, _⟩ := h
    rfl
  · obtain ⟨p, m, rfl, h⟩ := h
    have hu := hu_of hr
    refine ⟨_, (pss_cons (ps_if (pt_cmpR op_gt (pe_dget hu (pv 0 (hv := Or.inl rfl)) pe_str (fun _ _ => rfl)) pe_int (nomark _)) (pss_cons (ps_set (i := 2) sc__law_sip.nd rfl (Or.inl rfl) (pe_op op_mod (pe_callTy (T := "int") (r := rIntC) call_int1 (by rfl) T.n_int (by decide +kernel) (pa_cons (pe_dget hu (pv 0 (hv := Or.inl rfl)) pe_str (fun _ _ => rfl)) pa_nil)) (pv 1 (hv := Or.inl rfl))))
      (pss_cons (ps_dput hu (pv 0 (hv := Or.inl rfl)) pe_str (pe_op op_fdivW (pe_dget hu (pv 0 (hv := Or.inl rfl)) pe_str (fun _ _ => rfl)) (pv 1 (hv := Or.inl rfl))) rfl)
      (pss_one (ps_ret (pv 2 (hv := Or.inl rfl)))))) pss_nil)
      (pss_cons (ps_dput hu (pv 0 (hv := Or.inl rfl)) pe_str (pe_op op_add (pe_dget hu (pv 0 (hv := Or.inl rfl)) pe_str (fun _ _ => rfl)) pe_int) rfl)
      (pss_cons (ps_set (i := 3) sc__law_sip.nd rfl (Or.inl rfl) (pe_op op_mod (pe_callTy (T := "int") (r := rIntC) call_int1 (by rfl) T.n_int (by decide +kernel) (pa_cons (pe_op op_mul (pe_op op_add (pe_op op_add (pe_dget hu (pv 0 (hv := Or.inl rfl)) pe_str (fun _ _ => rfl)) (pe_op op_mul pe_int (pe_dget hu (pv 0 (hv := Or.inl rfl)) pe_str (fun _ _ => rfl)))) pe_int) pe_int) pa_nil)) pe_int))
      (pss_cons (ps_set (i := 3) sc__law_sip.nd rfl (Or.inl rfl) (pe_op op_mod (pe_callTy (T := "int") (r := rIntC) call_int1 (by rfl) T.n_int (by decide +kernel) (pa_cons (pe_op op_add (pe_op op_mul (pv 3 (hv := Or.inl rfl)) (pe_op op_add (pe_op op_fdiv (pv 3 (hv := Or.inl rfl)) pe_int) pe_int)) (pe_dget hu (pv 0 (hv := Or.inl rfl)) pe_str (fun _ _ => rfl))) pa_nil)) pe_int))
      (pss_one (ps_ret (pe_op op_mod (pe_callTy (T := "int") (r := rIntC) call_int1 (by rfl) T.n_int (by decide +kernel) (pa_cons (pe_op op_fdiv (pe_op op_mod (pe_callTy (T := "int") (r := rIntC) call_int1 (by rfl) T.n_int (by decide +kernel) (pa_cons (pe_op op_mul (pv 3 (hv := Or.inl rfl)) (pe_op op_add (pe_op op_fdiv (pv 3 (hv := Or.inl rfl)) pe_int) pe_int)) pa_nil)) pe_int) pe_int) pa_nil)) (pv 1 (hv := Or.inl rfl))))))))), ?_⟩
    try dsimp only [cxOf, Cx.nox, Cx.wish, Cx.blk]
    rw [show L2.start ["_law_jar_here", "_law_many", "_law_figure", "_law_mixed"] [.ref p, .int m] = [some (.ref p), some (.int m), none, none] from rfl]
    obtain ⟨⟨a, b, c, hp⟩, h0, hb, k⟩ := h
    have fin : ∀ (x : Int) (H' : Hp), Kp p H H' → JarAt H' p → Q (.int (x % m)) H' := fun x H' a b => k _ _ (Int.emod_nonneg x (Int.ne_of_gt h0)) (Int.emod_lt_of_pos x h0) a b
    clear k
    have dgl : ∀ {H : Hp} {a b c : V}, H p = some (jarO a b c) → DGet H p (.str "left") (some a) := fun {H a b c} e => by rw [← jar_l a b c]; exact DGet.k (k := kL) e
    have dgs : ∀ {H : Hp} {a b c : V}, H p = some (jarO a b c) → DGet H p (.str "seed") (some b) := fun {H a b c} e => by rw [← jar_s a b c]; exact DGet.k (k := kS) e
    have dgt : ∀ {H : Hp} {a b c : V}, H p = some (jarO a b c) → DGet H p (.str "turn") (some c) := fun {H a b c} e => by rw [← jar_t a b c]; exact DGet.k (k := kT) e
    walk_at "rd"
    refine ⟨p, _, rfl, dgl hp, ?_⟩
    walk_at "rd"
    refine w_dec (fun _ => ?_) (fun _ => ?_)
    · walk_at "rd"
      refine ⟨p, _, rfl, dgl hp, ?_⟩
      walk_at "rd"
      refine w_I h0 ?_
      walk_at "rd"
      refine w_dputJ ?_
      walk_at "rd"
      refine ⟨p, _, rfl, dgl hp, ?_⟩
      walk_at "rd"
      refine w_I (wide_div h0 hb (by decide) (by decide)) ?_
      walk_at "rd"
      refine ⟨p, _, rfl, DPut.k (k := kL) hp (by show 3 < sizeLine; decide), ?_⟩
      rw [put_l]
      walk_at "rd"
      exact fin _ _ (Kp.refl p H).upd ⟨_, _, _, upd_same⟩
    · walk_at "rd"
      refine w_dputJ ?_
      walk_at "rd"
      refine ⟨p, _, rfl, dgt hp, ?_⟩
      walk_at "rd"
      refine ⟨p, _, rfl, DPut.k (k := kT) hp (by show 3 < sizeLine; decide), ?_⟩
      rw [put_t]
      have hp' : (L2.upd H p (.dK [(kL, .int a), (kS, .int b), (kT, .int (c + 1))])) p = some (jarO (.int a) (.int b) (.int (c + 1))) := upd_same
      have kp' : Kp p H (L2.upd H p (.dK [(kL, .int a), (kS, .int b), (kT, .int (c + 1))])) := (Kp.refl p H).upd
      generalize L2.upd H p _ = H1 at hp' kp' ⊢
      have hp1 : ∀ x : Int, 0 ≤ x % 2147483399 ∧ x % 2147483399 < 2147483399 := fun x => ⟨Int.emod_nonneg x (by decide), Int.emod_lt_of_pos x (by decide)⟩
      have hp2 : ∀ x : Int, 0 ≤ x % 2147483647 ∧ x % 2147483647 < 2147483647 := fun x => ⟨Int.emod_nonneg x (by decide), Int.emod_lt_of_pos x (by decide)⟩
      walk_at "rd"
      refine ⟨p, _, rfl, dgs hp', ?_⟩
      walk_at "rd"
      refine ⟨p, _, rfl, dgt hp', ?_⟩
      walk_at "rd"
      refine w_I (CC := CMul) (Or.inl ⟨Int.lt_of_lt_of_le (by decide) (hp1 _).1, Int.lt_trans (hp1 _).2 (by decide)⟩) ?_
      walk_at "rd"
      refine ⟨p, _, rfl, dgt hp', ?_⟩
      walk_at "rd"
      refine w_I (CC := CMul) (Or.inl ⟨Int.lt_of_lt_of_le (by decide) (hp2 _).1, Int.lt_trans (hp2 _).2 (by decide)⟩) ?_
      walk_at "rd"
      refine w_I h0 ?_
      walk_at "rd"
      exact fin _ _ kp' ⟨_, _, _, hp'⟩
def sp__law_some (K : PySem.W.Frag) (C : Addr) (TS : List (Addr × Str)) : Sp := fun vs H Q _ => ∃ (p l : Addr) (xs : List V), vs = [.ref p, .ref l] ∧ JarAt H p ∧ H l = some (.lst xs) ∧ 0 < xs.length ∧ xs.length ≤ 1000 ∧ ∀ v H', v ∈ xs → Kp p H H' → JarAt H' p → Q v H'
theorem ok__law_some {P : Program} {w : World} {K : PySem.W.Frag} {mg : Str → Option Value} {base : Heap} (T : Txt K mg) (B : TBs T base) : FnOk P w K mg base CX0 2 T.f__law_some T.fd__law_some ["_law_jar_here", "_law_row"] (sp__law_some K T.C_Kind T.tabs) := by
  have G__law_sip := ok__law_sip (P := P) (w := w) (base := base) T B
  refine T.F__law_some.ok sc__law_some (fun vs H Q E h => ?_) (fun cdv A outer s H vs Q E hr h => ?_)
  · obtain ⟨p, l, xs, rfl, _⟩ := h
    rfl
  · obtain ⟨p, l, xs, rfl, h⟩ := h
    have hr__law_sip : Room 1 _ := hr.mono (by decide)
    refine ⟨_, (pss_one (ps_ret (pe_ix (r := rIxL K) ix_list (pv 1 (hv := Or.inl rfl)) (pe_call G__law_sip hr__law_sip rfl T.g__law_sip T.k__law_sip T.b__law_sip .nil pass0 (pa_cons (pv 0 (hv := Or.inl rfl)) (pa_cons (pe_callB (id := "len") (r := rLenS K) call_len_seq (by rfl) T.n_len (by decide +kernel) (pa_cons (pv 1 (hv := Or.inl rfl)) pa_nil)) pa_nil))) (fun _ _ => rfl)))), ?_⟩
    try dsimp only [cxOf, Cx.nox, Cx.wish, Cx.blk]
    rw [show L2.start ["_law_jar_here", "_law_row"] [.ref p, .ref l] = [some (.ref p), some (.ref l)] from rfl]
    obtain ⟨hs, hl, n0, n1, k⟩ := h
    have hn := hs.ne_of hl
    walk_at "rd"
    refine w_len hl ?_
    walk_at "rd"
    refine ⟨p, _, rfl, hs, by omega, Nat.lt_trans (show ((xs.length : Nat) : Int).natAbs < 2 ^ 10 by omega) (Nat.pow_lt_pow_right (by decide) (by decide)), fun v H' h1 h2 kp hs' => ?_⟩
    obtain ⟨j, rfl⟩ := Int.eq_ofNat_of_zero_le h1
    have hj : j < xs.length := by omega
    refine w_ixL (kp _ _ hn hl) (atI_nat (v := xs[j]) (List.getElem?_eq_getElem hj)) ?_
    exact k _ _ (List.getElem_mem hj) kp hs'
def sp__law_times (K : PySem.W.Frag) (C : Addr) (TS : List (Addr × Str)) : Sp := fun vs H Q _ => ∃ (p q : Addr) (cs ds : List Int) (A B : Nat), vs = [.ref p, .ref q] ∧ H p = some (.lst (cs.map V.int)) ∧ H q = some (.lst (ds.map V.int)) ∧ 1 ≤ cs.length ∧ cs.length ≤ 20 ∧ 1 ≤ ds.length ∧ ds.length ≤ 20 ∧ (∀ c ∈ cs, c.natAbs ≤ A) ∧ (∀ d ∈ ds, d.natAbs ≤ B) ∧ A < 2 ^ 600 ∧ B < 2 ^ 600 ∧ ∀ (r : Addr) (es : List Int) H', H r = none → Same H H' → H' r = some (.lst (es.map V.int)) → es.length = cs.length + ds.length - 1 → (∀ e ∈ es, e.natAbs ≤ cs.length * ds.length * (A * B)) → (∀ x, pvl es x = pvl cs x * pvl ds x) → Q (.ref r) H'
theorem ok__law_times {P : Program} {w : World} {K : PySem.W.Frag} {mg : Str → Option Value} {base : Heap} (T : Txt K mg) (B : TBs T base) : FnOk P w K mg base CX0 1 T.f__law_times T.fd__law_times ["_law_one", "_law_other"] (sp__law_times K T.C_Kind T.tabs) := by
  refine T.F__law_times.ok sc__law_times (fun vs H Q E h => ?_) (fun cdv A outer s H vs Q E hr h => ?_)
  · obtain ⟨p, q, cs, ds, A, B, rfl, _⟩ := h
    rfl
  · obtain ⟨p, q, cs, ds, A, B, rfl, h⟩ := h
    refine ⟨_, (pss_cons (ps_set (i := 2) sc__law_times.nd rfl (Or.inl rfl) (pe_op op_rep (pe_lst (pa_cons pe_int pa_nil)) (pe_op op_sub (pe_op op_add (pe_callB (id := "len") (r := rLenS K) call_len_seq (by rfl) T.n_len (by decide +kernel) (pa_cons (pv 0 (hv := Or.inl rfl)) pa_nil)) (pe_callB (id := "len") (r := rLenS K) call_len_seq (by rfl) T.n_len (by decide +kernel) (pa_cons (pv 1 (hv := Or.inl rfl)) pa_nil))) pe_int)))
      (pss_cons (ps_for PassesOwn.never rfl (pi_enum (by rfl) T.n_enumerate (pa_cons (pv 0 (hv := Or.inl rfl)) pa_nil)) (pg_tup rfl (pgs_cons (pg_name (i := 3) sc__law_times.nd rfl (Or.inl rfl)) (pgs_cons (pg_name (i := 4) sc__law_times.nd rfl (Or.inl rfl)) pgs_nil)))
        (pss_one (ps_for PassesOwn.never rfl (pi_enum (by rfl) T.n_enumerate (pa_cons (pv 1 (hv := Or.inl rfl)) pa_nil)) (pg_tup rfl (pgs_cons (pg_name (i := 5) sc__law_times.nd rfl (Or.inl rfl)) (pgs_cons (pg_name (i := 6) sc__law_times.nd rfl (Or.inl rfl)) pgs_nil)))
        (pss_one (ps_asg (pe_op op_add (pe_ix (r := rIxL K) ix_list (pv 2 (hv := Or.inl rfl)) (pe_op op_add (pv 3 (hv := Or.inl rfl)) (pv 5 (hv := Or.inl rfl))) (fun _ _ => rfl)) (pe_op op_mulX (pv 4 (hv := Or.inl rfl)) (pv 6 (hv := Or.inl rfl)))) (pg_sub (pv 2 (hv := Or.inl rfl)) (pe_op op_add (pv 3 (hv := Or.inl rfl)) (pv 5 (hv := Or.inl rfl))) set_list))))))
      (pss_one (ps_ret (pv 2 (hv := Or.inl rfl)))))), ?_⟩
    try dsimp only [cxOf, Cx.nox, Cx.wish, Cx.blk]
    rw [show L2.start ["_law_one", "_law_other", "_law_found", "_law_k", "_law_mine", "_law_j", "_law_its"] [.ref p, .ref q] = [some (.ref p), some (.ref q), none, none, none, none, none] from rfl]
    obtain ⟨hp, hq, c1, c20, d1, d20, hA, hB, A6, B6, k⟩ := h
    walk_at "rd"
    refine ⟨by show 1 ≤ sizeLine; decide, fun q1 hq1 => ?_⟩
    walk_at "rd"
    refine w_len (gn hp hq1) ?_
    walk_at "rd"
    refine w_len (gn hq hq1) ?_
    walk_at "rd"
    rw [List.length_map, List.length_map]
    obtain ⟨N, hN⟩ : ∃ N, N = cs.length + ds.length - 1 := ⟨_, rfl⟩
    rw [show (cs.length : Int) + (ds.length : Int) - 1 = (N : Int) by omega]
    refine w_rep (xs := [.int 0]) upd_same (by omega) (by omega) (by rw [Int.toNat_natCast, List.length_singleton, Nat.one_mul]; exact Nat.le_trans (show N ≤ 40 by omega) (by decide)) (fun R hR => ?_)
    have er : (List.replicate (N : Int).toNat [V.int 0]).flatten = (List.replicate N (0 : Int)).map V.int := by
      rw [Int.toNat_natCast, List.map_replicate]
      clear hN hR
      induction N with
      | zero => rfl
      | succ N ih => rw [List.replicate_succ, List.flatten_cons, ih]; rfl
    rw [er]
    have s0 := sm_new (o := .lst ((List.replicate N (0 : Int)).map V.int)) (sm_new (o := .lst [V.int 0]) (Same.refl H) hq1) hR
    have hR0 : (L2.upd (L2.upd H q1 (.lst [V.int 0])) R (.lst ((List.replicate N (0 : Int)).map V.int))) R = some (.lst ((List.replicate N (0 : Int)).map V.int)) := upd_same
    have nRH : H R = none := by
      cases z : H R with
      | none => rfl
      | some o => rw [sm_new (o := .lst [V.int 0]) (Same.refl H) hq1 _ _ z] at hR; cases hR
    generalize L2.upd (L2.upd H q1 _) R _ = H0 at s0 hR0 ⊢
    walk_at "rd"
    refine w_itE ?_
    walk_at "rd"
    refine ⟨p, cs.map V.int, rfl, SqL.of (s0 _ _ hp), for_it (walk_enum (K := K) (a := p) (xs := cs.map V.int)) (fun i σ H' => (∃ v3 v4 v5 v6 : Option V, σ = [some (.ref p), some (.ref q), some (.ref R), v3, v4, v5, v6]) ∧ (∃ es : List Int, H' R = some (.lst (es.map V.int)) ∧ es.length = N ∧ (∀ e ∈ es, e.natAbs ≤ i * ds.length * (A * B)) ∧ ∀ x, pvl es x = pvl (cs.take i) x * pvl ds x) ∧ Same H H') ⟨⟨_, _, _, _, rfl⟩, ⟨_, hR0, by rw [List.length_replicate], fun e he => by rw [(List.mem_replicate.mp he).2]; exact Nat.zero_le _, fun x => by rw [pv_zeros]; show (0 : Int) = 0 * _; rw [Int.zero_mul]⟩, s0⟩ (fun i σ H' _ z => SqL.of (z.2.2 _ _ hp)) ?_ ?_⟩
    rotate_left
    · rintro σ H1 ⟨⟨v3, v4, v5, v6, rfl⟩, ⟨es, hes, el, eb, ev⟩, s1⟩
      rw [List.length_map] at eb ev
      rw [List.take_of_length_le (Nat.le_refl _)] at ev
      walk_at "rd"
      exact k R es H1 nRH s1 hes (by omega) eb ev
    rintro i z σ H1 H1' hi ⟨⟨v3, v4, v5, v6, rfl⟩, ⟨es, hes, el, eb, ev⟩, s1⟩ hy
    obtain ⟨tp, u, o', rfl, htp, rfl, hu, ho⟩ := hy
    obtain rfl : V.int (i : Nat) = u := Option.some.inj hu
    obtain ⟨c, hc, rfl⟩ := map_get ho
    rw [List.length_map] at hi
    have hA' := hA c (List.mem_of_getElem? hc)
    have s2 := sm_new (o := .tup [.int (i : Nat), .int c]) s1 htp
    have hes2 := gn (u := .tup [.int (i : Nat), .int c]) hes htp
    have htp' : (L2.upd H1 tp (.tup [.int (i : Nat), .int c])) tp = some (.tup [.int (i : Nat), .int c]) := upd_same
    generalize L2.upd H1 tp _ = H2 at s2 hes2 htp' ⊢
    walk_at "rd"
    refine w_itE ?_
    walk_at "rd"
    refine ⟨q, ds.map V.int, rfl, SqL.of (s2 _ _ hq), for_it (walk_enum (K := K) (a := q) (xs := ds.map V.int)) (fun j σ H' => (∃ v5 v6 : Option V, σ = [some (.ref p), some (.ref q), some (.ref R), some (.int (i : Nat)), some (.int c), v5, v6]) ∧ (∃ es : List Int, H' R = some (.lst (es.map V.int)) ∧ es.length = N ∧ (∀ e ∈ es, e.natAbs ≤ (i * ds.length + j) * (A * B)) ∧ ∀ x, pvl es x = pvl (cs.take i) x * pvl ds x + c * x ^ i * pvl (ds.take j) x) ∧ Same H H') ⟨⟨_, _, rfl⟩, ⟨es, hes2, el, eb, fun x => by rw [ev]; show _ = _ + c * x ^ i * 0; rw [Int.mul_zero, Int.add_zero]⟩, s2⟩ (fun i σ H' _ z => SqL.of (z.2.2 _ _ hq)) ?_ ?_⟩
    rotate_left
    · rintro σ H3 ⟨⟨v5, v6, rfl⟩, ⟨es, hes, el, eb, ev⟩, s3⟩
      rw [List.length_map] at eb ev
      rw [List.take_of_length_le (Nat.le_refl _)] at ev
      exact ⟨⟨_, _, _, _, rfl⟩, ⟨es, hes, el, by rw [Nat.add_mul i 1, Nat.one_mul]; exact eb, fun x => by rw [ev, pv_take hc, Int.add_mul]⟩, s3⟩
    clear hes2 htp' htp hes el eb ev es
    rintro j z σ H3 H3' hj ⟨⟨v5, v6, rfl⟩, ⟨es, hes, el, eb, ev⟩, s3⟩ hy
    obtain ⟨tq, u, o', rfl, htq, rfl, hu, ho⟩ := hy
    obtain rfl : V.int (j : Nat) = u := Option.some.inj hu
    obtain ⟨d, hd, rfl⟩ := map_get ho
    rw [List.length_map] at hj
    have hB' := hB d (List.mem_of_getElem? hd)
    have s4 := sm_new (o := .tup [.int (j : Nat), .int d]) s3 htq
    have hes4 := gn (u := .tup [.int (j : Nat), .int d]) hes htq
    have htq' : (L2.upd H3 tq (.tup [.int (j : Nat), .int d])) tq = some (.tup [.int (j : Nat), .int d]) := upd_same
    generalize L2.upd H3 tq _ = H4 at s4 hes4 htq' ⊢
    have ix : i + j < es.length := by omega
    walk_at "rd"
    rw [show ((i : Nat) : Int) + ((j : Nat) : Int) = ((i + j : Nat) : Int) by omega]
    refine w_ixL hes4 (atI_nat (v := V.int es[i + j]) (by rw [List.getElem?_map, List.getElem?_eq_getElem ix]; rfl)) ?_
    walk_at "rd"
    refine w_I (mulx_ok (Nat.lt_of_le_of_lt hA' A6) (Nat.lt_of_le_of_lt hB' B6) (by decide)) ?_
    walk_at "rd"
    rw [show ((i : Nat) : Int) + ((j : Nat) : Int) = ((i + j : Nat) : Int) by omega]
    refine w_setL hes4 (j := i + j) (by
      unfold ixN
      rw [List.length_map, if_pos (by omega), if_pos (by omega), Int.toNat_natCast]) ?_
    refine ⟨⟨_, _, rfl⟩, ⟨es.set (i + j) (es[i + j] + c * d), by rw [upd_same, List.map_set], by rw [List.length_set, el], ?_, fun x => by
        rw [pv_set x (c * d) es (i + j) ix, ev, pv_take hd, Int.mul_add, Int.pow_add]
        generalize pvl (ds.take j) x = A1
        generalize pvl (cs.take i) x * pvl ds x = A2
        generalize x ^ i = A3
        generalize x ^ j = A4
        grind⟩, fun b o e => by rw [upd_ne (ne_of_none e nRH)]; exact s4 _ _ e⟩
    have cd : (c * d).natAbs ≤ A * B := by rw [Int.natAbs_mul]; exact Nat.mul_le_mul hA' hB'
    have step : (i * ds.length + (j + 1)) * (A * B) = (i * ds.length + j) * (A * B) + A * B := by rw [← Nat.add_assoc, Nat.add_mul _ 1, Nat.one_mul]
    rw [step]
    refine set_bound (fun e he => Nat.le_trans (eb e he) (Nat.le_add_right _ _)) ?_
    have := eb _ (List.getElem_mem ix)
    omega
def sp__law_polynomial (K : PySem.W.Frag) (C : Addr) (TS : List (Addr × Str)) : Sp := fun vs H Q _ => ∃ (p : Addr) (wd : Nat), vs = [.ref p, .int (wd : Int)] ∧ JarAt H p ∧ 1 ≤ wd ∧ wd ≤ 128 ∧ ∀ (q : Addr) (cs : List Int) H', H' q = some (.lst (cs.map V.int)) → 1 ≤ cs.length → cs.length ≤ 9 → (∀ c ∈ cs, c.natAbs < 10 ^ 58) → Kp p H H' → JarAt H' p → Q (.ref q) H'
theorem ok__law_polynomial {P : Program} {w : World} {K : PySem.W.Frag} {mg : Str → Option Value} {base : Heap} (T : Txt K mg) (B : TBs T base) : FnOk P w K mg base CX0 3 T.f__law_polynomial T.fd__law_polynomial ["_law_jar_here", "_law_wide"] (sp__law_polynomial K T.C_Kind T.tabs) := by
  have G__law_sip := ok__law_sip (P := P) (w := w) (base := base) T B
  have G__law_some := ok__law_some (P := P) (w := w) (base := base) T B
  have G__law_times := ok__law_times (P := P) (w := w) (base := base) T B
  refine T.F__law_polynomial.ok sc__law_polynomial (fun vs H Q E h => ?_) (fun cdv A outer s H vs Q E hr h => ?_)
  · obtain ⟨p, wd, rfl, _⟩ := h
    rfl
  · obtain ⟨p, wd, rfl, h⟩ := h
    have hr__law_sip : Room 1 _ := hr.mono (by decide)
    have hr__law_some : Room 2 _ := hr.mono (by decide)
    have hr__law_times : Room 1 _ := hr.mono (by decide)
    refine ⟨_, (pss_cons (ps_set (i := 2) sc__law_polynomial.nd rfl (Or.inl rfl) (pe_lst (pa_cons (pe_call G__law_some hr__law_some rfl T.g__law_some T.k__law_some T.b__law_some .nil pass0 (pa_cons (pv 0 (hv := Or.inr (Or.inl rfl))) (pa_cons (pe_lst (pa_cons pe_int (pa_cons pe_int (pa_cons pe_int (pa_cons (pe_op op_shl pe_int (pe_call G__law_sip hr__law_sip rfl T.g__law_sip T.k__law_sip T.b__law_sip .nil pass0 (pa_cons (pv 0 (hv := Or.inr (Or.inl rfl))) (pa_cons (pv 1 (hv := Or.inl rfl)) pa_nil)))) (pa_cons (pe_op op_sub pe_int pe_int) pa_nil)))))) pa_nil))) pa_nil)))
      (pss_cons (ps_for PassesOwn.never rfl (pi_range1 (by rfl) T.n_range (pa_cons (pe_call G__law_sip hr__law_sip rfl T.g__law_sip T.k__law_sip T.b__law_sip .nil pass0 (pa_cons (pv 0 (hv := Or.inr (Or.inl rfl))) (pa_cons pe_int pa_nil))) pa_nil)) (pg_name (i := 3) sc__law_polynomial.nd rfl (Or.inl rfl))
        (pss_cons (ps_set (i := 4) sc__law_polynomial.nd rfl (Or.inl rfl) (pe_call G__law_sip hr__law_sip rfl T.g__law_sip T.k__law_sip T.b__law_sip .nil pass0 (pa_cons (pv 0 (hv := Or.inr (Or.inl rfl))) (pa_cons (pe_op op_shl pe_int (pe_callB (id := "min") (r := rmin2C) (call_min2 rfl) (by rfl) T.n_min (by decide +kernel) (pa_cons (pv 1 (hv := Or.inl rfl)) (pa_cons pe_int pa_nil)))) pa_nil))))
      (pss_cons (ps_set (i := 5) sc__law_polynomial.nd rfl (Or.inl rfl) (pe_lst (pa_cons (pe_op op_sub pe_int (pv 4 (hv := Or.inl rfl))) (pa_cons (pe_call G__law_some hr__law_some rfl T.g__law_some T.k__law_some T.b__law_some .nil pass0 (pa_cons (pv 0 (hv := Or.inr (Or.inl rfl))) (pa_cons (pe_lst (pa_cons pe_int (pa_cons pe_int (pa_cons pe_int (pa_cons pe_int pa_nil))))) pa_nil))) pa_nil))))
      (pss_one (ps_set (i := 2) sc__law_polynomial.nd rfl (Or.inl rfl) (pe_call G__law_times hr__law_times rfl T.g__law_times T.k__law_times T.b__law_times .nil pass0 (pa_cons (pv 2 (hv := Or.inl rfl)) (pa_cons (pe_call G__law_some hr__law_some rfl T.g__law_some T.k__law_some T.b__law_some .nil pass0 (pa_cons (pv 0 (hv := Or.inr (Or.inl rfl))) (pa_cons (pe_lst (pa_cons (pv 5 (hv := Or.inl rfl)) (pa_cons (pv 5 (hv := Or.inl rfl)) (pa_cons (pe_lst (pa_cons (pv 4 (hv := Or.inl rfl)) (pa_cons pe_int (pa_cons pe_int pa_nil)))) (pa_cons (pe_lst (pa_cons (pe_op op_mul pe_int (pv 4 (hv := Or.inl rfl))) (pa_cons pe_int pa_nil))) pa_nil))))) pa_nil))) pa_nil))))))))
      (pss_cons (ps_if (pt_cmpR op_eq (pe_call G__law_sip hr__law_sip rfl T.g__law_sip T.k__law_sip T.b__law_sip .nil pass0 (pa_cons (pv 0 (hv := Or.inr (Or.inl rfl))) (pa_cons pe_int pa_nil))) pe_int (nomark _)) (pss_one (ps_setLc (i := 2) (own := [("_law_one", 6)]) (g := gName 6) (tt := tYes) rfl sc__law_polynomial.nd rfl rfl (sw_true rfl rfl rfl (by decide +kernel)) (pi_list (pv 2 (hv := Or.inl rfl))) (blkOk_by (own := [("_law_one", 6)]) (N := ["_law_jar_here", "_law_wide", "_law_found", "_law_turn", "_law_root", "_law_part", "_law_one"]) (sc := defScope s__law_polynomial) (by decide +kernel)) (fun _ _ _ _ _ => (pg_name (i := 6) sc__law_polynomial.nd rfl (Or.inl rfl))) (fun _ _ _ _ _ => pts_nil) (fun _ _ _ _ _ => (pe_op op_sub (pe_op op_add (pv 6 (hv := Or.inl rfl)) (pe_call G__law_sip hr__law_sip rfl T.g__law_sip T.k__law_sip T.b__law_sip .nil pass0 (pa_cons (pv 0 (hv := Or.inr (Or.inl rfl))) (pa_cons pe_int pa_nil)))) pe_int)))) pss_nil)
      (pss_cons (ps_if (pt_cmpR op_eq (pe_call G__law_sip hr__law_sip rfl T.g__law_sip T.k__law_sip T.b__law_sip .nil pass0 (pa_cons (pv 0 (hv := Or.inr (Or.inl rfl))) (pa_cons pe_int pa_nil))) pe_int (nomark _)) (pss_one (ps_asg (pe_op op_sub (pe_op op_add (pe_ix (r := rIxL K) ix_list (pv 2 (hv := Or.inl rfl)) pe_int (fun _ _ => rfl)) (pe_op op_shlW (pe_call G__law_sip hr__law_sip rfl T.g__law_sip T.k__law_sip T.b__law_sip .nil pass0 (pa_cons (pv 0 (hv := Or.inr (Or.inl rfl))) (pa_cons (pe_op op_pow pe_int pe_int) pa_nil))) (pv 1 (hv := Or.inl rfl)))) (pe_op op_shl pe_int (pe_op op_add (pv 1 (hv := Or.inl rfl)) pe_int))) (pg_sub (pv 2 (hv := Or.inl rfl)) pe_int set_list))) pss_nil)
      (pss_one (ps_ret (pe_slice sl_list (pv 2 (hv := Or.inl rfl)) po_none (po_some pe_int)))))))), ?_⟩
    try dsimp only [cxOf, Cx.nox, Cx.wish, Cx.blk]
    rw [show L2.start ["_law_jar_here", "_law_wide", "_law_found", "_law_turn", "_law_root", "_law_part", "_law_one"] [.ref p, .int (wd : Int)] = [some (.ref p), some (.int (wd : Int)), none, none, none, none, none] from rfl]
    obtain ⟨hj, w1, w2, k⟩ := h
    have P128 : 2 ^ wd ≤ 2 ^ 128 := Nat.pow_le_pow_right (by decide) w2
    walk_at "rd"
    refine ⟨p, _, rfl, hj, by omega, Nat.lt_trans (show (wd : Int).natAbs < 2 ^ 8 by omega) (Nat.pow_lt_pow_right (by decide) (by decide)), fun v H1 v0 v1 kp1 j1 => ?_⟩
    obtain ⟨vn, rfl⟩ := Int.eq_ofNat_of_zero_le v0
    walk_at "rd"
    refine w_I (cpow (n := 1) (by omega) (by decide)) ?_
    rw [Int.toNat_natCast, Int.one_mul]
    walk_at "rd"
    refine ⟨by show 5 ≤ sizeLine; decide, fun q1 hq1 => ?_⟩
    walk_at "rd"
    refine ⟨p, q1, [.int 1, .int 1, .int 3, .int (2 ^ vn), .int (0 - 5)], rfl, j1.new hq1, upd_same, by show 0 < 5; decide, by show 5 ≤ 1000; decide, fun v H2 hv kp2 j2 => ?_⟩
    obtain ⟨c0, rfl, b0⟩ : ∃ c0 : Int, v = .int c0 ∧ c0.natAbs ≤ 2 ^ 128 := by
      have h1 : (1 : Nat) ≤ 2 ^ 128 := by decide
      have h3 : (5 : Nat) ≤ 2 ^ 128 := by decide
      have h2 : ((2 : Int) ^ vn).natAbs ≤ 2 ^ 128 := by
        rw [Int.natAbs_pow]
        exact Nat.pow_le_pow_right (by decide) (by omega)
      rcases List.mem_cons.mp hv with e | hv
      · exact ⟨1, e, h1⟩
      rcases List.mem_cons.mp hv with e | hv
      · exact ⟨1, e, h1⟩
      rcases List.mem_cons.mp hv with e | hv
      · exact ⟨3, e, Nat.le_trans (by decide) h3⟩
      rcases List.mem_cons.mp hv with e | hv
      · exact ⟨_, e, h2⟩
      · exact ⟨_, List.mem_singleton.mp hv, Nat.le_trans (by decide) h3⟩
    walk_at "rd"
    refine ⟨by show 1 ≤ sizeLine; decide, fun F hF => ?_⟩
    have kp3 := ((kp1.new hq1).trans kp2).new (o := .lst [.int c0]) hF
    have j3 := j2.new (o := .lst [.int c0]) hF
    have nFH : H F = none := (kp1.new hq1).trans kp2 |>.free (j2.ne hF) hF
    have hFv : IntsB (L2.upd H2 F (.lst [.int c0])) F 1 1 (2 ^ 128) := ⟨[c0], upd_same, by simp, by simp, fun c hc => by rw [List.mem_singleton.mp hc]; exact b0⟩
    generalize L2.upd H2 F _ = H3 at kp3 j3 hFv ⊢
    clear kp1 kp2 j1 j2 hq1 hF hv
    walk_at "rd"
    refine ⟨p, 5, rfl, j3, by decide, Nat.lt_trans (show (5 : Int).natAbs < 2 ^ 8 by decide) (Nat.pow_lt_pow_right (by decide) (by decide)), fun n H4 n0 n1 kp4 j4 => ?_⟩
    obtain ⟨n, rfl⟩ := Int.eq_ofNat_of_zero_le n0
    have hFv4 := hFv.kp j3 kp4
    have kp4 := kp3.trans kp4
    refine ⟨_, rfl, by omega, by omega, ?_⟩
    rw [Int.toNat_natCast]
    refine for_range (lo := 0) (n := n) (fun i σ H' => (∃ (F : Addr) (v3 v4 v5 v6 : Option V), σ = [some (.ref p), some (.int (wd : Int)), some (.ref F), v3, v4, v5, v6] ∧ H F = none ∧ IntsB H' F 1 (1 + 2 * i) (2 ^ 128 * 27648 ^ i)) ∧ JK p H H') ⟨⟨F, _, _, _, _, rfl, nFH, hFv4⟩, kp4, j4⟩ ?_ ?_
    · rintro i σ H5 hi ⟨⟨F, v3, v4, v5, v6, rfl, _, ⟨cs, hcs, l1, l2, cb⟩⟩, kp5, j5⟩
      have i3 : i ≤ 3 := by omega
      have p9 : (2 : Nat) ^ 9 = 512 := by decide
      walk_at "rd"
      refine w_min2 ?_
      obtain ⟨mn, hmn⟩ : ∃ mn : Nat, min (wd : Int) 9 = (mn : Int) ∧ mn ≤ 9 := ⟨min wd 9, by omega, by omega⟩
      rw [hmn.1]
      walk_at "rd"
      refine w_I (cpow (n := 1) (by omega) (by decide)) ?_
      rw [Int.toNat_natCast, Int.one_mul]
      have mp : (2 : Int) ^ mn ≤ 512 := by
        have := Nat.pow_le_pow_right (n := 2) (by decide) hmn.2
        exact_mod_cast this
      refine ⟨p, _, rfl, j5, p2 mn, by rw [Int.natAbs_pow]; exact Nat.pow_lt_pow_right (by decide) (by omega), fun r H6 r0 r1 kp6 j6 => ?_⟩
      walk_at "rd"
      refine ⟨by show 4 ≤ sizeLine; decide, fun q1 hq1 => ?_⟩
      walk_at "rd"
      refine ⟨p, q1, [.int 1, .int 1, .int 2, .int 3], rfl, j6.new hq1, upd_same, by show 0 < 4; decide, by show 4 ≤ 1000; decide, fun v H7 hv kp7 j7 => ?_⟩
      obtain ⟨c1, rfl, b1⟩ : ∃ c1 : Int, v = .int c1 ∧ c1.natAbs ≤ 1024 := by
        rcases List.mem_cons.mp hv with e | hv
        · exact ⟨1, e, by decide⟩
        rcases List.mem_cons.mp hv with e | hv
        · exact ⟨1, e, by decide⟩
        rcases List.mem_cons.mp hv with e | hv
        · exact ⟨2, e, by decide⟩
        · exact ⟨3, List.mem_singleton.mp hv, by decide⟩
      walk_at "rd"
      refine ⟨by show 2 ≤ sizeLine; decide, fun P hP => ?_⟩
      have kp8 := ((kp6.new hq1).trans kp7).new (o := .lst [.int (0 - r), .int c1]) hP
      have j8 := j7.new (o := .lst [.int (0 - r), .int c1]) hP
      have hPv : (L2.upd H7 P (.lst [.int (0 - r), .int c1])) P = some (.lst [.int (0 - r), .int c1]) := upd_same
      generalize L2.upd H7 P _ = H8 at kp8 j8 hPv ⊢
      walk_at "rd"
      refine ⟨by show 3 ≤ sizeLine; decide, fun q2 hq2 => ?_⟩
      walk_at "rd"
      refine ⟨by show 2 ≤ sizeLine; decide, fun q3 hq3 => ?_⟩
      walk_at "rd"
      refine ⟨by show 4 ≤ sizeLine; decide, fun q4 hq4 => ?_⟩
      have kp9 := ((kp8.new (o := .lst [.int r, .int 0, .int 1]) hq2).new (o := .lst [.int (2 * r), .int 2]) hq3).new (o := .lst [.ref P, .ref P, .ref q2, .ref q3]) hq4
      have j9 := ((j8.new (o := .lst [.int r, .int 0, .int 1]) hq2).new (o := .lst [.int (2 * r), .int 2]) hq3).new (o := .lst [.ref P, .ref P, .ref q2, .ref q3]) hq4
      have hq2v := gn (u := .lst [.ref P, .ref P, .ref q2, .ref q3]) (gn (u := .lst [.int (2 * r), .int 2]) (upd_same (H := H8) (a := q2) (o := .lst [.int r, .int 0, .int 1])) hq3) hq4
      have hq3v := gn (u := .lst [.ref P, .ref P, .ref q2, .ref q3]) (upd_same (H := L2.upd H8 q2 (.lst [.int r, .int 0, .int 1])) (a := q3) (o := .lst [.int (2 * r), .int 2])) hq4
      have hPv9 := gn (u := .lst [.ref P, .ref P, .ref q2, .ref q3]) (gn (u := .lst [.int (2 * r), .int 2]) (gn (u := .lst [.int r, .int 0, .int 1]) hPv hq2) hq3) hq4
      have hq4v : (L2.upd (L2.upd (L2.upd H8 q2 (.lst [.int r, .int 0, .int 1])) q3 (.lst [.int (2 * r), .int 2])) q4 (.lst [.ref P, .ref P, .ref q2, .ref q3])) q4 = some (.lst [.ref P, .ref P, .ref q2, .ref q3]) := upd_same
      generalize L2.upd (L2.upd (L2.upd H8 q2 _) q3 _) q4 _ = H9 at kp9 j9 hq2v hq3v hPv9 hq4v ⊢
      walk_at "rd"
      refine ⟨p, q4, _, rfl, j9, hq4v, by show 0 < 4; decide, by show 4 ≤ 1000; decide, fun v H10 hv kp10 j10 => ?_⟩
      obtain ⟨t, ds, rfl, hds, d1, d3, db⟩ : ∃ (t : Addr) (ds : List Int), v = .ref t ∧ H9 t = some (.lst (ds.map V.int)) ∧ 1 ≤ ds.length ∧ ds.length ≤ 3 ∧ ∀ d ∈ ds, d.natAbs ≤ 1024 := by
        have bP : ∃ (t : Addr) (ds : List Int), V.ref P = .ref t ∧ H9 t = some (.lst (ds.map V.int)) ∧ 1 ≤ ds.length ∧ ds.length ≤ 3 ∧ ∀ d ∈ ds, d.natAbs ≤ 1024 := ⟨P, [0 - r, c1], rfl, hPv9, by simp, by simp, fun d hd => by
          rcases List.mem_cons.mp hd with rfl | hd
          · omega
          · rw [List.mem_singleton.mp hd]; exact b1⟩
        rcases List.mem_cons.mp hv with rfl | hv
        · exact bP
        rcases List.mem_cons.mp hv with rfl | hv
        · exact bP
        rcases List.mem_cons.mp hv with rfl | hv
        · refine ⟨q2, [r, 0, 1], rfl, hq2v, by simp, by simp, fun d hd => ?_⟩
          rcases List.mem_cons.mp hd with rfl | hd
          · omega
          rcases List.mem_cons.mp hd with rfl | hd
          · decide
          · rw [List.mem_singleton.mp hd]; decide
        · rw [List.mem_singleton.mp hv]
          refine ⟨q3, [2 * r, 2], rfl, hq3v, by simp, by simp, fun d hd => ?_⟩
          rcases List.mem_cons.mp hd with rfl | hd
          · omega
          · rw [List.mem_singleton.mp hd]; decide
      have nF5 := j5.ne_of hcs
      have kp510 := (kp6.trans (Kp.refl p H6)).trans (Kp.refl p H6)
      have hcs10 := kp10 _ _ nF5 (kp9 _ _ nF5 hcs)
      have Ab : 2 ^ 128 * 27648 ^ i < 2 ^ 600 := by
        have h1 : 27648 ^ i ≤ 27648 ^ 3 := Nat.pow_le_pow_right (by decide) i3
        have h2 := Nat.mul_le_mul_left (2 ^ 128) h1
        exact Nat.lt_of_le_of_lt h2 (by decide +kernel)
      walk_at "rd"
      refine ⟨F, t, cs, ds, _, 1024, rfl, hcs10, kp10 _ _ (j9.ne_of hds) hds, l1, by omega, d1, by omega, cb, db, Ab, Nat.lt_trans (show 1024 < 2 ^ 11 by decide) (Nat.pow_lt_pow_right (by decide) (by decide)), fun R es H11 nR s11 hes el eb _ => ?_⟩
      walk_at "rd"
      refine ⟨⟨R, _, _, _, _, rfl, (kp5.trans (kp9.trans kp10)).free (j10.ne nR) nR, ⟨es, hes, by omega, by omega, fun e he => ?_⟩⟩, ((kp5.trans (kp9.trans kp10)).trans (Kp.of_same s11)), j10.same s11⟩
      refine Nat.le_trans (eb e he) ?_
      have h1 : cs.length * ds.length ≤ 9 * 3 := Nat.mul_le_mul (by omega) d3
      have h2 := Nat.mul_le_mul_right (2 ^ 128 * 27648 ^ i * 1024) h1
      have h3 : 2 ^ 128 * 27648 ^ (i + 1) = 2 ^ 128 * 27648 ^ i * 27648 := by rw [show 27648 ^ (i + 1) = 27648 ^ i * 27648 by rw [Nat.pow_succ]]; exact (Nat.mul_assoc _ _ _).symm
      rw [h3]
      generalize 2 ^ 128 * 27648 ^ i = X at h2 ⊢
      omega
    rintro σ H5 ⟨⟨F, v3, v4, v5, v6, rfl, nFH, hF5⟩, kp5, j5⟩
    obtain ⟨M, hM⟩ : ∃ M, M = 2 ^ 128 * 27648 ^ 4 := ⟨_, rfl⟩
    have hF5 : IntsB H5 F 1 9 M := by
      obtain ⟨cs, a, b, c, d⟩ := hF5
      refine ⟨cs, a, b, by omega, fun e he => Nat.le_trans (d e he) ?_⟩
      rw [hM]
      exact Nat.mul_le_mul_left _ (Nat.pow_le_pow_right (by decide) (by omega))
    walk_at "rd"
    refine ⟨p, 4, rfl, j5, by decide, Nat.lt_trans (show (4 : Int).natAbs < 2 ^ 8 by decide) (Nat.pow_lt_pow_right (by decide) (by decide)), fun u H6 _ _ kp6 j6 => ?_⟩
    have hF6 := hF5.kp j5 kp6
    have kp6 := kp5.trans kp6
    clear hF5 kp5 j5
    walk_at "rd"
    refine w_stJ (fun σ' H' => (∃ (F' : Addr) (v3 v4 v5 v6 : Option V), σ' = [some (.ref p), some (.int (wd : Int)), some (.ref F'), v3, v4, v5, v6] ∧ H F' = none ∧ IntsB H' F' 1 9 (M + 8)) ∧ JK p H H') (fun c D' q => ?_) (fun c D' q => ?_) ?_
    · obtain ⟨cs, hcs, l1, l9, cb⟩ := hF6
      have nF := j6.ne_of hcs
      walk_at "rd"
      refine ⟨⟨_, SqL.of hcs⟩, fun D hD => lc_list (K := K) (a := F) (xs := cs.map V.int) (fun j H' => H D = none ∧ (∃ ms : List Int, H' D = some (.lst (ms.map V.int)) ∧ ms.length = j ∧ ∀ e ∈ ms, e.natAbs ≤ M + 8) ∧ JK p H6 H') ⟨kp6.free (j6.ne hD) hD, ⟨[], upd_same, rfl, fun e he => (by cases he)⟩, (Kp.refl p H6).new hD, j6.new hD⟩ (fun i H' _ z => SqL.of (z.2.2.1 _ _ nF hcs)) ?_ ?_⟩
      · rintro j z H' hj ⟨nDH, ⟨ms, hms, ml, mb⟩, kpj, jj⟩
        obtain ⟨c, hc, rfl⟩ := map_get hj
        have jlt := (List.getElem?_eq_some_iff.mp hc).1
        have cb' := cb c (List.mem_of_getElem? hc)
        walk_at "rd"
        refine ⟨rfl, ?_⟩
        walk_at "rd"
        refine iteT ?_
        walk_at "rd"
        refine ⟨p, 9, rfl, jj, by decide, Nat.lt_trans (show (9 : Int).natAbs < 2 ^ 8 by decide) (Nat.pow_lt_pow_right (by decide) (by decide)), fun u H7 u0 u1 kp7 j7 => ?_⟩
        have nD : D ≠ p := jj.ne_of hms
        walk_at "rd"
        refine ⟨_, kp7 _ _ nD hms, by rw [List.length_map]; exact Nat.lt_of_le_of_lt (show ms.length ≤ 9 by omega) (by decide), nDH, ⟨ms ++ [c + u - 4], by rw [upd_same, List.map_append]; rfl, by rw [List.length_append, List.length_singleton, ml], fun e he => ?_⟩, kp_mut (kpj.trans kp7) hD, ?_⟩
        · rcases List.mem_append.mp he with he | he
          · exact mb e he
          · rw [List.mem_singleton.mp he]; omega
        · obtain ⟨x, y, z, e⟩ := j7
          exact ⟨x, y, z, by rw [upd_ne nD.symm]; exact e⟩
      rintro H7 ⟨nDH, ⟨ms, hms, ml, mb⟩, kp7, j7⟩
      rw [List.length_map] at ml
      exact q _ _ ⟨⟨D, _, _, _, _, rfl, nDH, ⟨ms, hms, by omega, by omega, mb⟩⟩, kp6.trans kp7, j7⟩
    · obtain ⟨cs, hcs, l1, l9, cb⟩ := hF6
      exact q _ _ ⟨⟨F, _, _, _, _, rfl, nFH, ⟨cs, hcs, l1, l9, fun e he => Nat.le_trans (cb e he) (Nat.le_add_right _ _)⟩⟩, kp6, j6⟩
    clear hF6 kp6 j6
    rintro σ H7 ⟨⟨F', v3', v4', v5', v6', rfl, nFH', hF7⟩, kp7, j7⟩
    walk_at "rd"
    refine ⟨p, 6, rfl, j7, by decide, Nat.lt_trans (show (6 : Int).natAbs < 2 ^ 8 by decide) (Nat.pow_lt_pow_right (by decide) (by decide)), fun u H8 _ _ kp8 j8 => ?_⟩
    have hF8 := hF7.kp j7 kp8
    have kp8 := kp7.trans kp8
    clear hF7 kp7 j7
    have fin : ∀ e : Int, e.natAbs ≤ M + 8 + 2 ^ 159 → e.natAbs < 10 ^ 58 := fun e he => by
      have c1 : M + 8 + 2 ^ 159 < 10 ^ 58 := by rw [hM]; decide +kernel
      exact Nat.lt_of_le_of_lt he c1
    walk_at "rd"
    refine w_stJ (fun σ' H' => (∃ (v3 v4 v5 v6 : Option V), σ' = [some (.ref p), some (.int (wd : Int)), some (.ref F'), v3, v4, v5, v6] ∧ IntsB H' F' 1 9 (M + 8 + 2 ^ 159)) ∧ JK p H H') (fun c D' q => ?_) (fun c D' q => ?_) ?_
    · obtain ⟨cs, hcs, l1, l9, cb⟩ := hF8
      have nF := j8.ne_of hcs
      obtain ⟨c0, ct, rfl⟩ : ∃ c0 ct, cs = c0 :: ct := by
        cases cs with
        | nil => simp at l1
        | cons a t => exact ⟨a, t, rfl⟩
      have at0 : atI ((c0 :: ct).map V.int) 0 = some (.int c0) := by
        unfold atI ixN
        rw [if_pos (by decide), if_pos (by rw [List.length_map, List.length_cons]; omega)]; rfl
      walk_at "rd"
      refine w_ixL (xs := (c0 :: ct).map V.int) hcs at0 ?_
      walk_at "rd"
      refine ⟨p, _, rfl, j8, by decide, Nat.lt_trans (show ((10 : Int) ^ Int.toNat 9).natAbs < 2 ^ 80 by decide +kernel) (Nat.pow_lt_pow_right (by decide) (by decide)), fun x H9 x0 x1 kp9 j9 => ?_⟩
      have xb : x.natAbs < 2 ^ 30 := by
        have c2 : ((10 : Int) ^ Int.toNat 9) = 1000000000 := by decide
        omega
      obtain ⟨xn, rfl⟩ := Int.eq_ofNat_of_zero_le x0
      walk_at "rd"
      refine w_I (shl_ok xb (by omega)) ?_
      walk_at "rd"
      rw [show (wd : Int) + 9 = ((wd + 9 : Nat) : Int) by omega]
      refine w_I (cpow (n := 1) (by omega) (by decide)) ?_
      walk_at "rd"
      have hcs9 := kp9 _ _ nF hcs
      refine w_setL (j := 0) hcs9 (by
        unfold ixN
        rw [if_pos (by decide), if_pos (by rw [List.length_map, List.length_cons]; omega)]; rfl) ?_
      have eb : (c0 + (xn : Int) * 2 ^ (wd : Int).toNat - 1 * 2 ^ ((wd + 9 : Nat) : Int).toNat).natAbs ≤ M + 8 + 2 ^ 159 := by
        rw [Int.toNat_natCast, Int.toNat_natCast, Int.one_mul]
        have c0b := cb c0 List.mem_cons_self
        have a1 : ((xn : Int) * 2 ^ wd).natAbs ≤ 2 ^ 158 := by
          rw [Int.natAbs_mul, Int.natAbs_pow]
          have h1 : xn ≤ 2 ^ 30 := by omega
          exact Nat.le_trans (Nat.mul_le_mul h1 P128) (by decide)
        have a2 : ((2 : Int) ^ (wd + 9)).natAbs ≤ 2 ^ 137 := by
          rw [Int.natAbs_pow]
          exact Nat.pow_le_pow_right (by decide) (by omega)
        have a3 : (2 : Nat) ^ 158 + 2 ^ 137 ≤ 2 ^ 159 := by decide
        generalize (xn : Int) * 2 ^ wd = y at a1 ⊢
        generalize (2 : Int) ^ (wd + 9) = z at a2 ⊢
        generalize (2 : Nat) ^ 158 = A at a1 a3
        generalize (2 : Nat) ^ 137 = B at a2 a3
        generalize (2 : Nat) ^ 159 = C at a3 ⊢
        omega
      refine q _ _ ⟨⟨_, _, _, _, rfl, ⟨(c0 + (xn : Int) * 2 ^ (wd : Int).toNat - 1 * 2 ^ ((wd + 9 : Nat) : Int).toNat) :: ct, by rw [upd_same]; rfl, by simp, l9, fun e he => ?_⟩⟩, kp_mut (kp8.trans kp9) nFH', ?_⟩
      · rcases List.mem_cons.mp he with rfl | he
        · exact eb
        · exact Nat.le_trans (cb e (List.mem_cons_of_mem _ he)) (Nat.le_add_right _ _)
      · obtain ⟨a1, a2, a3, e⟩ := j9
        exact ⟨a1, a2, a3, by rw [upd_ne nF.symm]; exact e⟩
    · obtain ⟨cs, hcs, l1, l9, cb⟩ := hF8
      exact q _ _ ⟨⟨_, _, _, _, rfl, ⟨cs, hcs, l1, l9, fun e he => Nat.le_trans (cb e he) (Nat.le_add_right _ _)⟩⟩, kp8, j8⟩
    rintro σ H9 ⟨⟨w3, w4, w5, w6, rfl, ⟨cs, hcs, l1, l9, cb⟩⟩, kp9, j9⟩
    walk_at "rd"
    refine w_slL (SqL.of hcs) (fun q2 hq2 => ?_)
    have ec : cutV (cs.map V.int) none (some 9) = cs.map V.int := by
      unfold cutV
      rw [show HT.sIx (cs.map V.int).length (cs.map V.int).length (some (9 : Int)) = min 9 (cs.map V.int).length from HT.sIx_nat _ _ 9]
      show List.take (min 9 (cs.map V.int).length - 0) (List.drop 0 (cs.map V.int)) = _
      rw [List.drop_zero, List.take_of_length_le (by rw [List.length_map]; omega)]
    rw [ec]
    exact k q2 cs _ upd_same l1 l9 (fun c hc => fin c (cb c hc)) (kp9.new hq2) (j9.new hq2)
def sp__law_joined (K : PySem.W.Frag) (C : Addr) (TS : List (Addr × Str)) : Sp := fun vs H Q _ => ∃ (a b : Addr) (cs ds : List Int) (A B : Nat) (sg : Int), vs = [.ref a, .ref b, .int sg] ∧ (sg = 1 ∨ sg = -1) ∧ H a = some (.lst (cs.map V.int)) ∧ H b = some (.lst (ds.map V.int)) ∧ cs.length ≤ 9 ∧ ds.length ≤ 9 ∧ (∀ c ∈ cs, c.natAbs ≤ A) ∧ (∀ d ∈ ds, d.natAbs ≤ B) ∧ ∀ (q : Addr) (es : List Int) H', H' q = some (.lst (es.map V.int)) → es.length = 9 → (∀ e ∈ es, e.natAbs ≤ A + B) → (∀ x, pvl es x = pvl cs x + sg * pvl ds x) → Same H H' → Q (.ref q) H'
theorem ok__law_joined {P : Program} {w : World} {K : PySem.W.Frag} {mg : Str → Option Value} {base : Heap} (T : Txt K mg) (B : TBs T base) : FnOk P w K mg base CX0 1 T.f__law_joined T.fd__law_joined ["_law_one", "_law_other", "_law_sign"] (sp__law_joined K T.C_Kind T.tabs) := by
  refine T.F__law_joined.ok sc__law_joined (fun vs H Q E h => ?_) (fun cdv A outer s H vs Q E hr h => ?_)
  · obtain ⟨a, b, cs, ds, A, B, sg, rfl, _⟩ := h
    rfl
  · obtain ⟨a, b, cs, ds, A, B, sg, rfl, h⟩ := h
    refine ⟨_, (pss_cons (ps_par rfl sc__law_joined.nd (i := 0) (j := 1) rfl rfl (by decide) rfl rfl (pa_cons (pe_op op_cat (pv 0 (hv := Or.inl rfl)) (pe_op op_rep (pe_lst (pa_cons pe_int pa_nil)) (pe_op op_sub pe_int (pe_callB (id := "len") (r := rLenS K) call_len_seq (by rfl) T.n_len (by decide +kernel) (pa_cons (pv 0 (hv := Or.inl rfl)) pa_nil))))) (pa_cons (pe_op op_cat (pv 1 (hv := Or.inl rfl)) (pe_op op_rep (pe_lst (pa_cons pe_int pa_nil)) (pe_op op_sub pe_int (pe_callB (id := "len") (r := rLenS K) call_len_seq (by rfl) T.n_len (by decide +kernel) (pa_cons (pv 1 (hv := Or.inl rfl)) pa_nil))))) pa_nil)) (by rfl))
      (pss_one (ps_ret (pe_lc (own := [("_law_mine", 3), ("_law_its", 4)]) (g := gTup K 2 (gCons (gName 3) (gCons (gName 4) gNil))) (tt := tYes) (by rfl) sc__law_joined.nd (pi_zip (by rfl) T.n_zip (pa_cons (pv 0 (hv := Or.inl rfl)) (pa_cons (pv 1 (hv := Or.inl rfl)) pa_nil))) (blkOk_by (own := [("_law_mine", 3), ("_law_its", 4)]) (N := ["_law_one", "_law_other", "_law_sign", "_law_mine", "_law_its"]) (sc := defScope s__law_joined) (by decide +kernel)) (fun _ _ _ _ _ => (pg_tup rfl (pgs_cons (pg_name (i := 3) sc__law_joined.nd rfl (Or.inl rfl)) (pgs_cons (pg_name (i := 4) sc__law_joined.nd rfl (Or.inl rfl)) pgs_nil)))) (fun _ _ _ _ _ => pts_nil) (fun _ _ _ _ _ => (pe_op op_add (pv 3 (hv := Or.inl rfl)) (pe_op op_mul (pv 2 (hv := Or.inr (Or.inl rfl))) (pv 4 (hv := Or.inl rfl))))))))), ?_⟩
    try dsimp only [cxOf, Cx.nox, Cx.wish, Cx.blk]
    rw [show L2.start ["_law_one", "_law_other", "_law_sign", "_law_mine", "_law_its"] [.ref a, .ref b, .int sg] = [some (.ref a), some (.ref b), some (.int sg), none, none] from rfl]
    obtain ⟨hsg, ha, hb, l9, m9, ca, cb, k⟩ := h
    walk_at "rd"
    refine ⟨by show 1 ≤ sizeLine; decide, fun qa1 hqa1 => ?_⟩
    have hqa1' : (L2.upd H qa1 (.lst [.int 0])) qa1 = some (.lst [.int 0]) := upd_same
    have sa1 := sm_new (o := .lst [.int 0]) (Same.refl H) hqa1
    generalize L2.upd H qa1 _ = Ha1 at hqa1' sa1 ⊢
    walk_at "rd"
    refine w_len (sa1 _ _ ha) ?_
    rw [List.length_map]
    walk_at "rd"
    refine w_rep hqa1' (by omega) (by omega) (by show 1 * (9 - (cs.length : Int)).toNat ≤ sizeLine; exact Nat.le_trans (show 1 * (9 - (cs.length : Int)).toNat ≤ 9 by omega) (by decide)) (fun qb1 hqb1 => ?_)
    rw [rep_flat]
    have hqb1' : (L2.upd Ha1 qb1 (.lst ((List.replicate (9 - (cs.length : Int)).toNat (0 : Int)).map V.int))) qb1 = some (.lst ((List.replicate (9 - (cs.length : Int)).toNat (0 : Int)).map V.int)) := upd_same
    have sb1 := sm_new (o := .lst ((List.replicate (9 - (cs.length : Int)).toNat (0 : Int)).map V.int)) sa1 hqb1
    generalize L2.upd Ha1 qb1 _ = Hb1 at hqb1' sb1 ⊢
    refine w_cat (sb1 _ _ ha) hqb1' (by rw [List.length_map, List.length_map, List.length_replicate]; exact Nat.le_trans (show cs.length + (9 - (cs.length : Int)).toNat ≤ 9 by omega) (by decide)) (fun qc1 hqc1 => ?_)
    rw [← List.map_append]
    have hqc1' : (L2.upd Hb1 qc1 (.lst ((pad9 cs).map V.int))) qc1 = some (.lst ((pad9 cs).map V.int)) := upd_same
    have sc1 := sm_new (o := .lst ((pad9 cs).map V.int)) sb1 hqc1
    change _
    
    have e1 : (L2.upd Hb1 qc1 (.lst (List.map V.int (cs ++ List.replicate (9 - (cs.length : Int)).toNat 0)))) = L2.upd Hb1 qc1 (.lst ((pad9 cs).map V.int)) := rfl
    rw [e1]
    generalize L2.upd Hb1 qc1 _ = H1 at hqc1' sc1 ⊢
    walk_at "rd"
    refine ⟨by show 1 ≤ sizeLine; decide, fun qa2 hqa2 => ?_⟩
    have hqa2' : (L2.upd H1 qa2 (.lst [.int 0])) qa2 = some (.lst [.int 0]) := upd_same
    have sa2 := sm_new (o := .lst [.int 0]) (Same.refl H1) hqa2
    generalize L2.upd H1 qa2 _ = Ha2 at hqa2' sa2 ⊢
    walk_at "rd"
    refine w_len (sa2 _ _ (sc1 _ _ hb)) ?_
    rw [List.length_map]
    walk_at "rd"
    refine w_rep hqa2' (by omega) (by omega) (by show 1 * (9 - (ds.length : Int)).toNat ≤ sizeLine; exact Nat.le_trans (show 1 * (9 - (ds.length : Int)).toNat ≤ 9 by omega) (by decide)) (fun qb2 hqb2 => ?_)
    rw [rep_flat]
    have hqb2' : (L2.upd Ha2 qb2 (.lst ((List.replicate (9 - (ds.length : Int)).toNat (0 : Int)).map V.int))) qb2 = some (.lst ((List.replicate (9 - (ds.length : Int)).toNat (0 : Int)).map V.int)) := upd_same
    have sb2 := sm_new (o := .lst ((List.replicate (9 - (ds.length : Int)).toNat (0 : Int)).map V.int)) sa2 hqb2
    generalize L2.upd Ha2 qb2 _ = Hb2 at hqb2' sb2 ⊢
    refine w_cat (sb2 _ _ (sc1 _ _ hb)) hqb2' (by rw [List.length_map, List.length_map, List.length_replicate]; exact Nat.le_trans (show ds.length + (9 - (ds.length : Int)).toNat ≤ 9 by omega) (by decide)) (fun qc2 hqc2 => ?_)
    rw [← List.map_append]
    have hqc2' : (L2.upd Hb2 qc2 (.lst ((pad9 ds).map V.int))) qc2 = some (.lst ((pad9 ds).map V.int)) := upd_same
    have sc2 := sm_new (o := .lst ((pad9 ds).map V.int)) sb2 hqc2
    change _
    
    have e2 : (L2.upd Hb2 qc2 (.lst (List.map V.int (ds ++ List.replicate (9 - (ds.length : Int)).toNat 0)))) = L2.upd Hb2 qc2 (.lst ((pad9 ds).map V.int)) := rfl
    rw [e2]
    generalize L2.upd Hb2 qc2 _ = H2 at hqc2' sc2 ⊢
    walk_at "rd"
    unfold iZip
    walk_at "rd"
    have p1 := pad9_len l9
    have p2 := pad9_len m9
    have b1 := pad9_b ca
    have b2 := pad9_b cb
    have hqc1' := sc2 _ _ hqc1'
    have sHH := sc1.trans sc2
    obtain ⟨zs, hzs⟩ : ∃ zs, zs = List.zipWith (fun c d => c + sg * d) (pad9 cs) (pad9 ds) := ⟨_, rfl⟩
    have zl : zs.length = 9 := by rw [hzs, List.length_zipWith, p1, p2, Nat.min_self]
    refine ⟨qc1, qc2, _, _, rfl, SqL.of hqc1', SqL.of hqc2', fun D hD => ZLg.lc_zip (K := K) (fun j H' => H' D = some (.lst ((zs.take j).map V.int)) ∧ Same H2 H') ⟨upd_same, sm_new (Same.refl H2) hD⟩ (fun i H' z => ⟨SqL.of (z.2 _ _ hqc1'), SqL.of (z.2 _ _ hqc2')⟩) ?_ ?_⟩
    · rintro j x y t H' hx hy ⟨hd, sm⟩ ht
      obtain ⟨c, hc, rfl⟩ := map_get hx
      obtain ⟨d, hdd, rfl⟩ := map_get hy
      have jl := get_lt hc
      have ez : zs[j]? = some (c + sg * d) := by rw [hzs, List.getElem?_zipWith, hc, hdd]
      have hd := gn (u := .tup [.int c, .int d]) hd ht
      have sm := sm_new (o := .tup [.int c, .int d]) sm ht
      have ht' : (L2.upd H' t (.tup [.int c, .int d])) t = some (.tup [.int c, .int d]) := upd_same
      generalize L2.upd H' t _ = H'' at hd sm ht' ⊢
      walk_at "rd"
      refine ⟨rfl, ?_⟩
      walk_at "rd"
      refine iteT ?_
      walk_at "rd"
      refine w_I (Or.inl ⟨by omega, by omega⟩) ?_
      walk_at "rd"
      refine ⟨_, hd, by rw [List.length_map, List.length_take]; exact small1000 (by omega), ?_, sm_mut sm hD⟩
      rw [upd_same, List.take_succ, ez, List.map_append]
      rfl
    rintro H3 ⟨hd, sm⟩
    rw [List.length_map, List.length_map, p1, p2, List.take_of_length_le (by rw [zl]; decide)] at hd
    refine k D zs _ hd zl (fun e he => ?_) (fun x => ?_) (sHH.trans sm)
    · rw [hzs] at he
      obtain ⟨i, hi⟩ := List.getElem?_of_mem he
      rw [List.getElem?_zipWith] at hi
      cases h1 : (pad9 cs)[i]? with
      | none => rw [h1] at hi; cases hi
      | some c =>
        cases h2 : (pad9 ds)[i]? with
        | none => rw [h1, h2] at hi; cases hi
        | some d =>
          rw [h1, h2] at hi
          have hi : c + sg * d = e := Option.some.inj hi
          have := b1 c (List.mem_of_getElem? h1)
          have := b2 d (List.mem_of_getElem? h2)
          rcases hsg with rfl | rfl <;> omega
    · rw [hzs, pv_zw x sg (pad9 cs) (pad9 ds) (by rw [p1, p2]), pv_pad9, pv_pad9]
def sp__law_nothing (K : PySem.W.Frag) (C : Addr) (TS : List (Addr × Str)) : Sp := fun vs H Q _ => ∃ (p : Addr) (wd ls : Nat), vs = [.ref p, .int (wd : Int), .int (ls : Int)] ∧ JarAt H p ∧ 1 ≤ wd ∧ wd ≤ 128 ∧ ls ≤ 1 ∧ ∀ (q : Addr) (es : List Int) H', H' q = some (.lst (es.map V.int)) → 1 ≤ es.length → es.length ≤ 9 → (∀ e ∈ es, e.natAbs ≤ NB) → (ls = 0 → ∀ x, (2 : Int) ^ wd ∣ pvl es x) → (ls = 1 → ¬ ∀ x, (2 : Int) ^ wd ∣ pvl es x) → Kp p H H' → JarAt H' p → Q (.ref q) H'
theorem ok__law_nothing {P : Program} {w : World} {K : PySem.W.Frag} {mg : Str → Option Value} {base : Heap} (T : Txt K mg) (B : TBs T base) : FnOk P w K mg base CX0 2 T.f__law_nothing T.fd__law_nothing ["_law_jar_here", "_law_bits", "_law_less"] (sp__law_nothing K T.C_Kind T.tabs) := by
  have G__law_sip := ok__law_sip (P := P) (w := w) (base := base) T B
  have G__law_times := ok__law_times (P := P) (w := w) (base := base) T B
  refine T.F__law_nothing.ok sc__law_nothing (fun vs H Q E h => ?_) (fun cdv A outer s H vs Q E hr h => ?_)
  · obtain ⟨p, wd, ls, rfl, _⟩ := h
    rfl
  · obtain ⟨p, wd, ls, rfl, h⟩ := h
    have hr__law_sip : Room 1 _ := hr.mono (by decide)
    have hr__law_times : Room 1 _ := hr.mono (by decide)
    refine ⟨_, (pss_cons (ps_par3 rfl sc__law_nothing.nd (i := 3) (j := 4) (l := 5) rfl rfl rfl (by decide) (by decide) (by decide) rfl rfl rfl (pa_cons (pe_call G__law_sip hr__law_sip rfl T.g__law_sip T.k__law_sip T.b__law_sip .nil pass0 (pa_cons (pv 0 (hv := Or.inl rfl)) (pa_cons pe_int pa_nil))) (pa_cons (pe_lst (pa_cons pe_int pa_nil)) (pa_cons pe_int pa_nil))) (by rfl))
      (pss_cons (ps_for PassesOwn.never rfl (pi_range1 (by rfl) T.n_range (pa_cons (pv 3 (hv := Or.inl rfl)) pa_nil)) (pg_name (i := 6) sc__law_nothing.nd rfl (Or.inl rfl))
        (pss_cons (ps_set (i := 4) sc__law_nothing.nd rfl (Or.inl rfl) (pe_call G__law_times hr__law_times rfl T.g__law_times T.k__law_times T.b__law_times .nil pass0 (pa_cons (pv 4 (hv := Or.inl rfl)) (pa_cons (pe_lst (pa_cons (pe_op op_sub pe_int (pv 6 (hv := Or.inl rfl))) (pa_cons pe_int pa_nil))) pa_nil))))
      (pss_one (ps_set (i := 5) sc__law_nothing.nd rfl (Or.inl rfl) (pe_op op_add (pv 5 (hv := Or.inl rfl)) (pe_ix (r := rIxL K) ix_list (pe_lst (pa_cons pe_int (pa_cons pe_int (pa_cons pe_int (pa_cons pe_int (pa_cons pe_int (pa_cons pe_int (pa_cons pe_int (pa_cons pe_int pa_nil))))))))) (pv 6 (hv := Or.inl rfl)) (fun _ _ => rfl)))))))
      (pss_cons (ps_set (i := 7) sc__law_nothing.nd rfl (Or.inr rfl) (pe_op op_mul (pe_op op_shl pe_int (pe_callB (id := "max") (r := rmax2C) (call_max2 rfl) (by rfl) T.n_max (by decide +kernel) (pa_cons pe_int (pa_cons (pe_op op_sub (pv 1 (hv := Or.inl rfl)) (pv 5 (hv := Or.inl rfl))) pa_nil)))) (pe_op op_add (pe_op op_mul pe_int (pe_call G__law_sip hr__law_sip rfl T.g__law_sip T.k__law_sip T.b__law_sip .nil pass0 (pa_cons (pv 0 (hv := Or.inl rfl)) (pa_cons pe_int pa_nil)))) pe_int)))
      (pss_cons (ps_if (PW.pt (pw_and (pt_cmpR op_eq (pv 2 (hv := Or.inr (Or.inl rfl))) pe_int (nomark _)) (pw_and1 (pt_cmpR op_le (pv 1 (hv := Or.inl rfl)) (pv 5 (hv := Or.inl rfl)) (nomark _))))) (pss_one (ps_ret (pe_lst (pa_cons (pe_op op_shl pe_int (pe_op op_sub (pv 1 (hv := Or.inl rfl)) pe_int)) pa_nil)))) pss_nil)
      (pss_one (ps_ret (pe_lc (own := [("_law_one", 8)]) (g := gName 8) (tt := tYes) (by rfl) sc__law_nothing.nd (pi_list (pv 4 (hv := Or.inl rfl))) (blkOk_by (own := [("_law_one", 8)]) (N := ["_law_jar_here", "_law_bits", "_law_less", "_law_k", "_law_part", "_law_twos_here", "_law_at", "_law_many", "_law_one"]) (sc := defScope s__law_nothing) (by decide +kernel)) (fun _ _ _ _ _ => (pg_name (i := 8) sc__law_nothing.nd rfl (Or.inl rfl))) (fun _ _ _ _ _ => pts_nil) (fun _ _ _ _ _ => (pe_op op_mul (pv 8 (hv := Or.inl rfl)) (pe_op op_shr (pv 7 (hv := Or.inr (Or.inl rfl))) (pv 2 (hv := Or.inr (Or.inl rfl))))))))))))), ?_⟩
    try dsimp only [cxOf, Cx.nox, Cx.wish, Cx.blk]
    rw [show L2.start ["_law_jar_here", "_law_bits", "_law_less", "_law_k", "_law_part", "_law_twos_here", "_law_at", "_law_many", "_law_one"] [.ref p, .int (wd : Int), .int (ls : Int)] = [some (.ref p), some (.int (wd : Int)), some (.int (ls : Int)), none, none, none, none, none, none] from rfl]
    obtain ⟨hj, w1, w2, l1, k⟩ := h
    walk_at "rd"
    refine w_par3 ?_
    walk_at "rd"
    refine ⟨p, 9, rfl, hj, by decide, Nat.lt_trans (show (9 : Int).natAbs < 2 ^ 64 by decide) (Nat.pow_lt_pow_right (by decide) (by decide)), fun kk H1 k0 k1 kp1 j1 => ?_⟩
    obtain ⟨kk, rfl⟩ := Int.eq_ofNat_of_zero_le k0
    have kk8 : kk ≤ 8 := by omega
    walk_at "rd"
    refine ⟨by show 1 ≤ sizeLine; decide, fun q2 hq2 => ?_⟩
    have hq2' : (L2.upd H1 q2 (.lst [.int 1])) q2 = some (.lst (([1] : List Int).map V.int)) := upd_same
    have kp2 := kp1.new (o := .lst [.int 1]) hq2
    have j2 := j1.new (o := .lst [.int 1]) hq2
    generalize L2.upd H1 q2 _ = H2 at hq2' kp2 j2 ⊢
    walk_at "rd"
    refine ⟨_, _, _, rfl, ?_⟩
    dsimp only [List.set]
    walk_at "rd"
    refine ⟨_, rfl, by omega, by omega, ?_⟩
    rw [Int.toNat_natCast]
    refine for_range (lo := 0) (n := kk) (fun i σ H' => (∃ (qq : Addr) (v6 v7 v8 : Option V) (gs : List Int), σ = [some (.ref p), some (.int (wd : Int)), some (.int (ls : Int)), some (.int (kk : Int)), some (.ref qq), some (.int (twT i : Int)), v6, v7, v8] ∧ H' qq = some (.lst (gs.map V.int)) ∧ gs.length = i + 1 ∧ (∀ x, pvl gs x = fal i 0 x) ∧ (∀ g ∈ gs, g.natAbs ≤ 200 ^ i)) ∧ Same H2 H') ⟨⟨q2, _, _, _, [1], rfl, hq2', rfl, fun x => by show 1 + x * 0 = (1 : Int); rw [Int.mul_zero]; rfl, fun g hg => by rw [List.mem_singleton.mp hg]; decide⟩, Same.refl H2⟩ ?_ ?_
    · rintro i σ H3 hi ⟨⟨qq, v6, v7, v8, gs, rfl, hgs, gl, gv, gb⟩, sm⟩
      walk_at "rd"
      refine ⟨by show 2 ≤ sizeLine; decide, fun q5 hq5 => ?_⟩
      rw [Int.zero_add]
      have hq5' : (L2.upd H3 q5 (.lst [.int (0 - (i : Int)), .int 1])) q5 = some (.lst ([0 - (i : Int), 1].map V.int)) := upd_same
      have hgs := gn (u := .lst [.int (0 - (i : Int)), .int 1]) hgs hq5
      have s7 := sm_new (o := .lst [.int (0 - (i : Int)), .int 1]) sm hq5
      generalize L2.upd H3 q5 _ = H7 at hq5' hgs s7 ⊢
      walk_at "rd"
      refine ⟨qq, q5, gs, [0 - (i : Int), 1], 200 ^ i, 9, rfl, hgs, hq5', by omega, by omega, by show 1 ≤ 2; decide, by show 2 ≤ 20; decide, gb, fun d hd => ?_, Nat.lt_of_le_of_lt (Nat.pow_le_pow_right (by decide) (show i ≤ 8 by omega)) (by decide +kernel), by decide +kernel, fun r rs H8 nr s8 hrs rl rbd rv => ?_⟩
      · rcases List.mem_cons.mp hd with rfl | hd
        · omega
        · rw [List.mem_singleton.mp hd]; decide
      walk_at "rd"
      refine ⟨by show 8 ≤ sizeLine; decide, fun q6 hq6 => ?_⟩
      have hq6' : (L2.upd H8 q6 (.lst [.int 0, .int 1, .int 0, .int 2, .int 0, .int 1, .int 0, .int 3])) q6 = some (.lst (([0, 1, 0, 2, 0, 1, 0, 3] : List Int).map V.int)) := upd_same
      have hrs := gn (u := .lst [.int 0, .int 1, .int 0, .int 2, .int 0, .int 1, .int 0, .int 3]) hrs hq6
      have s9 := sm_new (o := .lst [.int 0, .int 1, .int 0, .int 2, .int 0, .int 1, .int 0, .int 3]) (s7.trans s8) hq6
      generalize L2.upd H8 q6 _ = H9 at hq6' hrs s9 ⊢
      walk_at "rd"
      refine w_ixL hq6' (atI_nat (j := i) (v := .int ((twT (i + 1) : Int) - (twT i : Int))) (by rw [List.getElem?_map, tw_tbl i (by omega)]; rfl)) ?_
      walk_at "rd"
      refine ⟨⟨r, _, _, _, rs, by rw [show (twT i : Int) + ((twT (i + 1) : Int) - (twT i : Int)) = (twT (i + 1) : Int) by omega], hrs, by rw [rl, gl]; rfl, fun x => ?_, fun g hg => ?_⟩, s9⟩
      · rw [rv, gv, fal_last]
        show fal i 0 x * (0 - (i : Int) + x * (1 + x * 0)) = _
        rw [Int.mul_zero, Int.add_zero, Int.mul_one, show 0 - (i : Int) + x = x - 0 - (i : Int) by omega]
      · refine Nat.le_trans (rbd g hg) ?_
        rw [Nat.pow_succ, gl]
        show (i + 1) * 2 * (200 ^ i * 9) ≤ 200 ^ i * 200
        have h1 : (i + 1) * 2 * (200 ^ i * 9) ≤ 18 * (200 ^ i * 9) := Nat.mul_le_mul_right _ (by omega)
        generalize 200 ^ i = X at h1 ⊢
        omega
    rintro σ H3 ⟨⟨qq, v6, v7, v8, gs, rfl, hgs, gl, gv, gb⟩, sm⟩
    have gb8 : ∀ g ∈ gs, g.natAbs ≤ 200 ^ 8 := fun g hg => Nat.le_trans (gb g hg) (Nat.pow_le_pow_right (by decide) kk8)
    have kp3 := kp2.trans (Kp.of_same sm)
    have j3 := j2.same sm
    have tw7 : twT kk ≤ 7 := twT7 (by omega)
    walk_at "rd"
    refine w_max2 ?_
    rw [show max (0 : Int) ((wd : Int) - (twT kk : Int)) = ((wd - twT kk : Nat) : Int) by omega]
    walk_at "rd"
    refine w_I (cpow (n := 1) (by omega) (by decide)) ?_
    rw [Int.toNat_natCast, Int.one_mul]
    walk_at "rd"
    refine ⟨p, 99, rfl, j3, by decide, Nat.lt_trans (show (99 : Int).natAbs < 2 ^ 64 by decide) (Nat.pow_lt_pow_right (by decide) (by decide)), fun u H4 u0 u1 kp4 j4 => ?_⟩
    have hgs := kp4 _ _ (j3.ne_of hgs) hgs
    have kp4 := kp3.trans kp4
    clear kp3 j3
    walk_at "rd"
    obtain ⟨t, ht⟩ : ∃ t, t = twT kk := ⟨_, rfl⟩
    rw [← ht] at tw7 ⊢
    refine w_I (Or.inr ⟨by omega, by omega⟩) ?_
    obtain ⟨o, ho⟩ : ∃ o, o = 2 * u + 1 := ⟨_, rfl⟩
    rw [← ho]
    have pb : ∀ e : Nat, e ≤ 128 → ((2 : Int) ^ e).natAbs ≤ 2 ^ 128 := fun e he => by
      rw [Int.natAbs_pow]; exact Nat.pow_le_pow_right (by decide) he
    have fin : ∀ c : Int, c.natAbs ≤ 2 ^ 128 * 199 → (ls = 0 → (2 : Int) ^ (wd - t) ∣ c) → (ls = 1 → ¬ (2 : Int) ^ (wd - t) ∣ c) → ∀ (q : Addr) H', H' q = some (.lst ((gs.map fun g => g * c).map V.int)) → Same H4 H' → Q (.ref q) H' := fun c cbd c0 c1 q H' hq sm => by
      refine k q (gs.map fun g => g * c) H' hq (by rw [List.length_map]; omega) (by rw [List.length_map]; omega) (fun e he => ?_) (fun z => ?_) (fun z => ?_) (kp4.trans (Kp.of_same sm)) (j4.same sm)
      · obtain ⟨g, hg, rfl⟩ := List.mem_map.mp he
        rw [Int.natAbs_mul]
        exact Nat.mul_le_mul (gb8 g hg) cbd
      · intro x
        rw [pv_mr, gv]
        exact (fal_iff (show kk < 9 by omega)).mpr (by rw [← ht]; exact c0 z) x
      · intro y
        refine c1 z ?_
        rw [ht]
        refine (fal_iff (show kk < 9 by omega)).mp fun x => ?_
        rw [← gv, ← pv_mr]
        exact y x
    have p64 : (200 : Nat) ^ 8 < 2 ^ 64 := by decide +kernel
    have c64 : ((2 ^ 64 : Nat) : Int) = (2 : Int) ^ 64 := Int.natCast_pow 2 64
    obtain ⟨cc, hcc⟩ : ∃ cc, cc = (2 ^ (wd - t) * o) / 2 ^ ls := ⟨_, rfl⟩
    have P0 := p2 (wd - t)
    have cbd : cc.natAbs ≤ 2 ^ 128 * 199 := by
      have h1 : (2 ^ (wd - t) * o).natAbs ≤ 2 ^ 128 * 199 := by rw [Int.natAbs_mul]; exact Nat.mul_le_mul (pb _ (by omega)) (by omega)
      have h2 : 0 ≤ 2 ^ (wd - t) * o := Int.mul_nonneg (by omega) (by omega)
      have h3 : cc ≤ 2 ^ (wd - t) * o := by rw [hcc]; exact Int.ediv_le_self _ h2
      have h4 : 0 ≤ cc := by rw [hcc]; exact Int.ediv_nonneg h2 (by have := p2 ls; omega)
      omega
    have c0 : ls = 0 → (2 : Int) ^ (wd - t) ∣ cc := fun z => by
      rw [hcc, z, Int.pow_zero, Int.ediv_one]
      exact Int.dvd_mul_right _ _
    walk_at "rd"
    refine w_dec (fun e1 => ?_) (fun e1 => ?_)
    · have e1 : ls = 1 := by omega
      walk_at "rd"
      refine w_dec (fun e2 => ?_) (fun e2 => ?_)
      · walk_at "rd"
        rw [show (wd : Int) - 1 = ((wd - 1 : Nat) : Int) by omega]
        refine w_I (cpow (n := 1) (by omega) (by decide)) ?_
        rw [Int.toNat_natCast, Int.one_mul]
        walk_at "rd"
        refine ⟨by show 1 ≤ sizeLine; decide, fun q7 hq7 => ?_⟩
        refine k q7 [2 ^ (wd - 1)] _ upd_same (by show 1 ≤ 1; decide) (by show 1 ≤ 9; decide) (fun e he => ?_) (fun z => by omega) (fun _ y => ?_) (kp4.new hq7) (j4.new hq7)
        · rw [List.mem_singleton.mp he]
          exact Nat.le_trans (pb (wd - 1) (by omega)) (by decide +kernel)
        · have y0 := y 0
          have y0 : (2 : Int) ^ wd ∣ 2 ^ (wd - 1) + 0 * 0 := y0
          rw [Int.mul_zero, Int.add_zero, show wd = wd - 1 + 1 by omega, Int.pow_succ] at y0
          have := Int.le_of_dvd (p2 _) y0
          have := p2 (wd - 1)
          simp only [Nat.add_sub_cancel] at *
          omega
      · have c1 : ls = 1 → ¬ (2 : Int) ^ (wd - t) ∣ cc := fun _ y => by
          obtain ⟨v, hv⟩ : ∃ v, wd - t = v + 1 := ⟨wd - t - 1, by omega⟩
          rw [hcc, e1, hv, Int.pow_succ, show (2 : Int) ^ v * 2 * o = (2 ^ v * o) * 2 ^ 1 by rw [Int.pow_one, Int.mul_assoc, Int.mul_assoc, Int.mul_comm 2 o], Int.mul_ediv_cancel _ (by decide)] at y
          rw [Int.mul_dvd_mul_iff_left (Int.ne_of_gt (p2 v))] at y
          omega
        walk_at "rd"
        refine ⟨⟨_, SqL.of hgs⟩, fun D hD => lc_list (K := K) (a := qq) (xs := gs.map V.int) (fun j H' => H' D = some (.lst (((gs.map fun g => g * cc).take j).map V.int)) ∧ Same H4 H') ⟨upd_same, sm_new (Same.refl H4) hD⟩ (fun i H' _ z => SqL.of (z.2 _ _ hgs)) ?_ ?_⟩
        · rintro j y H' hjv ⟨hd, sm⟩
          obtain ⟨g, hg, rfl⟩ := map_get hjv
          have jl := get_lt hg
          have g64 := gb8 g (List.mem_of_getElem? hg)
          walk_at "rd"
          refine ⟨rfl, ?_⟩
          walk_at "rd"
          refine iteT ?_
          walk_at "rd"
          refine w_I (by show (0 : Int) ≤ _; omega) ?_
          rw [Int.toNat_natCast, ← hcc]
          walk_at "rd"
          refine w_I (Or.inl ⟨by omega, by omega⟩) ?_
          walk_at "rd"
          refine ⟨_, hd, by rw [List.length_map, List.length_take, List.length_map]; exact small1000 (by omega), ?_, sm_mut sm hD⟩
          rw [upd_same, List.take_succ, List.getElem?_map, hg, List.map_append]
          rfl
        rintro H5 ⟨hd, sm⟩
        rw [List.length_map, List.take_of_length_le (by rw [List.length_map]; exact Nat.le_refl _)] at hd
        walk_at "rd"
        exact fin cc cbd c0 c1 D _ hd sm
    · have c1 : ls = 1 → ¬ (2 : Int) ^ (wd - t) ∣ cc := fun z => by omega
      refine iteF ?_
      walk_at "rd"
      refine ⟨⟨_, SqL.of hgs⟩, fun D hD => lc_list (K := K) (a := qq) (xs := gs.map V.int) (fun j H' => H' D = some (.lst (((gs.map fun g => g * cc).take j).map V.int)) ∧ Same H4 H') ⟨upd_same, sm_new (Same.refl H4) hD⟩ (fun i H' _ z => SqL.of (z.2 _ _ hgs)) ?_ ?_⟩
      · rintro j y H' hjv ⟨hd, sm⟩
        obtain ⟨g, hg, rfl⟩ := map_get hjv
        have jl := get_lt hg
        have g64 := gb8 g (List.mem_of_getElem? hg)
        walk_at "rd"
        refine ⟨rfl, ?_⟩
        walk_at "rd"
        refine iteT ?_
        walk_at "rd"
        refine w_I (by show (0 : Int) ≤ _; omega) ?_
        rw [Int.toNat_natCast, ← hcc]
        walk_at "rd"
        refine w_I (Or.inl ⟨by omega, by omega⟩) ?_
        walk_at "rd"
        refine ⟨_, hd, by rw [List.length_map, List.length_take, List.length_map]; exact small1000 (by omega), ?_, sm_mut sm hD⟩
        rw [upd_same, List.take_succ, List.getElem?_map, hg, List.map_append]
        rfl
      rintro H5 ⟨hd, sm⟩
      rw [List.length_map, List.take_of_length_le (by rw [List.length_map]; exact Nat.le_refl _)] at hd
      walk_at "rd"
      exact fin cc cbd c0 c1 D _ hd sm

theorem wl_head {p : Int → Bool} {L n : Nat} (hn : n < L) (pn : p (n : Int) = true) (lo : ∀ m : Nat, m < n → p (m : Int) = false) : ∃ r, wl p 0 L = (n : Int) :: r := by
  have mem : (n : Int) ∈ wl p 0 L := wl_mem.mpr ⟨by omega, by omega, pn⟩
  cases e : wl p 0 L with
  | nil => rw [e] at mem; cases mem
  | cons x r =>
    have g : (wl p 0 L)[0]? = some x := by rw [e]; rfl
    obtain ⟨x0, x1, x2, x3⟩ := wl_get g
    refine ⟨r, ?_⟩
    have t0 : tot p 0 ((n : Int) - 1) = 0 := tot_zero_iff.mpr fun y y0 y1 => by
      obtain ⟨m, rfl⟩ := Int.eq_ofNat_of_zero_le y0
      exact lo m (by omega)
    rw [at_unique (f := 0) (j := 0) (by omega) pn t0 x0 x2 x3]
theorem wl_none {p : Int → Bool} {L : Nat} (h : ∀ n : Nat, n < L → p (n : Int) = false) : wl p 0 L = [] := by
  cases e : wl p 0 L with
  | nil => rfl
  | cons x r =>
    have m : x ∈ wl p 0 L := by rw [e]; exact .head _
    obtain ⟨x0, x1, x2⟩ := wl_mem.mp m
    obtain ⟨n, rfl⟩ := Int.eq_ofNat_of_zero_le x0
    rw [h n (by omega)] at x2; cases x2
def sp__law_pair_right (K : PySem.W.Frag) (C : Addr) (TS : List (Addr × Str)) : Sp := fun vs H Q _ => ∃ (kp p q : Addr) (cs ds : List Int) (wd : Nat) (s : Bool), vs = [.ref kp, .ref p, .ref q] ∧ Kd C H kp wd s ∧ H p = some (.lst (cs.map V.int)) ∧ H q = some (.lst (ds.map V.int)) ∧ 1 ≤ cs.length ∧ cs.length ≤ 9 ∧ (∀ c ∈ cs, SD c) ∧ 1 ≤ ds.length ∧ ds.length ≤ 9 ∧ (∀ c ∈ ds, SD c) ∧ ∀ H', Same H H' → Q (.bl true) H'
theorem ok__law_pair_right {P : Program} {w : World} {K : PySem.W.Frag} {mg : Str → Option Value} {base : Heap} (T : Txt K mg) (B : TBs T base) : FnOk P w K mg base CX0 8 T.f__law_pair_right T.fd__law_pair_right ["_law_kind", "_law_one", "_law_other"] (sp__law_pair_right K T.C_Kind T.tabs) := by
  have G_are_alike := ok_are_alike (P := P) (w := w) (base := base) T B
  have G_first_unlike := ok_first_unlike (P := P) (w := w) (base := base) T B
  have G_normal_form := ok_normal_form (P := P) (w := w) (base := base) T B
  have G_value_at := ok_value_at (P := P) (w := w) (base := base) T B
  refine T.F__law_pair_right.ok sc__law_pair_right (fun vs H Q E h => ?_) (fun cdv A outer s H vs Q E hr h => ?_)
  · obtain ⟨kp, p, q, cs, ds, wd, s, rfl, _⟩ := h
    rfl
  · obtain ⟨kp, p, q, cs, ds, wd, s, rfl, h⟩ := h
    have hr_are_alike : Room 7 _ := hr.mono (by decide)
    have hr_first_unlike : Room 7 _ := hr.mono (by decide)
    have hr_normal_form : Room 5 _ := hr.mono (by decide)
    have hr_value_at : Room 5 _ := hr.mono (by decide)
    refine ⟨_, (pss_cons (ps_setLc (i := 3) (own := [("_law_x", 4)]) (g := gName 4) rfl sc__law_pair_right.nd rfl rfl (sw_true rfl rfl rfl (by decide +kernel)) (pi_range1 (by rfl) T.n_range (pa_cons pe_int pa_nil)) (blkOk_by (own := [("_law_x", 4)]) (N := ["_law_kind", "_law_one", "_law_other", "_law_gaps", "_law_x", "_law_is_same"]) (sc := defScope s__law_pair_right) (by decide +kernel)) (fun _ _ _ _ _ => (pg_name (i := 4) sc__law_pair_right.nd rfl (Or.inl rfl))) (fun _ _ _ _ _ => pts_one (pt_cmpR op_ne (pe_call G_value_at hr_value_at rfl T.g_value_at T.k_value_at T.b_value_at .nil pass0 (pa_cons (pv 0 (hv := Or.inr (Or.inl rfl))) (pa_cons (pv 1 (hv := Or.inr (Or.inl rfl))) (pa_cons (pv 4 (hv := Or.inl rfl)) pa_nil)))) (pe_call G_value_at hr_value_at rfl T.g_value_at T.k_value_at T.b_value_at .nil pass0 (pa_cons (pv 0 (hv := Or.inr (Or.inl rfl))) (pa_cons (pv 2 (hv := Or.inr (Or.inl rfl))) (pa_cons (pv 4 (hv := Or.inl rfl)) pa_nil)))) (nomark _))) (fun _ _ _ _ _ => (pv 4 (hv := Or.inl rfl))))
      (pss_cons (ps_set (i := 5) sc__law_pair_right.nd rfl (Or.inl rfl) (pe_cmpR (op_eqD hr.units) (pe_call G_normal_form hr_normal_form rfl T.g_normal_form T.k_normal_form T.b_normal_form .nil pass0 (pa_cons (pv 0 (hv := Or.inr (Or.inl rfl))) (pa_cons (pv 1 (hv := Or.inr (Or.inl rfl))) pa_nil))) (pe_call G_normal_form hr_normal_form rfl T.g_normal_form T.k_normal_form T.b_normal_form .nil pass0 (pa_cons (pv 0 (hv := Or.inr (Or.inl rfl))) (pa_cons (pv 2 (hv := Or.inr (Or.inl rfl))) pa_nil))) (nomark _)))
      (pss_cons (ps_if (PW.pt (pw_or (pt_cmpR op_ne (pe_call G_are_alike hr_are_alike rfl T.g_are_alike T.k_are_alike T.b_are_alike .nil pass0 (pa_cons (pv 0 (hv := Or.inr (Or.inl rfl))) (pa_cons (pv 1 (hv := Or.inr (Or.inl rfl))) (pa_cons (pv 2 (hv := Or.inr (Or.inl rfl))) pa_nil)))) (pv 5 (hv := Or.inl rfl)) (nomark _)) (pw_or1 (pt_cmpR op_ne (pv 5 (hv := Or.inl rfl)) (pe_cmpR (op_eqD hr.units) (pv 3 (hv := Or.inl rfl)) (pe_lst pa_nil) (nomark _)) (nomark _))))) (pss_one (ps_ret pe_bl)) pss_nil)
      (pss_one (ps_ret (pe_cmpR op_eq (pe_call G_first_unlike hr_first_unlike rfl T.g_first_unlike T.k_first_unlike T.b_first_unlike .nil pass0 (pa_cons (pv 0 (hv := Or.inr (Or.inl rfl))) (pa_cons (pv 1 (hv := Or.inr (Or.inl rfl))) (pa_cons (pv 2 (hv := Or.inr (Or.inl rfl))) pa_nil)))) (pe_ix (r := rIxL K) ix_list (pe_op op_cat (pv 3 (hv := Or.inl rfl)) (pe_lst (pa_cons pe_non pa_nil))) pe_int (fun _ _ => rfl)) (nomark _))))))), ?_⟩
    try dsimp only [cxOf, Cx.nox, Cx.wish, Cx.blk]
    rw [show L2.start ["_law_kind", "_law_one", "_law_other", "_law_gaps", "_law_x", "_law_is_same"] [.ref kp, .ref p, .ref q] = [some (.ref kp), some (.ref p), some (.ref q), none, none, none] from rfl]
    obtain ⟨hk, hp, hq, l1, l9, hc, m1, m9, hd, k⟩ := h
    have w2 := hk.w2
    walk_at "rd"
    refine ⟨10, rfl, by decide, by decide, fun DE hDE => lc_range (lo := 0) (n := 10) (fun j H' => H' DE = some (.lst ((wl (unP wd cs ds) 0 j).map V.int)) ∧ Same H H') ⟨upd_same, sm_new (Same.refl H) hDE⟩ ?_ ?_⟩
    · rintro j H' hj ⟨hde, sm⟩
      have bx : ((0 : Int) + (j : Int)).natAbs < 2 ^ 3000 := Nat.lt_trans (show _ < 2 ^ 8 by omega) (Nat.pow_lt_pow_right (by decide) (by decide))
      have lw : (wl (unP wd cs ds) 0 j).length ≤ j := by
        unfold wl
        exact Nat.le_trans (List.length_filter_le _ _) (by rw [List.length_map, List.length_range]; exact Nat.le_refl _)
      walk_at "rd"
      refine ⟨rfl, ?_⟩
      walk_at "rd"
      refine ⟨kp, p, cs, _, wd, s, rfl, hk.same sm, sm _ _ hp, l1, l9, hc, bx, fun H2 s2 => ?_⟩
      have sm2 := sm.trans s2
      walk_at "rd"
      refine ⟨kp, q, ds, _, wd, s, rfl, hk.same sm2, sm2 _ _ hq, m1, m9, hd, bx, fun H3 s3 => ?_⟩
      have hde := s3 _ _ (s2 _ _ hde)
      have sm3 := sm2.trans s3
      walk_at "rd"
      rw [unP_wr]
      cases hu : unP wd cs ds (0 + (j : Int)) with
      | true =>
        refine iteT ?_
        walk_at "rd"
        refine ⟨_, hde, by rw [List.length_map]; exact small1000 (by omega), ?_, sm_mut sm3 hDE⟩
        rw [upd_same, wl_succ, hu, if_pos rfl, List.map_append]
        rfl
      | false =>
        refine iteF ?_
        rw [wl_succ, hu, if_neg Bool.false_ne_true, List.append_nil]
        exact ⟨hde, sm3⟩
    rintro H1 ⟨hde, s1⟩
    walk_at "rd"
    refine ⟨kp, p, cs, wd, s, rfl, hk.same s1, s1 _ _ hp, l1, l9, hc, fun qa H2 hqa nqa s2 => ?_⟩
    have hde2 := s2 _ _ hde
    have s2 := s1.trans s2
    walk_at "rd"
    refine ⟨kp, q, ds, wd, s, rfl, hk.same s2, s2 _ _ hq, m1, m9, hd, fun qb H3 hqb nqb s3 => ?_⟩
    have hqa := s3 _ _ hqa
    have hde3 := s3 _ _ hde2
    have s3 := s2.trans s3
    walk_at "rd"
    refine w_eqL hqa hqb ?_
    walk_at "rd"
    have nf := nf_alike (w := wd) l9 m9
    have ua : (∀ x, unP wd cs ds x = false) ↔ trm (nfm wd cs) = trm (nfm wd ds) := by
      rw [← nf]
      constructor
      · intro z x
        by_cases c : (2 : Int) ^ wd ∣ pvl cs x - pvl ds x
        · exact c
        · have := unP_iff.mpr c
          rw [z x] at this
          cases this
      · intro z x
        cases hu : unP wd cs ds x with
        | false => rfl
        | true => exact absurd (z x) (unP_iff.mp hu)
    have wa : wl (unP wd cs ds) 0 10 = [] ↔ trm (nfm wd cs) = trm (nfm wd ds) := by
      rw [← ua]
      constructor
      · intro z x
        have := alike_all (S := 2 ^ wd) (cs := cs) (ds := ds) (n := 9) (by omega) (fun j hj => by
          by_cases c : (2 : Int) ^ wd ∣ pvl cs j - pvl ds j
          · exact c
          · have m : (j : Int) ∈ wl (unP wd cs ds) 0 10 := wl_mem.mpr ⟨by omega, by omega, unP_iff.mpr c⟩
            rw [z] at m; cases m) x
        cases hu : unP wd cs ds x with
        | false => rfl
        | true => exact absurd this (unP_iff.mp hu)
      · intro z
        exact wl_none fun n _ => z n
    obtain ⟨g, hg⟩ : ∃ g : Bool, g = decide (trm (nfm wd cs) = trm (nfm wd ds)) := ⟨_, rfl⟩
    have wg : decide (wl (unP wd cs ds) 0 10 = []) = g := by rw [hg]; exact decide_eq_decide.mpr wa
    rw [← hg]
    refine ⟨kp, p, q, cs, ds, wd, s, rfl, hk.same s3, s3 _ _ hp, s3 _ _ hq, l1, l9, hc, m1, m9, hd, fun b H4 hb s4 => ?_⟩
    have eb : b = g := by
      rw [hg]
      cases b with
      | true => exact (decide_eq_true (ua.mp (hb.mp rfl))).symm
      | false => exact (decide_eq_false fun z => by have := hb.mpr (ua.mpr z); cases this).symm
    rw [eb]
    have hde4 := s4 _ _ hde3
    have s4 := s3.trans s4
    walk_at "rd"
    rw [decide_eq_true (rfl : g = g)]
    refine iteF ?_
    walk_at "rd"
    refine ⟨by show 0 ≤ sizeLine; decide, fun q1 hq1 => ?_⟩
    have hde5 := gn (u := .lst []) hde4 hq1
    have s5 := sm_new (o := .lst []) s4 hq1
    have hq1' : (L2.upd H4 q1 (.lst [])) q1 = some (.lst (([] : List Int).map V.int)) := upd_same
    generalize L2.upd H4 q1 (.lst []) = H5 at hde5 s5 hq1' ⊢
    refine w_eqL hde5 hq1' ?_
    walk_at "rd"
    rw [wg, decide_eq_true (rfl : g = g)]
    refine iteF ?_
    walk_at "rd"
    refine ⟨kp, p, q, cs, ds, wd, s, rfl, hk.same s5, s5 _ _ hp, s5 _ _ hq, l1, l9, hc, m1, m9, hd, fun v H6 hv s6 => ?_⟩
    have hde6 := s6 _ _ hde5
    have s6 := s5.trans s6
    walk_at "rd"
    refine ⟨by show 1 ≤ sizeLine; decide, fun q2 hq2 => ?_⟩
    have hq2' : (L2.upd H6 q2 (.lst [.non])) q2 = some (.lst [.non]) := upd_same
    have hde7 := gn (u := .lst [.non]) hde6 hq2
    have s7 := sm_new (o := .lst [.non]) s6 hq2
    generalize L2.upd H6 q2 (.lst [.non]) = H7 at hq2' hde7 s7 ⊢
    have lw : (wl (unP wd cs ds) 0 10).length ≤ 10 := by
      unfold wl
      exact Nat.le_trans (List.length_filter_le _ _) (by rw [List.length_map, List.length_range]; exact Nat.le_refl _)
    refine w_cat hde7 hq2' (by rw [List.length_map]; exact Nat.le_of_lt (small1000 (by show (wl (unP wd cs ds) 0 10).length + 1 ≤ 1000; omega))) (fun q3 hq3 => ?_)
    have hq3' : (L2.upd H7 q3 (.lst ((wl (unP wd cs ds) 0 10).map V.int ++ [V.non]))) q3 = some (.lst ((wl (unP wd cs ds) 0 10).map V.int ++ [V.non])) := upd_same
    have s8 := sm_new (o := .lst ((wl (unP wd cs ds) 0 10).map V.int ++ [V.non])) s7 hq3
    generalize L2.upd H7 q3 _ = H8 at hq3' s8 ⊢
    have dv : ((wl (unP wd cs ds) 0 10).map V.int ++ [V.non])[0]? = some v := by
      rcases hv with ⟨rfl, hv⟩ | ⟨n, rfl, n9', hn, hl⟩
      · rw [wl_none (fun n _ => hv n)]; rfl
      · obtain ⟨r, hr⟩ := wl_head (p := unP wd cs ds) (L := 10) (by omega) hn hl
        rw [hr]; rfl
    walk_at "rd"
    refine w_ixL (i := 0) hq3' (atI_nat (j := 0) dv) ?_
    refine w_eqOpt hv.opt hv.opt ?_
    rw [decide_eq_true (rfl : v = v)]
    exact k _ s8

theorem ofF_ok {w : Nat} {cs : List Int} (w2 : w ≤ 128) (l9 : cs.length ≤ 9) : (trm (nfm w cs)).length ≤ 9 ∧ (∀ a ∈ trm (nfm w cs), SD a) ∧ 1 ≤ (ofF (trm (nfm w cs))).length ∧ (ofF (trm (nfm w cs))).length ≤ 9 ∧ (∀ a ∈ ofF (trm (nfm w cs)), SD a) ∧ trm (nfm w (ofF (trm (nfm w cs)))) = trm (nfm w cs) := by
  obtain ⟨due, hdue⟩ : ∃ due, due = trm (nfm w cs) := ⟨_, rfl⟩
  rw [← hdue]
  have dl : due.length ≤ 9 := by rw [hdue]; exact Nat.le_trans (trm_len _) (by rw [nfm_len]; omega)
  have dr : ∀ (k : Nat) (a : Int), due[k]? = some a → 0 ≤ a ∧ a < 2 ^ (w - twT k) := fun k a h => by
    rw [hdue] at h
    exact nfm_b (trm_get h)
  have db : ∀ a ∈ due, a.natAbs ≤ 2 ^ 128 := fun a ha => by
    obtain ⟨i, hi⟩ := List.getElem?_of_mem ha
    obtain ⟨h0, h1⟩ := dr i a hi
    have e1 : (2 : Int) ^ (w - twT i) ≤ 2 ^ 128 := by
      have := Nat.pow_le_pow_right (n := 2) (by decide) (show w - twT i ≤ 128 by omega)
      exact_mod_cast this
    have e2 : ((2 ^ 128 : Nat) : Int) = (2 : Int) ^ 128 := Int.natCast_pow 2 128
    omega
  have c60 : ((10 ^ 60 : Nat) : Int) = (10 : Int) ^ 60 := Int.natCast_pow 10 60
  have b128 : (2 : Nat) ^ 128 * 11 ^ 9 < 10 ^ 60 := by decide +kernel
  have gl : (grw 0 due).length = due.length := grw_len due 0
  refine ⟨dl, fun a ha => ?_, ?_, ?_, fun a ha => ?_, nf_of dr (by rw [hdue]; exact trm_idem _)⟩
  · have := db a ha
    have : (2 : Nat) ^ 128 < 10 ^ 60 := by decide +kernel
    unfold SD
    omega
  · unfold ofF
    split
    · decide
    · rename_i c
      have : (trm (grw 0 due)).length ≠ 0 := fun z => c (List.length_eq_zero_iff.mp z)
      omega
  · unfold ofF
    split
    · decide
    · have := trm_len (grw 0 due)
      omega
  · unfold ofF at ha
    split at ha
    · rw [List.mem_singleton.mp ha]; unfold SD; decide +kernel
    · obtain ⟨i, hi⟩ := List.getElem?_of_mem ha
      have := grw_b (A := 2 ^ 128) due 0 (by omega) db a (List.mem_of_getElem? (trm_get hi))
      have h2 : 2 ^ 128 * 11 ^ due.length ≤ 2 ^ 128 * 11 ^ 9 := Nat.mul_le_mul_left _ (Nat.pow_le_pow_right (by decide) dl)
      unfold SD
      omega
theorem unP_all {w : Nat} {cs ds : List Int} : (∀ x, unP w cs ds x = false) ↔ ∀ x, (2 : Int) ^ w ∣ pvl cs x - pvl ds x := by
  constructor
  · intro z x
    by_cases c : (2 : Int) ^ w ∣ pvl cs x - pvl ds x
    · exact c
    · have := unP_iff.mpr c
      rw [z x] at this
      cases this
  · intro z x
    cases hu : unP w cs ds x with
    | false => rfl
    | true => exact absurd (z x) (unP_iff.mp hu)
structure WR (C : Addr) (TS : List (Addr × Str)) (H : Hp) (kx : Addr) (wd : Nat) (s : Bool) (qp : Addr) (cs : List Int) (qs : Addr) (ss : List Int) (qu : Addr) (us : List Int) (p : Addr) : Prop where
  k : Kd C H kx wd s
  nk : kx ≠ p
  c : H qp = some (.lst (cs.map V.int))
  s : H qs = some (.lst (ss.map V.int))
  u : H qu = some (.lst (us.map V.int))
  j : JarAt H p
  t : LamX.Tabs TS H
section
variable {C : Addr} {TS : List (Addr × Str)} {H H1 : Hp} {kx qp p qs qu : Addr} {wd : Nat} {s : Bool} {cs ss us : List Int}
theorem WR.sm (d : WR C TS H kx wd s qp cs qs ss qu us p) (e : Sm TS H H1) : WR C TS H1 kx wd s qp cs qs ss qu us p := ⟨d.k.sm e, d.nk, e.at d.c, e.at d.s, e.at d.u, d.j.sm e, e.2 d.t⟩
theorem WR.draw (d : WR C TS H kx wd s qp cs qs ss qu us p) (e : Kp p H H1) (j : JarAt H1 p) : WR C TS H1 kx wd s qp cs qs ss qu us p := ⟨d.k.kq d.nk (e.toJ (TS := TS) d.j), d.nk, e _ _ (d.j.ne_of d.c) d.c, e _ _ (d.j.ne_of d.s) d.s, e _ _ (d.j.ne_of d.u) d.u, j, (e.toJ (TS := TS) d.j).2 d.t⟩
end
def sp__law_right (K : PySem.W.Frag) (C : Addr) (TS : List (Addr × Str)) : Sp := fun vs H Q _ => ∃ (p : Addr) (wd : Nat) (s : Bool), vs = [.ref p, .int (wd : Int), .bl s] ∧ JarAt H p ∧ 1 ≤ wd ∧ wd ≤ 128 ∧ LamX.Tabs TS H ∧ ∀ H', Kq TS p H H' → JarAt H' p → Q (.bl true) H'
theorem ok__law_right {P : Program} {w : World} {K : PySem.W.Frag} {mg : Str → Option Value} {base : Heap} (T : Txt K mg) (B : TBs T base) : FnOk P w K mg base CX0 20 T.f__law_right T.fd__law_right ["_law_jar_here", "_law_bits", "_law_is_signed"] (sp__law_right K T.C_Kind T.tabs) := by
  have G_Kind___init__ := ok_Kind___init__ (P := P) (w := w) (base := base) T B
  have G__law_joined := ok__law_joined (P := P) (w := w) (base := base) T B
  have G__law_nothing := ok__law_nothing (P := P) (w := w) (base := base) T B
  have G__law_pair_right := ok__law_pair_right (P := P) (w := w) (base := base) T B
  have G__law_polynomial := ok__law_polynomial (P := P) (w := w) (base := base) T B
  have G__law_sip := ok__law_sip (P := P) (w := w) (base := base) T B
  have G__law_some := ok__law_some (P := P) (w := w) (base := base) T B
  have G_are_alike := ok_are_alike (P := P) (w := w) (base := base) T B
  have G_greatest := ok_greatest (P := P) (w := w) (base := base) T B
  have G_least := ok_least (P := P) (w := w) (base := base) T B
  have G_normal_form := ok_normal_form (P := P) (w := w) (base := base) T B
  have G_of_form := ok_of_form (P := P) (w := w) (base := base) T B
  have G_root_total := ok_root_total (P := P) (w := w) (base := base) T B
  have G_unlike_at := ok_unlike_at (P := P) (w := w) (base := base) T B
  have G_unlike_total := ok_unlike_total (P := P) (w := w) (base := base) T B
  have G_value_at := ok_value_at (P := P) (w := w) (base := base) T B
  refine T.F__law_right.ok sc__law_right (fun vs H Q E h => ?_) (fun cdv A outer s H vs Q E hr h => ?_)
  · obtain ⟨p, wd, s, rfl, _⟩ := h
    rfl
  · obtain ⟨p, wd, s, rfl, h⟩ := h
    have hr_Kind___init__ : Room 3 _ := hr.mono (by decide)
    have hr__law_joined : Room 1 _ := hr.mono (by decide)
    have hr__law_nothing : Room 2 _ := hr.mono (by decide)
    have hr__law_pair_right : Room 8 _ := hr.mono (by decide)
    have hr__law_polynomial : Room 3 _ := hr.mono (by decide)
    have hr__law_sip : Room 1 _ := hr.mono (by decide)
    have hr__law_some : Room 2 _ := hr.mono (by decide)
    have hr_are_alike : Room 7 _ := hr.mono (by decide)
    have hr_greatest : Room 3 _ := hr.mono (by decide)
    have hr_least : Room 2 _ := hr.mono (by decide)
    have hr_normal_form : Room 5 _ := hr.mono (by decide)
    have hr_of_form : Room 4 _ := hr.mono (by decide)
    have hr_root_total : Room 6 _ := hr.mono (by decide)
    have hr_unlike_at : Room 19 _ := hr.mono (by decide)
    have hr_unlike_total : Room 7 _ := hr.mono (by decide)
    have hr_value_at : Room 5 _ := hr.mono (by decide)
    refine ⟨_, (pss_cons (ps_par rfl sc__law_right.nd (i := 3) (j := 4) rfl rfl (by decide) rfl rfl (pa_cons (pe_make T.mk_Kind G_Kind___init__ hr_Kind___init__ rfl T.g_Kind T.b_Kind___init__ .nil pass0 (pa_cons (pv 1 (hv := Or.inl rfl)) (pa_cons (pv 2 (hv := Or.inl rfl)) pa_nil))) (pa_cons (pe_call G__law_polynomial hr__law_polynomial rfl T.g__law_polynomial T.k__law_polynomial T.b__law_polynomial .nil pass0 (pa_cons (pv 0 (hv := Or.inl rfl)) (pa_cons (pv 1 (hv := Or.inl rfl)) pa_nil))) pa_nil)) (by rfl))
      (pss_cons (ps_set (i := 5) sc__law_right.nd rfl (Or.inl rfl) (pe_call G__law_joined hr__law_joined rfl T.g__law_joined T.k__law_joined T.b__law_joined .nil pass0 (pa_cons (pv 4 (hv := Or.inl rfl)) (pa_cons (pe_call G__law_nothing hr__law_nothing rfl T.g__law_nothing T.k__law_nothing T.b__law_nothing .nil pass0 (pa_cons (pv 0 (hv := Or.inl rfl)) (pa_cons (pv 1 (hv := Or.inl rfl)) (pa_cons pe_int pa_nil)))) (pa_cons pe_int pa_nil)))))
      (pss_cons (ps_set (i := 6) sc__law_right.nd rfl (Or.inl rfl) (pe_call G__law_joined hr__law_joined rfl T.g__law_joined T.k__law_joined T.b__law_joined .nil pass0 (pa_cons (pv 5 (hv := Or.inl rfl)) (pa_cons (pe_call G__law_nothing hr__law_nothing rfl T.g__law_nothing T.k__law_nothing T.b__law_nothing .nil pass0 (pa_cons (pv 0 (hv := Or.inl rfl)) (pa_cons (pv 1 (hv := Or.inl rfl)) (pa_cons pe_int pa_nil)))) (pa_cons (pe_call G__law_some hr__law_some rfl T.g__law_some T.k__law_some T.b__law_some .nil pass0 (pa_cons (pv 0 (hv := Or.inl rfl)) (pa_cons (pe_lst (pa_cons pe_int (pa_cons (pe_un un_neg pe_int) pa_nil))) pa_nil))) pa_nil)))))
      (pss_cons (ps_if (PW.pt (pw_or (pt_not (pt_val (pe_call G_are_alike hr_are_alike rfl T.g_are_alike T.k_are_alike T.b_are_alike .nil pass0 (pa_cons (pv 3 (hv := Or.inl rfl)) (pa_cons (pv 4 (hv := Or.inl rfl)) (pa_cons (pv 5 (hv := Or.inl rfl)) pa_nil)))))) (pw_or1 (pt_val (pe_call G_are_alike hr_are_alike rfl T.g_are_alike T.k_are_alike T.b_are_alike .nil pass0 (pa_cons (pv 3 (hv := Or.inl rfl)) (pa_cons (pv 4 (hv := Or.inl rfl)) (pa_cons (pv 6 (hv := Or.inl rfl)) pa_nil)))))))) (pss_one (ps_ret pe_bl)) pss_nil)
      (pss_cons (ps_if (pt_not (pt_val (pe_call G_are_alike hr_are_alike rfl T.g_are_alike T.k_are_alike T.b_are_alike .nil pass0 (pa_cons (pv 3 (hv := Or.inl rfl)) (pa_cons (pv 4 (hv := Or.inl rfl)) (pa_cons (pe_call G_of_form hr_of_form rfl T.g_of_form T.k_of_form T.b_of_form .nil pass0 (pa_cons (pe_call G_normal_form hr_normal_form rfl T.g_normal_form T.k_normal_form T.b_normal_form .nil pass0 (pa_cons (pv 3 (hv := Or.inl rfl)) (pa_cons (pv 4 (hv := Or.inl rfl)) pa_nil))) pa_nil)) pa_nil)))))) (pss_one (ps_ret pe_bl)) pss_nil)
      (pss_cons (ps_for PassesOwn.never rfl (pi_tup (pe_tup (pa_cons (pv 5 (hv := Or.inl rfl)) (pa_cons (pv 6 (hv := Or.inl rfl)) (pa_cons (pe_call G__law_polynomial hr__law_polynomial rfl T.g__law_polynomial T.k__law_polynomial T.b__law_polynomial .nil pass0 (pa_cons (pv 0 (hv := Or.inl rfl)) (pa_cons (pv 1 (hv := Or.inl rfl)) pa_nil))) pa_nil))))) (pg_name (i := 7) sc__law_right.nd rfl (Or.inl rfl))
        (pss_one (ps_if (PW.pt (pw_or (pt_not (pt_val (pe_call G__law_pair_right hr__law_pair_right rfl T.g__law_pair_right T.k__law_pair_right T.b__law_pair_right .nil pass0 (pa_cons (pv 3 (hv := Or.inl rfl)) (pa_cons (pv 4 (hv := Or.inl rfl)) (pa_cons (pv 7 (hv := Or.inl rfl)) pa_nil)))))) (pw_or1 (pt_not (pt_val (pe_call G__law_pair_right hr__law_pair_right rfl T.g__law_pair_right T.k__law_pair_right T.b__law_pair_right .nil pass0 (pa_cons (pv 3 (hv := Or.inl rfl)) (pa_cons (pv 7 (hv := Or.inl rfl)) (pa_cons (pv 4 (hv := Or.inl rfl)) pa_nil))))))))) (pss_one (ps_ret pe_bl)) pss_nil)))
      (pss_cons (ps_asg (pe_tup (pa_cons (pe_call G_least hr_least rfl T.g_least T.k_least T.b_least .nil pass0 (pa_cons (pv 3 (hv := Or.inl rfl)) pa_nil)) (pa_cons (pe_call G_greatest hr_greatest rfl T.g_greatest T.k_greatest T.b_greatest .nil pass0 (pa_cons (pv 3 (hv := Or.inl rfl)) pa_nil)) (pa_cons (pe_op op_shl pe_int (pv 1 (hv := Or.inl rfl))) pa_nil)))) (pg_tup rfl (pgs_cons (pg_name (i := 8) sc__law_right.nd rfl (Or.inl rfl)) (pgs_cons (pg_name (i := 9) sc__law_right.nd rfl (Or.inl rfl)) (pgs_cons (pg_name (i := 10) sc__law_right.nd rfl (Or.inr rfl)) pgs_nil)))))
      (pss_cons (ps_setLc (i := 11) (own := [("_law_mine", 12)]) (g := gName 12) (tt := tYes) rfl sc__law_right.nd rfl rfl (sw_true rfl rfl rfl (by decide +kernel)) (pi_list (pe_call G__law_joined hr__law_joined rfl T.g__law_joined T.k__law_joined T.b__law_joined .nil pass0 (pa_cons (pv 4 (hv := Or.inl rfl)) (pa_cons (pv 6 (hv := Or.inl rfl)) (pa_cons (pe_un un_neg pe_int) pa_nil))))) (blkOk_by (own := [("_law_mine", 12)]) (N := ["_law_jar_here", "_law_bits", "_law_is_signed", "_law_kind", "_law_one", "_law_same", "_law_unlike", "_law_other", "_law_low", "_law_top", "_law_size", "_law_rest", "_law_mine", "_law_total", "_law_j", "_law_x", "_law_begin", "_law_ahead", "_law_rest_so", "_law_is_one"]) (sc := defScope s__law_right) (by decide +kernel)) (fun _ _ _ _ _ => (pg_name (i := 12) sc__law_right.nd rfl (Or.inl rfl))) (fun _ _ _ _ _ => pts_nil) (fun _ _ _ _ _ => (pe_op op_mod (pe_callTy (T := "int") (r := rIntC) call_int1 (by rfl) T.n_int (by decide +kernel) (pa_cons (pv 12 (hv := Or.inl rfl)) pa_nil)) (pv 10 (hv := Or.inr (Or.inl rfl))))))
      (pss_cons (ps_set (i := 13) sc__law_right.nd rfl (Or.inl rfl) (pe_call G_unlike_total hr_unlike_total rfl T.g_unlike_total T.k_unlike_total T.b_unlike_total .nil pass0 (pa_cons (pv 3 (hv := Or.inl rfl)) (pa_cons (pv 4 (hv := Or.inl rfl)) (pa_cons (pv 6 (hv := Or.inl rfl)) (pa_cons (pv 8 (hv := Or.inl rfl)) (pa_cons (pv 9 (hv := Or.inl rfl)) pa_nil)))))))
      (pss_cons (ps_if (PW.pt (pw_or (pt_cmpR op_ne (pv 13 (hv := Or.inl rfl)) (pe_op op_sub (pv 10 (hv := Or.inr (Or.inl rfl))) (pe_call G_root_total hr_root_total rfl T.g_root_total T.k_root_total T.b_root_total .nil pass0 (pa_cons (pv 3 (hv := Or.inl rfl)) (pa_cons (pv 11 (hv := Or.inl rfl)) pa_nil)))) (nomark _)) (pw_or1 (pt_cmpR op_ne (pe_call G_unlike_total hr_unlike_total rfl T.g_unlike_total T.k_unlike_total T.b_unlike_total .nil pass0 (pa_cons (pv 3 (hv := Or.inl rfl)) (pa_cons (pv 4 (hv := Or.inl rfl)) (pa_cons (pv 5 (hv := Or.inl rfl)) (pa_cons (pv 8 (hv := Or.inl rfl)) (pa_cons (pv 9 (hv := Or.inl rfl)) pa_nil)))))) pe_int (nomark _))))) (pss_one (ps_ret pe_bl)) pss_nil)
      (pss_cons (ps_set (i := 14) sc__law_right.nd rfl (Or.inl rfl) (pe_call G__law_some hr__law_some rfl T.g__law_some T.k__law_some T.b__law_some .nil pass0 (pa_cons (pv 0 (hv := Or.inl rfl)) (pa_cons (pe_lst (pa_cons pe_int (pa_cons (pe_op op_sub (pv 13 (hv := Or.inl rfl)) pe_int) (pa_cons (pe_call G__law_sip hr__law_sip rfl T.g__law_sip T.k__law_sip T.b__law_sip .nil pass0 (pa_cons (pv 0 (hv := Or.inl rfl)) (pa_cons (pv 13 (hv := Or.inl rfl)) pa_nil))) pa_nil)))) pa_nil))))
      (pss_cons (ps_set (i := 15) sc__law_right.nd rfl (Or.inl rfl) (pe_call G_unlike_at hr_unlike_at rfl T.g_unlike_at T.k_unlike_at T.b_unlike_at .nil pass0 (pa_cons (pv 3 (hv := Or.inl rfl)) (pa_cons (pv 4 (hv := Or.inl rfl)) (pa_cons (pv 6 (hv := Or.inl rfl)) (pa_cons (pv 8 (hv := Or.inl rfl)) (pa_cons (pv 9 (hv := Or.inl rfl)) (pa_cons (pv 14 (hv := Or.inl rfl)) pa_nil))))))))
      (pss_cons (ps_if (pt_cmpR op_eq (pe_call G_value_at hr_value_at rfl T.g_value_at T.k_value_at T.b_value_at .nil pass0 (pa_cons (pv 3 (hv := Or.inl rfl)) (pa_cons (pv 4 (hv := Or.inl rfl)) (pa_cons (pv 15 (hv := Or.inl rfl)) pa_nil)))) (pe_call G_value_at hr_value_at rfl T.g_value_at T.k_value_at T.b_value_at .nil pass0 (pa_cons (pv 3 (hv := Or.inl rfl)) (pa_cons (pv 6 (hv := Or.inl rfl)) (pa_cons (pv 15 (hv := Or.inl rfl)) pa_nil)))) (nomark _)) (pss_one (ps_ret pe_bl)) pss_nil)
      (pss_cons (ps_if (pt_cmpR op_ne (pe_call G_unlike_total hr_unlike_total rfl T.g_unlike_total T.k_unlike_total T.b_unlike_total .nil pass0 (pa_cons (pv 3 (hv := Or.inl rfl)) (pa_cons (pv 4 (hv := Or.inl rfl)) (pa_cons (pv 6 (hv := Or.inl rfl)) (pa_cons (pv 8 (hv := Or.inl rfl)) (pa_cons (pv 15 (hv := Or.inl rfl)) pa_nil)))))) (pe_op op_add (pv 14 (hv := Or.inl rfl)) pe_int) (nomark _)) (pss_one (ps_ret pe_bl)) pss_nil)
      (pss_cons (ps_set (i := 16) sc__law_right.nd rfl (Or.inl rfl) (pe_op op_add (pv 8 (hv := Or.inl rfl)) (pe_call G__law_sip hr__law_sip rfl T.g__law_sip T.k__law_sip T.b__law_sip .nil pass0 (pa_cons (pv 0 (hv := Or.inl rfl)) (pa_cons (pv 10 (hv := Or.inr (Or.inl rfl))) pa_nil)))))
      (pss_cons (ps_par rfl sc__law_right.nd (i := 17) (j := 18) rfl rfl (by decide) rfl rfl (pa_cons (pe_call G_unlike_total hr_unlike_total rfl T.g_unlike_total T.k_unlike_total T.b_unlike_total .nil pass0 (pa_cons (pv 3 (hv := Or.inl rfl)) (pa_cons (pv 4 (hv := Or.inl rfl)) (pa_cons (pv 6 (hv := Or.inl rfl)) (pa_cons (pv 8 (hv := Or.inl rfl)) (pa_cons (pv 16 (hv := Or.inl rfl)) pa_nil)))))) (pa_cons (pe_call G_unlike_total hr_unlike_total rfl T.g_unlike_total T.k_unlike_total T.b_unlike_total .nil pass0 (pa_cons (pv 3 (hv := Or.inl rfl)) (pa_cons (pv 4 (hv := Or.inl rfl)) (pa_cons (pv 6 (hv := Or.inl rfl)) (pa_cons (pv 16 (hv := Or.inl rfl)) (pa_cons (pv 9 (hv := Or.inl rfl)) pa_nil)))))) pa_nil)) (by rfl))
      (pss_cons (ps_set (i := 19) sc__law_right.nd rfl (Or.inl rfl) (pe_cmpR op_ne (pe_call G_value_at hr_value_at rfl T.g_value_at T.k_value_at T.b_value_at .nil pass0 (pa_cons (pv 3 (hv := Or.inl rfl)) (pa_cons (pv 4 (hv := Or.inl rfl)) (pa_cons (pv 16 (hv := Or.inl rfl)) pa_nil)))) (pe_call G_value_at hr_value_at rfl T.g_value_at T.k_value_at T.b_value_at .nil pass0 (pa_cons (pv 3 (hv := Or.inl rfl)) (pa_cons (pv 6 (hv := Or.inl rfl)) (pa_cons (pv 16 (hv := Or.inl rfl)) pa_nil)))) (nomark _)))
      (pss_cons (ps_if (pt_cmpR op_ne (pe_op op_sub (pe_op op_add (pv 17 (hv := Or.inl rfl)) (pv 18 (hv := Or.inl rfl))) (pe_callTy (T := "int") (r := rIntC) call_int1 (by rfl) T.n_int (by decide +kernel) (pa_cons (pv 19 (hv := Or.inl rfl)) pa_nil))) (pv 13 (hv := Or.inl rfl)) (nomark _)) (pss_one (ps_ret pe_bl)) pss_nil)
      (pss_cons (ps_if (pt_cmpR op_eq (pv 18 (hv := Or.inl rfl)) pe_int (nomark _)) (pss_one (ps_ret pe_bl)) pss_nil)
      (pss_cons (ps_set (i := 14) sc__law_right.nd rfl (Or.inl rfl) (pe_call G__law_some hr__law_some rfl T.g__law_some T.k__law_some T.b__law_some .nil pass0 (pa_cons (pv 0 (hv := Or.inl rfl)) (pa_cons (pe_lst (pa_cons pe_int (pa_cons (pe_op op_sub (pv 18 (hv := Or.inl rfl)) pe_int) (pa_cons (pe_call G__law_sip hr__law_sip rfl T.g__law_sip T.k__law_sip T.b__law_sip .nil pass0 (pa_cons (pv 0 (hv := Or.inl rfl)) (pa_cons (pv 18 (hv := Or.inl rfl)) pa_nil))) pa_nil)))) pa_nil))))
      (pss_one (ps_ret (pe_cmpR op_eq (pe_call G_unlike_at hr_unlike_at rfl T.g_unlike_at T.k_unlike_at T.b_unlike_at .nil pass0 (pa_cons (pv 3 (hv := Or.inl rfl)) (pa_cons (pv 4 (hv := Or.inl rfl)) (pa_cons (pv 6 (hv := Or.inl rfl)) (pa_cons (pv 16 (hv := Or.inl rfl)) (pa_cons (pv 9 (hv := Or.inl rfl)) (pa_cons (pv 14 (hv := Or.inl rfl)) pa_nil))))))) (pe_call G_unlike_at hr_unlike_at rfl T.g_unlike_at T.k_unlike_at T.b_unlike_at .nil pass0 (pa_cons (pv 3 (hv := Or.inl rfl)) (pa_cons (pv 4 (hv := Or.inl rfl)) (pa_cons (pv 6 (hv := Or.inl rfl)) (pa_cons (pv 8 (hv := Or.inl rfl)) (pa_cons (pv 9 (hv := Or.inl rfl)) (pa_cons (pe_op op_add (pe_op op_sub (pv 13 (hv := Or.inl rfl)) (pv 18 (hv := Or.inl rfl))) (pv 14 (hv := Or.inl rfl))) pa_nil))))))) (nomark _)))))))))))))))))))))))), ?_⟩
    try dsimp only [cxOf, Cx.nox, Cx.wish, Cx.blk]
    rw [show L2.start ["_law_jar_here", "_law_bits", "_law_is_signed", "_law_kind", "_law_one", "_law_same", "_law_unlike", "_law_other", "_law_low", "_law_top", "_law_size", "_law_rest", "_law_mine", "_law_total", "_law_j", "_law_x", "_law_begin", "_law_ahead", "_law_rest_so", "_law_is_one"] [.ref p, .int (wd : Int), .bl s] = [some (.ref p), some (.int (wd : Int)), some (.bl s), none, none, none, none, none, none, none, none, none, none, none, none, none, none, none, none, none] from rfl]
    obtain ⟨hj, w1, w2, hT, k⟩ := h
    have hp := p2 wd
    obtain ⟨z1, z2, z3, z4, z5⟩ := loK_b (s := s) w2
    have hkp : hiK wd s = loK wd s + 2 ^ wd - 1 := rfl
    have c58 : (10 : Int) ^ 58 * 3 < 10 ^ 60 := by decide +kernel
    have c58n : ((10 ^ 58 : Nat) : Int) = (10 : Int) ^ 58 := Int.natCast_pow 10 58
    walk_at "rd"
    intro kx dx nx ndx nex
    refine ⟨kx, wd, s, rfl, ⟨dx, upd_same⟩, w1, w2, fun H1 hk kp1 => ⟨rfl, ?_⟩⟩
    have s1 := mk_same nx ndx kp1
    have nkp : kx ≠ p := hj.ne nx
    have j1 := hj.same s1
    walk_at "rd"
    refine ⟨p, wd, rfl, j1, w1, w2, fun qp cs H2 hcs l1 l9 hc kp2 j2 => ?_⟩
    have hk2 := hk.kq nkp (kp2.toJ (TS := T.tabs) j1)
    have kq2 : Kq T.tabs p H H2 := (Kq.of (Sm.of s1)).trans (kp2.toJ j1)
    walk_at "rd"
    refine ⟨p, wd, 0, rfl, j2, w1, w2, by decide, fun qn ns H3 hns n1 n9 nb nz _ kp3 j3 => ?_⟩
    have nz := nz rfl
    have nqp : qp ≠ p := j2.ne_of hcs
    have hcs := kp3 _ _ nqp hcs
    have hk3 := hk2.kq nkp (kp3.toJ (TS := T.tabs) j2)
    have kq3 := kq2.trans (kp3.toJ (TS := T.tabs) j2)
    clear hk2 kq2 j2 hk kp1 kp2 s1 j1 nx ndx nex kp3
    have nbN : NB + NB + 10 ^ 58 < 10 ^ 60 := by decide +kernel
    have c60n : ((10 ^ 60 : Nat) : Int) = (10 : Int) ^ 60 := Int.natCast_pow 10 60
    obtain ⟨N, hN⟩ : ∃ N, N = NB := ⟨_, rfl⟩
    rw [← hN] at nb nbN
    walk_at "rd"
    refine ⟨qp, qn, cs, ns, 10 ^ 58, N, 1, rfl, .inl rfl, hcs, hns, l9, n9, fun c h => Nat.le_of_lt (hc c h), nb, fun qs ss H4 hss sl sb sv s4 => ?_⟩
    have hcs := s4 _ _ hcs
    have hk4 := hk3.same s4
    have kq4 := kq3.sm (Sm.of s4)
    have j4 := j3.same s4
    clear hk3 kq3 j3 hns s4
    walk_at "rd"
    refine ⟨p, wd, 1, rfl, j4, w1, w2, by decide, fun qm ms H5 hms m1 m9 mb _ mz kp5 j5 => ?_⟩
    have mz := mz rfl
    rw [← hN] at mb
    have hcs := kp5 _ _ nqp hcs
    have nqs : qs ≠ p := j4.ne_of hss
    have hss := kp5 _ _ nqs hss
    have hk5 := hk4.kq nkp (kp5.toJ (TS := T.tabs) j4)
    have kq5 := kq4.trans (kp5.toJ (TS := T.tabs) j4)
    clear hk4 kq4 j4 kp5
    walk_at "rd"
    refine ⟨by show 2 ≤ sizeLine; decide, fun q5 hq5 => ?_⟩
    have hq5' : (L2.upd H5 q5 (.lst [.int 1, .int (-1)])) q5 = some (.lst [.int 1, .int (-1)]) := upd_same
    have s6 := sm_new (o := .lst [.int 1, .int (-1)]) (Same.refl H5) hq5
    have hcs := s6 _ _ hcs
    have hss := s6 _ _ hss
    have hms := s6 _ _ hms
    have hk6 := hk5.same s6
    have kq6 := kq5.sm (Sm.of s6)
    have j6 := j5.same s6
    generalize L2.upd H5 q5 _ = H6 at hq5' hcs hss hms hk6 kq6 j6 ⊢
    clear hk5 kq5 j5 hq5 s6
    walk_at "rd"
    refine ⟨p, q5, _, rfl, j6, hq5', by show 0 < 2; decide, by show 2 ≤ 1000; decide, fun v H7 hv kp7 j7 => ?_⟩
    obtain ⟨sg, rfl, hsg⟩ : ∃ sg : Int, v = .int sg ∧ (sg = 1 ∨ sg = -1) := by
      rcases List.mem_cons.mp hv with e | hv
      · exact ⟨1, e, .inl rfl⟩
      · exact ⟨-1, List.mem_singleton.mp hv, .inr rfl⟩
    have hms := kp7 _ _ (j6.ne_of hms) hms
    have hcs := kp7 _ _ nqp hcs
    have hss := kp7 _ _ nqs hss
    have hk7 := hk6.kq nkp (kp7.toJ (TS := T.tabs) j6)
    have kq7 := kq6.trans (kp7.toJ (TS := T.tabs) j6)
    clear hk6 kq6 j6 kp7 hv hq5'
    walk_at "rd"
    refine ⟨qs, qm, ss, ms, 10 ^ 58 + N, N, sg, rfl, hsg, hss, hms, by omega, m9, sb, mb, fun qu us H8 hus ul ub uv s8 => ?_⟩
    have d : WR T.C_Kind T.tabs H8 kx wd s qp cs qs ss qu us p := ⟨hk7.same s8, nkp, s8 _ _ hcs, s8 _ _ hss, hus, j7.same s8, (kq7.sm (Sm.of s8)).2 hT⟩
    have kq8 := kq7.sm (Sm.of s8)
    clear hk7 kq7 j7 hms hcs hss hus s8
    have cb : ∀ c ∈ cs, SD c := fun c h => by have := hc c h; unfold SD; omega
    have sb : ∀ c ∈ ss, SD c := fun c h => by have := sb c h; unfold SD; omega
    have ub : ∀ c ∈ us, SD c := fun c h => by have := ub c h; unfold SD; omega
    have alike1 : ∀ x, unP wd cs ss x = false := fun x => by
      cases hu : unP wd cs ss x with
      | false => rfl
      | true =>
        refine absurd ?_ (unP_iff.mp hu)
        rw [sv x, Int.one_mul, show pvl cs x - (pvl cs x + pvl ns x) = -(pvl ns x) by omega]
        exact Int.dvd_neg.mpr (nz x)
    have unlike1 : ¬ ∀ x, unP wd cs us x = false := fun y => mz fun x => by
      have h1 : (2 : Int) ^ wd ∣ pvl cs x - pvl us x := by
        by_cases c : (2 : Int) ^ wd ∣ pvl cs x - pvl us x
        · exact c
        · have := unP_iff.mpr c
          rw [y x] at this
          cases this
      rw [uv x, sv x, Int.one_mul] at h1
      have h2 := Int.dvd_add h1 (nz x)
      rw [show pvl cs x - (pvl cs x + pvl ns x + sg * pvl ms x) + pvl ns x = -(sg * pvl ms x) by omega] at h2
      have h2 := Int.dvd_neg.mp h2
      rcases hsg with rfl | rfl
      · rwa [Int.one_mul] at h2
      · rw [Int.neg_mul, Int.one_mul] at h2
        exact Int.dvd_neg.mp h2
    clear sv uv nz mz nb mb n1 n9 m1 m9 hc
    walk_at "rd"
    refine ⟨kx, qp, qs, cs, ss, wd, s, rfl, d.k, d.c, d.s, l1, l9, cb, by omega, by omega, sb, fun b H9 hb s9 => ?_⟩
    rw [hb.mpr alike1]
    have d := d.sm (Sm.of s9)
    have kq9 := kq8.sm (Sm.of s9)
    clear kq8 s9 hb
    walk_at "rd"
    refine iteF ?_
    walk_at "rd"
    refine ⟨kx, qp, qu, cs, us, wd, s, rfl, d.k, d.c, d.u, l1, l9, cb, by omega, by omega, ub, fun b H10 hb s10 => ?_⟩
    have b0 : b = false := by
      cases b with
      | false => rfl
      | true => exact absurd (hb.mp rfl) unlike1
    rw [b0]
    have d := d.sm (Sm.of s10)
    have kq10 := kq9.sm (Sm.of s10)
    clear kq9 s10 hb b0
    walk_at "rd"
    refine iteF ?_
    walk_at "rd"
    refine ⟨kx, qp, cs, wd, s, rfl, d.k, d.c, l1, l9, cb, fun qf H11 hf _ s11 => ?_⟩
    have d := d.sm (Sm.of s11)
    have kq11 := kq10.sm (Sm.of s11)
    obtain ⟨o1, o2, o3, o4, o5, o6⟩ := ofF_ok (cs := cs) w2 l9
    obtain ⟨fs, hfs⟩ : ∃ fs, fs = trm (nfm wd cs) := ⟨_, rfl⟩
    rw [← hfs] at hf o1 o2 o3 o4 o5 o6
    walk_at "rd"
    refine ⟨qf, fs, rfl, hf, o1, o2, fun qo H12 ho _ s12 => ?_⟩
    have d := d.sm (Sm.of s12)
    have kq12 := kq11.sm (Sm.of s12)
    clear kq11 s11 s12 hf kq10
    walk_at "rd"
    refine ⟨kx, qp, qo, cs, ofF fs, wd, s, rfl, d.k, d.c, ho, l1, l9, cb, o3, o4, o5, fun b H13 hb s13 => ?_⟩
    rw [hb.mpr (unP_all.mpr ((nf_alike l9 o4).mpr (by rw [o6, hfs])))]
    have d := d.sm (Sm.of s13)
    have kq13 := kq12.sm (Sm.of s13)
    clear kq12 s13 hb ho o1 o2 o3 o4 o5 o6 hfs
    walk_at "rd"
    refine iteF ?_
    walk_at "rd"
    refine w_itT ?_
    walk_at "rd"
    refine ⟨p, wd, rfl, d.j, w1, w2, fun qz zs H14 hz y1 y9 yb kp14 j14 => ?_⟩
    have kq14 := kq13.trans (kp14.toJ (TS := T.tabs) d.j)
    have d := d.draw kp14 j14
    clear kq13 kp14 j14
    walk_at "rd"
    refine ⟨by show 3 ≤ sizeLine; decide, fun t3 ht3 => ?_⟩
    have ht3' : (L2.upd H14 t3 (.tup [.ref qs, .ref qu, .ref qz])) t3 = some (.tup [.ref qs, .ref qu, .ref qz]) := upd_same
    have s15 := (Sm.refl (T := T.tabs) H14).new (o := .tup [.ref qs, .ref qu, .ref qz]) ht3
    have hz := gn (u := .tup [.ref qs, .ref qu, .ref qz]) hz ht3
    generalize L2.upd H14 t3 _ = H15 at ht3' s15 hz ⊢
    have d := d.sm s15
    have kq15 := kq14.sm s15
    clear kq14 s15 ht3
    have zb : ∀ c ∈ zs, SD c := fun c h => by have := yb c h; unfold SD; omega
    have al3 : ∀ v ∈ [V.ref qs, V.ref qu, V.ref qz], ∃ (q : Addr) (ds : List Int), v = .ref q ∧ H15 q = some (.lst (ds.map V.int)) ∧ 1 ≤ ds.length ∧ ds.length ≤ 9 ∧ ∀ c ∈ ds, SD c := fun v hv => by
      rcases List.mem_cons.mp hv with rfl | hv
      · exact ⟨qs, ss, rfl, d.s, by omega, by omega, sb⟩
      rcases List.mem_cons.mp hv with rfl | hv
      · exact ⟨qu, us, rfl, d.u, by omega, by omega, ub⟩
      · rw [List.mem_singleton.mp hv]
        exact ⟨qz, zs, rfl, hz, y1, y9, zb⟩
    refine ⟨t3, rfl, ⟨_, SqT.of ht3'⟩, for_tup (K := K) (a := t3) (xs := [V.ref qs, V.ref qu, V.ref qz]) (fun i σ H' => (∃ v7 : Option V, σ = [some (.ref p), some (.int (wd : Int)), some (.bl s), some (.ref kx), some (.ref qp), some (.ref qs), some (.ref qu), v7, none, none, none, none, none, none, none, none, none, none, none, none]) ∧ Same H15 H') ⟨⟨_, rfl⟩, Same.refl H15⟩ (fun i σ H' _ z => SqT.of (z.2 _ _ ht3')) ?_ ?_⟩
    · rintro i y σ H' hi ⟨⟨v7, rfl⟩, sm⟩
      obtain ⟨qq, ds, rfl, hq, q1, q9, qb⟩ := al3 y (List.mem_of_getElem? hi)
      have d := d.sm (Sm.of sm)
      walk_at "rd"
      refine ⟨kx, qp, qq, cs, ds, wd, s, rfl, d.k, d.c, sm _ _ hq, l1, l9, cb, q1, q9, qb, fun H1 s1 => ?_⟩
      have d := d.sm (Sm.of s1)
      have sm := sm.trans s1
      walk_at "rd"
      refine w_bF rfl ?_
      walk_at "rd"
      refine ⟨kx, qq, qp, ds, cs, wd, s, rfl, d.k, sm _ _ hq, d.c, q1, q9, qb, l1, l9, cb, fun H2 s2 => ?_⟩
      walk_at "rd"
      refine w_bF rfl ?_
      walk_at "rd"
      exact ⟨⟨_, rfl⟩, sm.trans s2⟩
    rintro σ H16 ⟨⟨v7, rfl⟩, s16⟩
    have d := d.sm (Sm.of s16)
    have kq16 := kq15.sm (Sm.of s16)
    clear kq15 s16 hz ht3' al3 zb y1 y9 yb
    have u1 : 1 ≤ us.length := by omega
    have u9 : us.length ≤ 9 := by omega
    have sl1 : 1 ≤ ss.length := by omega
    have sl9 : ss.length ≤ 9 := by omega
    have hlo : loK wd s ≤ hiK wd s := by omega
    have p128 : (2 : Int) ^ wd ≤ 2 ^ 128 := by
      have := Nat.pow_le_pow_right (n := 2) (by decide) w2
      exact_mod_cast this
    have e128 : ((2 ^ 128 : Nat) : Int) = (2 : Int) ^ 128 := Int.natCast_pow 2 128
    have big : ∀ m : Int, 0 ≤ m → m ≤ 2 ^ 128 → m.natAbs < 2 ^ 8999 := fun m m0 m1 => Nat.lt_of_le_of_lt (show m.natAbs ≤ 2 ^ 128 by omega) (Nat.pow_lt_pow_right (by decide) (by decide))
    have c128 : (2 : Nat) ^ 128 < 10 ^ 60 := by decide +kernel
    walk_at "rd"
    refine ⟨kx, wd, s, rfl, d.k, ?_⟩
    walk_at "rd"
    refine ⟨kx, wd, s, rfl, d.k, ?_⟩
    walk_at "rd"
    refine w_I (cpow (n := 1) (by omega) (by decide)) ?_
    rw [Int.toNat_natCast, Int.one_mul]
    walk_at "rd"
    refine ⟨by show 3 ≤ sizeLine; decide, fun t4 ht4 => ?_⟩
    have ht4' : (L2.upd H16 t4 (.tup [.int (loK wd s), .int (hiK wd s), .int (2 ^ wd)])) t4 = some (.tup [.int (loK wd s), .int (hiK wd s), .int (2 ^ wd)]) := upd_same
    have s17 := (Sm.refl (T := T.tabs) H16).new (o := .tup [.int (loK wd s), .int (hiK wd s), .int (2 ^ wd)]) ht4
    generalize L2.upd H16 t4 _ = H17 at ht4' s17 ⊢
    have d := d.sm s17
    have kq17 := kq16.sm s17
    clear kq16 s17 ht4
    walk_at "rd"
    refine ⟨qp, qu, cs, us, 10 ^ 60, 10 ^ 60, -1, rfl, .inr rfl, d.c, d.u, l9, u9, fun c h => by have := cb c h; unfold SD at this; omega, fun c h => by have := ub c h; unfold SD at this; omega, fun qj js H18 hjs jl _ jv s18 => ?_⟩
    have d := d.sm (Sm.of s18)
    have kq18 := kq17.sm (Sm.of s18)
    clear kq17 s18 ht4'
    walk_at "rd"
    obtain ⟨rs, hrs⟩ : ∃ rs, rs = js.map (· % (2 : Int) ^ wd) := ⟨_, rfl⟩
    refine ⟨⟨_, SqL.of hjs⟩, fun DR hDR => lc_list (K := K) (a := qj) (xs := js.map V.int) (fun j H' => H' DR = some (.lst ((rs.take j).map V.int)) ∧ Same H18 H') ⟨upd_same, sm_new (Same.refl H18) hDR⟩ (fun i H' _ z => SqL.of (z.2 _ _ hjs)) ?_ ?_⟩
    · rintro j y H' hjv ⟨hd, sm⟩
      obtain ⟨g, hg, rfl⟩ := map_get hjv
      have jl2 := get_lt hg
      walk_at "rd"
      refine ⟨rfl, ?_⟩
      walk_at "rd"
      refine iteT ?_
      walk_at "rd"
      refine w_I hp ?_
      walk_at "rd"
      refine ⟨_, hd, by rw [List.length_map, List.length_take, hrs, List.length_map]; exact small1000 (by omega), ?_, sm_mut sm hDR⟩
      rw [upd_same, List.take_succ, show rs[j]? = some (g % 2 ^ wd) by rw [hrs, List.getElem?_map, hg]; rfl, List.map_append]
      rfl
    rintro H19 ⟨hdr, s19⟩
    rw [List.length_map, List.take_of_length_le (by rw [hrs, List.length_map]; exact Nat.le_refl _)] at hdr
    have d := d.sm (Sm.of s19)
    have kq19 := kq18.sm (Sm.of s19)
    clear kq18 s19 hjs
    obtain ⟨P, hP⟩ : ∃ P, P = unP wd cs us := ⟨_, rfl⟩
    have rv : ∀ x, P x = !rtP wd rs x := fun x => by
      rw [hP]
      unfold unP rtP
      congr 1
      have h1 := pv_map_mod (S := (2 : Int) ^ wd) js x
      rw [← hrs, jv x, Int.neg_mul, Int.one_mul] at h1
      rw [pv_difL]
      refine decide_eq_decide.mpr ⟨fun z => ?_, fun z => ?_⟩
      · have := Int.dvd_add h1 z
        rwa [show pvl rs x - (pvl cs x + -pvl us x) + (pvl cs x - pvl us x) = pvl rs x by omega] at this
      · have := Int.dvd_sub z h1
        rwa [show pvl rs x - (pvl rs x - (pvl cs x + -pvl us x)) = pvl cs x - pvl us x by omega] at this
    have rl1 : rs.length = 9 := by rw [hrs, List.length_map, jl]
    have rb : ∀ c ∈ rs, SD c := fun c h => by
      rw [hrs] at h
      obtain ⟨g, _, rfl⟩ := List.mem_map.mp h
      have h0 := Int.emod_nonneg g (Int.ne_of_gt hp)
      have h1 := Int.emod_lt_of_pos g hp
      unfold SD
      omega
    clear jv hrs jl
    have tn : tot P (loK wd s) (hiK wd s) = 2 ^ wd - tot (rtP wd rs) (loK wd s) (hiK wd s) := by
      rw [show P = fun x => !rtP wd rs x from funext rv, tot_not (by omega)]
      omega
    obtain ⟨N2, hN2⟩ : ∃ N2, N2 = tot P (loK wd s) (hiK wd s) := ⟨_, rfl⟩
    have npos : 0 < N2 := by
      rw [hN2]
      obtain ⟨x, hx⟩ : ∃ x, P x = true := by
        refine Classical.byContradiction fun z => unlike1 fun x => ?_
        cases hu : unP wd cs us x with
        | false => rfl
        | true => exact absurd ⟨x, by rw [hP]; exact hu⟩ z
      refine tot_pos (x := wr wd s x) (wr_lo wd s x) (wr_hi wd s x) ?_
      have h : (2 : Int) ^ wd ∣ wr wd s x - x := by
        rw [wr_q]; exact ⟨-((x - loK wd s) / 2 ^ wd), by rw [Int.mul_neg]; omega⟩
      rw [hP] at hx ⊢
      refine unP_iff.mpr fun z => unP_iff.mp hx ?_
      have a1 := pv_congx cs h
      have a2 := pv_congx us h
      have a3 := Int.dvd_add (Int.dvd_sub z a1) a2
      rwa [show pvl cs (wr wd s x) - pvl us (wr wd s x) - (pvl cs (wr wd s x) - pvl cs x) + (pvl us (wr wd s x) - pvl us x) = pvl cs x - pvl us x by omega] at a3
    have nle : N2 ≤ 2 ^ 128 := by
      have := tot_le P (first := loK wd s) (last := hiK wd s) (by omega)
      omega
    walk_at "rd"
    refine ⟨kx, qp, qu, cs, us, loK wd s, hiK wd s, wd, s, rfl, d.k, d.c, d.u, l1, l9, cb, u1, u9, ub, ⟨Int.le_refl _, hlo⟩, ⟨hlo, Int.le_refl _⟩, fun H20 s20 => ?_⟩
    rw [← hP, ← hN2]
    have d := d.sm (Sm.of s20)
    have hdr := s20 _ _ hdr
    have kq20 := kq19.sm (Sm.of s20)
    clear kq19 s20
    walk_at "rd"
    refine ⟨kx, DR, rs, wd, s, rfl, d.k, hdr, by omega, by omega, rb, fun H21 s21 => ?_⟩
    have d := d.sm (Sm.of s21)
    have kq21 := kq20.sm (Sm.of s21)
    clear kq20 s21 hdr
    walk_at "rd"
    rw [decide_eq_true (show N2 = 2 ^ wd - tot (rtP wd rs) (loK wd s) (hiK wd s) by rw [hN2]; exact tn)]
    refine w_bF rfl ?_
    walk_at "rd"
    refine ⟨kx, qp, qs, cs, ss, loK wd s, hiK wd s, wd, s, rfl, d.k, d.c, d.s, l1, l9, cb, sl1, sl9, sb, ⟨Int.le_refl _, hlo⟩, ⟨hlo, Int.le_refl _⟩, fun H22 s22 => ?_⟩
    rw [show tot (unP wd cs ss) (loK wd s) (hiK wd s) = 0 from tot_zero_iff.mpr fun x _ _ => alike1 x]
    have d := d.sm (Sm.of s22)
    have kq22 := kq21.sm (Sm.of s22)
    clear kq21 s22
    walk_at "rd"
    refine w_ndecT rfl ?_
    clear tn rv rl1 rb
    walk_at "rd"
    refine ⟨p, N2, rfl, d.j, npos, big N2 (by omega) nle, fun u H23 u0 u1' kp23 j23 => ?_⟩
    have kq23 := kq22.trans (kp23.toJ (TS := T.tabs) d.j)
    have d := d.draw kp23 j23
    clear kq22 kp23 j23
    walk_at "rd"
    refine ⟨by show 3 ≤ sizeLine; decide, fun q7 hq7 => ?_⟩
    have hq7' : (L2.upd H23 q7 (.lst [.int 0, .int (N2 - 1), .int u])) q7 = some (.lst [.int 0, .int (N2 - 1), .int u]) := upd_same
    have s24 := (Sm.refl (T := T.tabs) H23).new (o := .lst [.int 0, .int (N2 - 1), .int u]) hq7
    generalize L2.upd H23 q7 _ = H24 at hq7' s24 ⊢
    have d := d.sm s24
    have kq24 := kq23.sm s24
    clear kq23 s24 hq7
    walk_at "rd"
    refine ⟨p, q7, _, rfl, d.j, hq7', by show 0 < 3; decide, by show 3 ≤ 1000; decide, fun v H25 hv kp25 j25 => ?_⟩
    obtain ⟨j, rfl, j0, j1⟩ : ∃ j : Int, v = .int j ∧ 0 ≤ j ∧ j < N2 := by
      rcases List.mem_cons.mp hv with e | hv
      · exact ⟨0, e, by omega, by omega⟩
      rcases List.mem_cons.mp hv with e | hv
      · exact ⟨_, e, by omega, by omega⟩
      · exact ⟨u, List.mem_singleton.mp hv, u0, u1'⟩
    have kq25 := kq24.trans (kp25.toJ (TS := T.tabs) d.j)
    have d := d.draw kp25 j25
    clear kq24 kp25 j25 hv hq7'
    walk_at "rd"
    refine ⟨kx, qp, qu, cs, us, loK wd s, hiK wd s, j, wd, s, rfl, d.k, d.c, d.u, l1, l9, cb, u1, u9, ub, ⟨Int.le_refl _, hlo⟩, ⟨hlo, Int.le_refl _⟩, d.t, by omega, j0, by rw [← hP, ← hN2]; exact j1, fun x H26 hx s26 => ?_⟩
    rw [← hP] at hx
    obtain ⟨x1, x2, x3, x4⟩ := hx
    have d := d.sm s26
    have kq26 := kq25.sm s26
    clear kq25 s26
    have bbx : ∀ y : Int, loK wd s ≤ y → y ≤ hiK wd s → y.natAbs < 2 ^ 3000 := fun y y1 y2 => by
      have h1 : y.natAbs ≤ 2 ^ 128 := by omega
      exact Nat.lt_of_le_of_lt h1 (Nat.pow_lt_pow_right (by decide) (by decide))
    walk_at "rd"
    refine ⟨kx, qp, cs, x, wd, s, rfl, d.k, d.c, l1, l9, cb, bbx x x1 x2, fun H27 s27 => ?_⟩
    have d := d.sm (Sm.of s27)
    have kq27 := kq26.sm (Sm.of s27)
    clear kq26 s27
    walk_at "rd"
    refine ⟨kx, qu, us, x, wd, s, rfl, d.k, d.u, u1, u9, ub, bbx x x1 x2, fun H28 s28 => ?_⟩
    have d := d.sm (Sm.of s28)
    have kq28 := kq27.sm (Sm.of s28)
    clear kq27 s28
    walk_at "rd"
    have nex : decide (wr wd s (pvl cs x) = wr wd s (pvl us x)) = false := by
      have := unP_wr (w := wd) (s := s) (cs := cs) (ds := us) (x := x)
      rw [← hP, x3] at this
      cases hh : decide (wr wd s (pvl cs x) = wr wd s (pvl us x)) with
      | false => rfl
      | true => rw [hh] at this; cases this
    rw [nex]
    refine w_bF rfl ?_
    clear nex
    walk_at "rd"
    refine ⟨kx, qp, qu, cs, us, loK wd s, x, wd, s, rfl, d.k, d.c, d.u, l1, l9, cb, u1, u9, ub, ⟨Int.le_refl _, hlo⟩, ⟨x1, x2⟩, fun H29 s29 => ?_⟩
    have d := d.sm (Sm.of s29)
    have kq29 := kq28.sm (Sm.of s29)
    clear kq28 s29
    rw [← hP, show tot P (loK wd s) x = j + 1 by rw [tot_step P x1, x4, if_pos x3]]
    walk_at "rd"
    refine w_ndecT rfl ?_
    walk_at "rd"
    refine ⟨p, 2 ^ wd, rfl, d.j, hp, big _ (by omega) p128, fun v H30 v0 v1 kp30 j30 => ?_⟩
    have kq30 := kq29.trans (kp30.toJ (TS := T.tabs) d.j)
    have d := d.draw kp30 j30
    clear kq29 kp30 j30
    obtain ⟨bg, hbg⟩ : ∃ bg, bg = loK wd s + v := ⟨_, rfl⟩
    have b1 : loK wd s ≤ bg := by omega
    have b2 : bg ≤ hiK wd s := by omega
    walk_at "rd"
    rw [← hbg]
    refine ⟨kx, qp, qu, cs, us, loK wd s, bg, wd, s, rfl, d.k, d.c, d.u, l1, l9, cb, u1, u9, ub, ⟨Int.le_refl _, hlo⟩, ⟨b1, b2⟩, fun H31 s31 => ?_⟩
    have d := d.sm (Sm.of s31)
    have kq31 := kq30.sm (Sm.of s31)
    clear kq30 s31
    walk_at "rd"
    refine ⟨kx, qp, qu, cs, us, bg, hiK wd s, wd, s, rfl, d.k, d.c, d.u, l1, l9, cb, u1, u9, ub, ⟨b1, b2⟩, ⟨hlo, Int.le_refl _⟩, fun H32 s32 => ?_⟩
    have d := d.sm (Sm.of s32)
    have kq32 := kq31.sm (Sm.of s32)
    clear kq31 s32
    rw [← hP]
    obtain ⟨R, hR⟩ : ∃ R, R = tot P bg (hiK wd s) := ⟨_, rfl⟩
    rw [← hR]
    have sp1 := tot_split P (first := loK wd s) (mid := bg - 1) (last := hiK wd s) (by omega) (by omega)
    rw [show bg - 1 + 1 = bg by omega, ← hR, ← hN2] at sp1
    have sp2 := tot_step P (first := loK wd s) (last := bg) b1
    have t0 := tot_nonneg P (loK wd s) (bg - 1)
    have R0 : 0 ≤ R := by rw [hR]; exact tot_nonneg P _ _
    walk_at "rd"
    refine ⟨kx, qp, cs, bg, wd, s, rfl, d.k, d.c, l1, l9, cb, bbx bg b1 b2, fun H33 s33 => ?_⟩
    have d := d.sm (Sm.of s33)
    have kq33 := kq32.sm (Sm.of s33)
    clear kq32 s33
    walk_at "rd"
    refine ⟨kx, qu, us, bg, wd, s, rfl, d.k, d.u, u1, u9, ub, bbx bg b1 b2, fun H34 s34 => ?_⟩
    have d := d.sm (Sm.of s34)
    have kq34 := kq33.sm (Sm.of s34)
    clear kq33 s34
    walk_at "rd"
    rw [unP_wr, ← hP]
    have eqn : tot P (loK wd s) bg + R - (if P bg = true then 1 else 0) = N2 := by omega
    walk_at "rd"
    rw [decide_eq_true eqn]
    refine w_bF rfl ?_
    walk_at "rd"
    refine w_dec (fun c => ?_) (fun c => ?_)
    · walk_at "rd"
      exact k _ kq34 d.j
    have Rp : 0 < R := by omega
    have Rle : R ≤ 2 ^ 128 := by omega
    walk_at "rd"
    refine ⟨p, R, rfl, d.j, Rp, big R (by omega) Rle, fun u2 H35 u20 u21 kp35 j35 => ?_⟩
    have kq35 := kq34.trans (kp35.toJ (TS := T.tabs) d.j)
    have d := d.draw kp35 j35
    clear kq34 kp35 j35
    walk_at "rd"
    refine ⟨by show 3 ≤ sizeLine; decide, fun q8 hq8 => ?_⟩
    have hq8' : (L2.upd H35 q8 (.lst [.int 0, .int (R - 1), .int u2])) q8 = some (.lst [.int 0, .int (R - 1), .int u2]) := upd_same
    have s36 := (Sm.refl (T := T.tabs) H35).new (o := .lst [.int 0, .int (R - 1), .int u2]) hq8
    generalize L2.upd H35 q8 _ = H36 at hq8' s36 ⊢
    have d := d.sm s36
    have kq36 := kq35.sm s36
    clear kq35 s36 hq8
    walk_at "rd"
    refine ⟨p, q8, _, rfl, d.j, hq8', by show 0 < 3; decide, by show 3 ≤ 1000; decide, fun v2 H37 hv kp37 j37 => ?_⟩
    obtain ⟨i, rfl, i0, i1⟩ : ∃ i : Int, v2 = .int i ∧ 0 ≤ i ∧ i < R := by
      rcases List.mem_cons.mp hv with e | hv
      · exact ⟨0, e, by omega, by omega⟩
      rcases List.mem_cons.mp hv with e | hv
      · exact ⟨_, e, by omega, by omega⟩
      · exact ⟨u2, List.mem_singleton.mp hv, u20, u21⟩
    have kq37 := kq36.trans (kp37.toJ (TS := T.tabs) d.j)
    have d := d.draw kp37 j37
    clear kq36 kp37 j37 hv hq8'
    walk_at "rd"
    refine ⟨kx, qp, qu, cs, us, bg, hiK wd s, i, wd, s, rfl, d.k, d.c, d.u, l1, l9, cb, u1, u9, ub, ⟨b1, b2⟩, ⟨hlo, Int.le_refl _⟩, d.t, by omega, i0, by rw [← hP, ← hR]; exact i1, fun y H38 hy s38 => ?_⟩
    rw [← hP] at hy
    obtain ⟨y1, y2, y3, y4⟩ := hy
    have d := d.sm s38
    have kq38 := kq37.sm s38
    clear kq37 s38
    walk_at "rd"
    refine ⟨kx, qp, qu, cs, us, loK wd s, hiK wd s, N2 - R + i, wd, s, rfl, d.k, d.c, d.u, l1, l9, cb, u1, u9, ub, ⟨Int.le_refl _, hlo⟩, ⟨hlo, Int.le_refl _⟩, d.t, by omega, by omega, by rw [← hP, ← hN2]; omega, fun z H39 hz s39 => ?_⟩
    rw [← hP] at hz
    obtain ⟨zz1, zz2, zz3, zz4⟩ := hz
    have kq39 := kq38.sm s39
    have sp3 := tot_split P (first := loK wd s) (mid := bg - 1) (last := y - 1) (by omega) (by omega)
    rw [show bg - 1 + 1 = bg by omega, y4] at sp3
    have eyz : y = z := at_unique (by omega) y3 (j := N2 - R + i) (by omega) zz1 zz3 zz4
    subst eyz
    walk_at "rd"
    rw [decide_eq_true (rfl : y = y)]
    exact k _ kq39 (d.sm s39).j
def sp_law (K : PySem.W.Frag) (C : Addr) (TS : List (Addr × Str)) : Sp := fun vs H Q _ => ∃ (a : Addr) (ns : List Int), vs = [.ref a] ∧ SqL K H a (ns.map V.int) ∧ ns.length ≤ 63 ∧ LamX.Tabs TS H ∧ ∀ H', Q (.bl true) H'
theorem ok_law {P : Program} {w : World} {K : PySem.W.Frag} {mg : Str → Option Value} {base : Heap} (T : Txt K mg) (B : TBs T base) : FnOk P w K mg base CX0 21 T.f_law T.fd_law ["_law_script"] (sp_law K T.C_Kind T.tabs) := by
  have G__law_jar := ok__law_jar (P := P) (w := w) (base := base) T B
  have G__law_right := ok__law_right (P := P) (w := w) (base := base) T B
  have G__law_sip := ok__law_sip (P := P) (w := w) (base := base) T B
  have G__law_some := ok__law_some (P := P) (w := w) (base := base) T B
  refine T.F_law.ok sc_law (fun vs H Q E h => ?_) (fun cdv A outer s H vs Q E hr h => ?_)
  · obtain ⟨a, ns, rfl, _⟩ := h
    rfl
  · obtain ⟨a, ns, rfl, h⟩ := h
    have hr__law_jar : Room 1 _ := hr.mono (by decide)
    have hr__law_right : Room 20 _ := hr.mono (by decide)
    have hr__law_sip : Room 1 _ := hr.mono (by decide)
    have hr__law_some : Room 2 _ := hr.mono (by decide)
    refine ⟨_, (pss_cons (ps_for PassesOwn.never rfl (pi_list (pe_op op_cat (pe_slice sl_list (pv 0 (hv := Or.inl rfl)) po_none (po_some pe_int)) (pe_lst (pa_cons pe_int pa_nil)))) (pg_name (i := 1) sc_law.nd rfl (Or.inl rfl))
        (pss_cons (ps_set (i := 2) sc_law.nd rfl (Or.inl rfl) (pe_call G__law_jar hr__law_jar rfl T.g__law_jar T.k__law_jar T.b__law_jar .nil pass0 (pa_cons (pv 1 (hv := Or.inl rfl)) pa_nil)))
      (pss_one (ps_for PassesOwn.never rfl (pi_range1 (by rfl) T.n_range (pa_cons pe_int pa_nil)) (pg_name (i := 3) sc_law.nd rfl (Or.inl rfl))
        (pss_one (ps_if (pt_not (pt_val (pe_call G__law_right hr__law_right rfl T.g__law_right T.k__law_right T.b__law_right .nil pass0 (pa_cons (pv 2 (hv := Or.inl rfl)) (pa_cons (pe_op op_add pe_int (pe_call G__law_sip hr__law_sip rfl T.g__law_sip T.k__law_sip T.b__law_sip .nil pass0 (pa_cons (pv 2 (hv := Or.inl rfl)) (pa_cons (pe_call G__law_some hr__law_some rfl T.g__law_some T.k__law_some T.b__law_some .nil pass0 (pa_cons (pv 2 (hv := Or.inl rfl)) (pa_cons (pe_lst (pa_cons pe_int (pa_cons pe_int pa_nil))) pa_nil))) pa_nil)))) (pa_cons (pe_cmpR op_eq (pe_call G__law_sip hr__law_sip rfl T.g__law_sip T.k__law_sip T.b__law_sip .nil pass0 (pa_cons (pv 2 (hv := Or.inl rfl)) (pa_cons pe_int pa_nil))) pe_int (nomark _)) pa_nil)))))) (pss_one (ps_ret pe_bl)) pss_nil))))))
      (pss_one (ps_ret pe_bl))), ?_⟩
    try dsimp only [cxOf, Cx.nox, Cx.wish, Cx.blk]
    rw [show L2.start ["_law_script", "_law_cell", "_law_jar_here", "_law_turn"] [.ref a] = [some (.ref a), none, none, none] from rfl]
    obtain ⟨hS, n63, hT, k⟩ := h
    walk_at "rd"
    have e3 := cut_take V.int ns 3
    refine w_slL hS (fun q1 hq1 => ?_)
    rw [show (some (3 : Int)) = some ((3 : Nat) : Int) from rfl, e3]
    clear e3
    have lm : (ns.take 3).length ≤ 3 := by rw [List.length_take]; omega
    generalize ns.take 3 = ms at lm
    walk_at "rd"
    refine ⟨by show 1 ≤ sizeLine; decide, fun q2 hq2 => ?_⟩
    refine w_cat (gn upd_same hq2) upd_same (by rw [List.length_map]; exact Nat.le_trans (show ms.length + 1 ≤ 64 by omega) (by decide)) (fun q3 hq3 => ?_)
    have s0 : Sm T.tabs H (L2.upd (L2.upd (L2.upd H q1 (.lst (ms.map V.int))) q2 (.lst [V.int 0])) q3 (.lst (ms.map V.int ++ [V.int 0]))) := (((Sm.refl H).new hq1).new hq2).new hq3
    have hx0 : (L2.upd (L2.upd (L2.upd H q1 (.lst (ms.map V.int))) q2 (.lst [V.int 0])) q3 (.lst (ms.map V.int ++ [V.int 0]))) q3 = some (.lst ((ms ++ [0]).map V.int)) := by
      rw [upd_same, List.map_append]; rfl
    generalize L2.upd (L2.upd (L2.upd H q1 _) q2 _) q3 _ = H0 at s0 hx0 ⊢
    walk_at "rd"
    have hT0 := s0.2 hT
    refine ⟨⟨_, SqL.of hx0⟩, for_list (K := K) (a := q3) (xs := (ms ++ [0]).map V.int) (fun i σ H' => (∃ v1 v2 v3 : Option V, σ = [some (.ref a), v1, v2, v3]) ∧ H' q3 = some (.lst ((ms ++ [0]).map V.int)) ∧ LamX.Tabs T.tabs H') ⟨⟨_, _, _, rfl⟩, hx0, hT0⟩ (fun i σ H' _ z => SqL.of z.2.1) ?_ (fun σ H' ⟨⟨v1, v2, v3, e⟩, _⟩ => by subst e; walk_at "rd"; exact k _)⟩
    rintro i x σ H' hi ⟨⟨v1, v2, v3, rfl⟩, hx, hT3⟩
    obtain ⟨c, _, rfl⟩ := map_get hi
    walk_at "rd"
    refine ⟨c, rfl, fun p H3 hp s3 j3 => ?_⟩
    have npq : q3 ≠ p := ne_of_none hx hp
    have hT3' := (Sm.of s3).2 hT3
    have hx3 := s3 _ _ hx
    walk_at "rd"
    refine ⟨3, rfl, by decide, by decide, for_range (lo := 0) (n := 3) (fun i σ H' => (∃ v3 : Option V, σ = [some (.ref a), some (.int c), some (.ref p), v3]) ∧ Kq T.tabs p H3 H' ∧ JarAt H' p) ⟨⟨_, rfl⟩, Kq.refl H3, j3⟩ ?_ ?_⟩
    · rintro i σ H' hi ⟨⟨v3, rfl⟩, kq4, j4⟩
      walk_at "rd"
      refine ⟨by show 2 ≤ sizeLine; decide, fun q9 hq9 => ?_⟩
      walk_at "rd"
      refine ⟨p, q9, _, rfl, j4.new hq9, upd_same, by show 0 < 2; decide, by show 2 ≤ 1000; decide, fun vm Hm hvm kpm jm => ?_⟩
      obtain ⟨m, rfl, m1, m2⟩ : ∃ m : Int, vm = .int m ∧ 1 ≤ m ∧ m ≤ 128 := by
        rcases List.mem_cons.mp hvm with e | hvm
        · exact ⟨6, e, by decide, by decide⟩
        · exact ⟨128, List.mem_singleton.mp hvm, by decide, by decide⟩
      have kpm := ((Kp.refl p _).new hq9).trans kpm
      walk_at "rd"
      refine ⟨p, m, rfl, jm, by omega, Nat.lt_trans (show m.natAbs < 2 ^ 64 by omega) (Nat.pow_lt_pow_right (by decide) (by decide)), fun u H5 u0 u1 kp5 j5 => ?_⟩
      have kp5 := kpm.trans kp5
      walk_at "rd"
      refine ⟨p, 2, rfl, j5, by decide, Nat.lt_trans (show (2 : Int).natAbs < 2 ^ 8 by decide) (Nat.pow_lt_pow_right (by decide) (by decide)), fun t H6 _ _ kp6 j6 => ?_⟩
      obtain ⟨wd, hwd⟩ : ∃ wd : Nat, 1 + u = (wd : Int) := ⟨(1 + u).toNat, by omega⟩
      rw [hwd]
      have kq := kq4.trans ((kp5.trans kp6).toJ (TS := T.tabs) j4)
      walk_at "rd"
      refine ⟨p, wd, _, rfl, j6, by omega, by omega, kq.2 hT3', fun H7 kq7 j7 => ?_⟩
      walk_at "rd"
      refine iteF ?_
      walk_at "rd"
      exact ⟨⟨_, rfl⟩, kq.trans kq7, j7⟩
    rintro σ H4 ⟨⟨v3, rfl⟩, kq4, j4⟩
    exact ⟨⟨_, _, _, rfl⟩, kq4.at npq hx3, kq4.2 hT3'⟩
theorem mk_txt {K : PySem.W.Frag} {h : Heap} {mg : Str → Option Value} {C_Kind f_joined f_family_size f_total_size f_total_inside f_is_integer f_check_integer f_is_sixty_digits f_is_count f_check_number f_factors_of_two f_Kind___init__ f_check_kind f_check_value f_least f_greatest f_is_value f_wrapped f_wanted_at f_wanted_of f_is_polynomial f_check_polynomial f__value f_value_at f__one_behind f__doubled f__halves f_root_families f_roots f_root_total f__check_two f__check_range f__first_unlike f_are_alike f_first_unlike f__alike_families f__unlike_total f_unlike_total f_unlike_at cd_unlike_at P_unlike_at f__without_zeros f__divided f_normal_form f__is_form f_of_form f__law_jar f__law_sip f__law_some f__law_times f__law_polynomial f__law_joined f__law_nothing f__law_pair_right f__law_right f_law : Addr} (X : K.In h) (G : h.Ns mainGlobals mg)
    {od_joined an_joined od_family_size an_family_size od_total_size an_total_size od_total_inside an_total_inside od_is_integer an_is_integer od_check_integer an_check_integer od_is_sixty_digits an_is_sixty_digits od_is_count an_is_count od_check_number an_check_number od_factors_of_two an_factors_of_two od_Kind___init__ an_Kind___init__ od_check_kind an_check_kind od_check_value an_check_value od_least an_least od_greatest an_greatest od_is_value an_is_value od_wrapped an_wrapped od_wanted_at an_wanted_at od_wanted_of an_wanted_of od_is_polynomial an_is_polynomial od_check_polynomial an_check_polynomial od__value an__value od_value_at an_value_at od__one_behind an__one_behind od__doubled an__doubled od__halves an__halves od_root_families an_root_families od_roots an_roots od_root_total an_root_total od__check_two an__check_two od__check_range an__check_range od__first_unlike an__first_unlike od_are_alike an_are_alike od_first_unlike an_first_unlike od__alike_families an__alike_families od__unlike_total an__unlike_total od_unlike_total an_unlike_total od_unlike_at an_unlike_at o2_unlike_at od__without_zeros an__without_zeros od__divided an__divided od_normal_form an_normal_form od__is_form an__is_form od_of_form an_of_form od__law_jar an__law_jar od__law_sip an__law_sip od__law_some an__law_some od__law_times an__law_times od__law_polynomial an__law_polynomial od__law_joined an__law_joined od__law_nothing an__law_nothing od__law_pair_right an__law_pair_right od__law_right an__law_right od_law an_law : Option Addr} {sl_joined sl_family_size sl_total_size sl_total_inside sl_is_integer sl_check_integer sl_is_sixty_digits sl_is_count sl_check_number sl_factors_of_two sl_Kind___init__ sl_check_kind sl_check_value sl_least sl_greatest sl_is_value sl_wrapped sl_wanted_at sl_wanted_of sl_is_polynomial sl_check_polynomial sl__value sl_value_at sl__one_behind sl__doubled sl__halves sl_root_families sl_roots sl_root_total sl__check_two sl__check_range sl__first_unlike sl_are_alike sl_first_unlike sl__alike_families sl__unlike_total sl_unlike_total sl_unlike_at o3_unlike_at sl__without_zeros sl__divided sl_normal_form sl__is_form sl_of_form sl__law_jar sl__law_sip sl__law_some sl__law_times sl__law_polynomial sl__law_joined sl__law_nothing sl__law_pair_right sl__law_right sl_law : Array (Option Value)} {oc_joined kV_joined dc_joined pm_joined cd_joined ct_joined oc_family_size kV_family_size dc_family_size pm_family_size cd_family_size ct_family_size oc_total_size kV_total_size dc_total_size pm_total_size cd_total_size ct_total_size oc_total_inside kV_total_inside dc_total_inside pm_total_inside cd_total_inside ct_total_inside oc_is_integer kV_is_integer dc_is_integer pm_is_integer cd_is_integer ct_is_integer oc_check_integer kV_check_integer dc_check_integer pm_check_integer cd_check_integer ct_check_integer oc_is_sixty_digits kV_is_sixty_digits dc_is_sixty_digits pm_is_sixty_digits cd_is_sixty_digits ct_is_sixty_digits oc_is_count kV_is_count dc_is_count pm_is_count cd_is_count ct_is_count oc_check_number kV_check_number dc_check_number pm_check_number cd_check_number ct_check_number oc_factors_of_two kV_factors_of_two dc_factors_of_two pm_factors_of_two cd_factors_of_two ct_factors_of_two oc_Kind___init__ kV_Kind___init__ dc_Kind___init__ pm_Kind___init__ cd_Kind___init__ ct_Kind___init__ oc_check_kind kV_check_kind dc_check_kind pm_check_kind cd_check_kind ct_check_kind oc_check_value kV_check_value dc_check_value pm_check_value cd_check_value ct_check_value oc_least kV_least dc_least pm_least cd_least ct_least oc_greatest kV_greatest dc_greatest pm_greatest cd_greatest ct_greatest oc_is_value kV_is_value dc_is_value pm_is_value cd_is_value ct_is_value oc_wrapped kV_wrapped dc_wrapped pm_wrapped cd_wrapped ct_wrapped oc_wanted_at kV_wanted_at dc_wanted_at pm_wanted_at cd_wanted_at ct_wanted_at oc_wanted_of kV_wanted_of dc_wanted_of pm_wanted_of cd_wanted_of ct_wanted_of oc_is_polynomial kV_is_polynomial dc_is_polynomial pm_is_polynomial cd_is_polynomial ct_is_polynomial oc_check_polynomial kV_check_polynomial dc_check_polynomial pm_check_polynomial cd_check_polynomial ct_check_polynomial oc__value kV__value dc__value pm__value cd__value ct__value oc_value_at kV_value_at dc_value_at pm_value_at cd_value_at ct_value_at oc__one_behind kV__one_behind dc__one_behind pm__one_behind cd__one_behind ct__one_behind oc__doubled kV__doubled dc__doubled pm__doubled cd__doubled ct__doubled oc__halves kV__halves dc__halves pm__halves cd__halves ct__halves oc_root_families kV_root_families dc_root_families pm_root_families cd_root_families ct_root_families oc_roots kV_roots dc_roots pm_roots cd_roots ct_roots oc_root_total kV_root_total dc_root_total pm_root_total cd_root_total ct_root_total oc__check_two kV__check_two dc__check_two pm__check_two cd__check_two ct__check_two oc__check_range kV__check_range dc__check_range pm__check_range cd__check_range ct__check_range oc__first_unlike kV__first_unlike dc__first_unlike pm__first_unlike cd__first_unlike ct__first_unlike oc_are_alike kV_are_alike dc_are_alike pm_are_alike cd_are_alike ct_are_alike oc_first_unlike kV_first_unlike dc_first_unlike pm_first_unlike cd_first_unlike ct_first_unlike oc__alike_families kV__alike_families dc__alike_families pm__alike_families cd__alike_families ct__alike_families oc__unlike_total kV__unlike_total dc__unlike_total pm__unlike_total cd__unlike_total ct__unlike_total oc_unlike_total kV_unlike_total dc_unlike_total pm_unlike_total cd_unlike_total ct_unlike_total oc_unlike_at kV_unlike_at dc_unlike_at pm_unlike_at ct_unlike_at o1_unlike_at oc__without_zeros kV__without_zeros dc__without_zeros pm__without_zeros cd__without_zeros ct__without_zeros oc__divided kV__divided dc__divided pm__divided cd__divided ct__divided oc_normal_form kV_normal_form dc_normal_form pm_normal_form cd_normal_form ct_normal_form oc__is_form kV__is_form dc__is_form pm__is_form cd__is_form ct__is_form oc_of_form kV_of_form dc_of_form pm_of_form cd_of_form ct_of_form oc__law_jar kV__law_jar dc__law_jar pm__law_jar cd__law_jar ct__law_jar oc__law_sip kV__law_sip dc__law_sip pm__law_sip cd__law_sip ct__law_sip oc__law_some kV__law_some dc__law_some pm__law_some cd__law_some ct__law_some oc__law_times kV__law_times dc__law_times pm__law_times cd__law_times ct__law_times oc__law_polynomial kV__law_polynomial dc__law_polynomial pm__law_polynomial cd__law_polynomial ct__law_polynomial oc__law_joined kV__law_joined dc__law_joined pm__law_joined cd__law_joined ct__law_joined oc__law_nothing kV__law_nothing dc__law_nothing pm__law_nothing cd__law_nothing ct__law_nothing oc__law_pair_right kV__law_pair_right dc__law_pair_right pm__law_pair_right cd__law_pair_right ct__law_pair_right oc__law_right kV__law_right dc__law_right pm__law_right cd__law_right ct__law_right oc_law kV_law dc_law pm_law cd_law ct_law : Value} {t_BEYOND_SIXTY_DIGITS t_MOST_BITS t_MOST_COEFFICIENTS : Tok} {vs_unlike_at : Array Value}
    (aC_Kind : PySem.W.nsIn K mainGlobals "Kind" = some (some (.ref C_Kind)))
    (a_Kind___init__ : PySem.W.findIn K (.ref C_Kind) "__init__" = some (some (.ref f_Kind___init__)))
    (i_Kind___init__ : PySem.W.isFn K (.ref f_Kind___init__) = true)
    (pg_Kind : PySem.W.plainGet K C_Kind Str.empty = true)
    (hd_Kind : PySem.W.hasDictIn K C_Kind = true)
    (po_Kind : PySem.W.plainOver K C_Kind = true)
    (sa_Kind : PySem.W.findIn K (.ref C_Kind) "__setattr__" = some (some (.builtin "object.__setattr__")))
    (mkk_Kind : PySem.W.makesIn K C_Kind = true)
    (kc_Kind : PySem.W.keepIn K (.ref C_Kind) = true)
    (na_Kind_bits : PySem.W.findIn K (.ref C_Kind) "bits" = some none)
    (na_Kind_is_signed : PySem.W.findIn K (.ref C_Kind) "is_signed" = some none)
    (ia_Kind : PySem.W.findIn K (.ref C_Kind) "__class__" = some (some (.builtin "object.__class__")))
    (ib_Kind : PySem.W.specialIn K (.builtin "object.__class__") "__get__" = some (some (.builtin "getset_descriptor.__get__")))
    (ic_Kind : PySem.W.takesIn K (.builtin "object.__class__") = some true)
    (id_Kind : PySem.W.mroIn K C_Kind (.type "object") = some true)
    (a_joined : PySem.W.nsIn K mainGlobals "joined" = some (some (.ref f_joined)))
    (l_joined : K.lookup f_joined = some ⟨oc_joined, od_joined, .func (PySem.W.fnOf "joined" "joined" (defArgs s_joined) (defBody s_joined) (defScope s_joined) .none kV_joined dc_joined pm_joined an_joined cd_joined ct_joined), sl_joined⟩)
    (c_joined : PySem.W.codeIn K cd_joined "joined" = true)
    (k_joined : PySem.W.keepIn K (.ref f_joined) = true)
    (a_family_size : PySem.W.nsIn K mainGlobals "family_size" = some (some (.ref f_family_size)))
    (l_family_size : K.lookup f_family_size = some ⟨oc_family_size, od_family_size, .func (PySem.W.fnOf "family_size" "family_size" (defArgs s_family_size) (defBody s_family_size) (defScope s_family_size) .none kV_family_size dc_family_size pm_family_size an_family_size cd_family_size ct_family_size), sl_family_size⟩)
    (c_family_size : PySem.W.codeIn K cd_family_size "family_size" = true)
    (k_family_size : PySem.W.keepIn K (.ref f_family_size) = true)
    (a_total_size : PySem.W.nsIn K mainGlobals "total_size" = some (some (.ref f_total_size)))
    (l_total_size : K.lookup f_total_size = some ⟨oc_total_size, od_total_size, .func (PySem.W.fnOf "total_size" "total_size" (defArgs s_total_size) (defBody s_total_size) (defScope s_total_size) .none kV_total_size dc_total_size pm_total_size an_total_size cd_total_size ct_total_size), sl_total_size⟩)
    (c_total_size : PySem.W.codeIn K cd_total_size "total_size" = true)
    (k_total_size : PySem.W.keepIn K (.ref f_total_size) = true)
    (a_total_inside : PySem.W.nsIn K mainGlobals "total_inside" = some (some (.ref f_total_inside)))
    (l_total_inside : K.lookup f_total_inside = some ⟨oc_total_inside, od_total_inside, .func (PySem.W.fnOf "total_inside" "total_inside" (defArgs s_total_inside) (defBody s_total_inside) (defScope s_total_inside) .none kV_total_inside dc_total_inside pm_total_inside an_total_inside cd_total_inside ct_total_inside), sl_total_inside⟩)
    (c_total_inside : PySem.W.codeIn K cd_total_inside "total_inside" = true)
    (k_total_inside : PySem.W.keepIn K (.ref f_total_inside) = true)
    (a_is_integer : PySem.W.nsIn K mainGlobals "is_integer" = some (some (.ref f_is_integer)))
    (l_is_integer : K.lookup f_is_integer = some ⟨oc_is_integer, od_is_integer, .func (PySem.W.fnOf "is_integer" "is_integer" (defArgs s_is_integer) (defBody s_is_integer) (defScope s_is_integer) .none kV_is_integer dc_is_integer pm_is_integer an_is_integer cd_is_integer ct_is_integer), sl_is_integer⟩)
    (c_is_integer : PySem.W.codeIn K cd_is_integer "is_integer" = true)
    (k_is_integer : PySem.W.keepIn K (.ref f_is_integer) = true)
    (a_check_integer : PySem.W.nsIn K mainGlobals "check_integer" = some (some (.ref f_check_integer)))
    (l_check_integer : K.lookup f_check_integer = some ⟨oc_check_integer, od_check_integer, .func (PySem.W.fnOf "check_integer" "check_integer" (defArgs s_check_integer) (defBody s_check_integer) (defScope s_check_integer) .none kV_check_integer dc_check_integer pm_check_integer an_check_integer cd_check_integer ct_check_integer), sl_check_integer⟩)
    (c_check_integer : PySem.W.codeIn K cd_check_integer "check_integer" = true)
    (k_check_integer : PySem.W.keepIn K (.ref f_check_integer) = true)
    (a_is_sixty_digits : PySem.W.nsIn K mainGlobals "is_sixty_digits" = some (some (.ref f_is_sixty_digits)))
    (l_is_sixty_digits : K.lookup f_is_sixty_digits = some ⟨oc_is_sixty_digits, od_is_sixty_digits, .func (PySem.W.fnOf "is_sixty_digits" "is_sixty_digits" (defArgs s_is_sixty_digits) (defBody s_is_sixty_digits) (defScope s_is_sixty_digits) .none kV_is_sixty_digits dc_is_sixty_digits pm_is_sixty_digits an_is_sixty_digits cd_is_sixty_digits ct_is_sixty_digits), sl_is_sixty_digits⟩)
    (c_is_sixty_digits : PySem.W.codeIn K cd_is_sixty_digits "is_sixty_digits" = true)
    (k_is_sixty_digits : PySem.W.keepIn K (.ref f_is_sixty_digits) = true)
    (a_is_count : PySem.W.nsIn K mainGlobals "is_count" = some (some (.ref f_is_count)))
    (l_is_count : K.lookup f_is_count = some ⟨oc_is_count, od_is_count, .func (PySem.W.fnOf "is_count" "is_count" (defArgs s_is_count) (defBody s_is_count) (defScope s_is_count) .none kV_is_count dc_is_count pm_is_count an_is_count cd_is_count ct_is_count), sl_is_count⟩)
    (c_is_count : PySem.W.codeIn K cd_is_count "is_count" = true)
    (k_is_count : PySem.W.keepIn K (.ref f_is_count) = true)
    (a_check_number : PySem.W.nsIn K mainGlobals "check_number" = some (some (.ref f_check_number)))
    (l_check_number : K.lookup f_check_number = some ⟨oc_check_number, od_check_number, .func (PySem.W.fnOf "check_number" "check_number" (defArgs s_check_number) (defBody s_check_number) (defScope s_check_number) .none kV_check_number dc_check_number pm_check_number an_check_number cd_check_number ct_check_number), sl_check_number⟩)
    (c_check_number : PySem.W.codeIn K cd_check_number "check_number" = true)
    (k_check_number : PySem.W.keepIn K (.ref f_check_number) = true)
    (a_factors_of_two : PySem.W.nsIn K mainGlobals "factors_of_two" = some (some (.ref f_factors_of_two)))
    (l_factors_of_two : K.lookup f_factors_of_two = some ⟨oc_factors_of_two, od_factors_of_two, .func (PySem.W.fnOf "factors_of_two" "factors_of_two" (defArgs s_factors_of_two) (defBody s_factors_of_two) (defScope s_factors_of_two) .none kV_factors_of_two dc_factors_of_two pm_factors_of_two an_factors_of_two cd_factors_of_two ct_factors_of_two), sl_factors_of_two⟩)
    (c_factors_of_two : PySem.W.codeIn K cd_factors_of_two "factors_of_two" = true)
    (k_factors_of_two : PySem.W.keepIn K (.ref f_factors_of_two) = true)
    (l_Kind___init__ : K.lookup f_Kind___init__ = some ⟨oc_Kind___init__, od_Kind___init__, .func (PySem.W.fnOf "__init__" "Kind.__init__" (defArgs s_Kind___init__) (defBody s_Kind___init__) (defScope s_Kind___init__) .none kV_Kind___init__ dc_Kind___init__ pm_Kind___init__ an_Kind___init__ cd_Kind___init__ ct_Kind___init__), sl_Kind___init__⟩)
    (c_Kind___init__ : PySem.W.codeIn K cd_Kind___init__ "Kind.__init__" = true)
    (k_Kind___init__ : PySem.W.keepIn K (.ref f_Kind___init__) = true)
    (a_check_kind : PySem.W.nsIn K mainGlobals "check_kind" = some (some (.ref f_check_kind)))
    (l_check_kind : K.lookup f_check_kind = some ⟨oc_check_kind, od_check_kind, .func (PySem.W.fnOf "check_kind" "check_kind" (defArgs s_check_kind) (defBody s_check_kind) (defScope s_check_kind) .none kV_check_kind dc_check_kind pm_check_kind an_check_kind cd_check_kind ct_check_kind), sl_check_kind⟩)
    (c_check_kind : PySem.W.codeIn K cd_check_kind "check_kind" = true)
    (k_check_kind : PySem.W.keepIn K (.ref f_check_kind) = true)
    (a_check_value : PySem.W.nsIn K mainGlobals "check_value" = some (some (.ref f_check_value)))
    (l_check_value : K.lookup f_check_value = some ⟨oc_check_value, od_check_value, .func (PySem.W.fnOf "check_value" "check_value" (defArgs s_check_value) (defBody s_check_value) (defScope s_check_value) .none kV_check_value dc_check_value pm_check_value an_check_value cd_check_value ct_check_value), sl_check_value⟩)
    (c_check_value : PySem.W.codeIn K cd_check_value "check_value" = true)
    (k_check_value : PySem.W.keepIn K (.ref f_check_value) = true)
    (a_least : PySem.W.nsIn K mainGlobals "least" = some (some (.ref f_least)))
    (l_least : K.lookup f_least = some ⟨oc_least, od_least, .func (PySem.W.fnOf "least" "least" (defArgs s_least) (defBody s_least) (defScope s_least) .none kV_least dc_least pm_least an_least cd_least ct_least), sl_least⟩)
    (c_least : PySem.W.codeIn K cd_least "least" = true)
    (k_least : PySem.W.keepIn K (.ref f_least) = true)
    (a_greatest : PySem.W.nsIn K mainGlobals "greatest" = some (some (.ref f_greatest)))
    (l_greatest : K.lookup f_greatest = some ⟨oc_greatest, od_greatest, .func (PySem.W.fnOf "greatest" "greatest" (defArgs s_greatest) (defBody s_greatest) (defScope s_greatest) .none kV_greatest dc_greatest pm_greatest an_greatest cd_greatest ct_greatest), sl_greatest⟩)
    (c_greatest : PySem.W.codeIn K cd_greatest "greatest" = true)
    (k_greatest : PySem.W.keepIn K (.ref f_greatest) = true)
    (a_is_value : PySem.W.nsIn K mainGlobals "is_value" = some (some (.ref f_is_value)))
    (l_is_value : K.lookup f_is_value = some ⟨oc_is_value, od_is_value, .func (PySem.W.fnOf "is_value" "is_value" (defArgs s_is_value) (defBody s_is_value) (defScope s_is_value) .none kV_is_value dc_is_value pm_is_value an_is_value cd_is_value ct_is_value), sl_is_value⟩)
    (c_is_value : PySem.W.codeIn K cd_is_value "is_value" = true)
    (k_is_value : PySem.W.keepIn K (.ref f_is_value) = true)
    (a_wrapped : PySem.W.nsIn K mainGlobals "wrapped" = some (some (.ref f_wrapped)))
    (l_wrapped : K.lookup f_wrapped = some ⟨oc_wrapped, od_wrapped, .func (PySem.W.fnOf "wrapped" "wrapped" (defArgs s_wrapped) (defBody s_wrapped) (defScope s_wrapped) .none kV_wrapped dc_wrapped pm_wrapped an_wrapped cd_wrapped ct_wrapped), sl_wrapped⟩)
    (c_wrapped : PySem.W.codeIn K cd_wrapped "wrapped" = true)
    (k_wrapped : PySem.W.keepIn K (.ref f_wrapped) = true)
    (a_wanted_at : PySem.W.nsIn K mainGlobals "wanted_at" = some (some (.ref f_wanted_at)))
    (l_wanted_at : K.lookup f_wanted_at = some ⟨oc_wanted_at, od_wanted_at, .func (PySem.W.fnOf "wanted_at" "wanted_at" (defArgs s_wanted_at) (defBody s_wanted_at) (defScope s_wanted_at) .none kV_wanted_at dc_wanted_at pm_wanted_at an_wanted_at cd_wanted_at ct_wanted_at), sl_wanted_at⟩)
    (c_wanted_at : PySem.W.codeIn K cd_wanted_at "wanted_at" = true)
    (k_wanted_at : PySem.W.keepIn K (.ref f_wanted_at) = true)
    (a_wanted_of : PySem.W.nsIn K mainGlobals "wanted_of" = some (some (.ref f_wanted_of)))
    (l_wanted_of : K.lookup f_wanted_of = some ⟨oc_wanted_of, od_wanted_of, .func (PySem.W.fnOf "wanted_of" "wanted_of" (defArgs s_wanted_of) (defBody s_wanted_of) (defScope s_wanted_of) .none kV_wanted_of dc_wanted_of pm_wanted_of an_wanted_of cd_wanted_of ct_wanted_of), sl_wanted_of⟩)
    (c_wanted_of : PySem.W.codeIn K cd_wanted_of "wanted_of" = true)
    (k_wanted_of : PySem.W.keepIn K (.ref f_wanted_of) = true)
    (a_is_polynomial : PySem.W.nsIn K mainGlobals "is_polynomial" = some (some (.ref f_is_polynomial)))
    (l_is_polynomial : K.lookup f_is_polynomial = some ⟨oc_is_polynomial, od_is_polynomial, .func (PySem.W.fnOf "is_polynomial" "is_polynomial" (defArgs s_is_polynomial) (defBody s_is_polynomial) (defScope s_is_polynomial) .none kV_is_polynomial dc_is_polynomial pm_is_polynomial an_is_polynomial cd_is_polynomial ct_is_polynomial), sl_is_polynomial⟩)
    (c_is_polynomial : PySem.W.codeIn K cd_is_polynomial "is_polynomial" = true)
    (k_is_polynomial : PySem.W.keepIn K (.ref f_is_polynomial) = true)
    (a_check_polynomial : PySem.W.nsIn K mainGlobals "check_polynomial" = some (some (.ref f_check_polynomial)))
    (l_check_polynomial : K.lookup f_check_polynomial = some ⟨oc_check_polynomial, od_check_polynomial, .func (PySem.W.fnOf "check_polynomial" "check_polynomial" (defArgs s_check_polynomial) (defBody s_check_polynomial) (defScope s_check_polynomial) .none kV_check_polynomial dc_check_polynomial pm_check_polynomial an_check_polynomial cd_check_polynomial ct_check_polynomial), sl_check_polynomial⟩)
    (c_check_polynomial : PySem.W.codeIn K cd_check_polynomial "check_polynomial" = true)
    (k_check_polynomial : PySem.W.keepIn K (.ref f_check_polynomial) = true)
    (a__value : PySem.W.nsIn K mainGlobals "_value" = some (some (.ref f__value)))
    (l__value : K.lookup f__value = some ⟨oc__value, od__value, .func (PySem.W.fnOf "_value" "_value" (defArgs s__value) (defBody s__value) (defScope s__value) .none kV__value dc__value pm__value an__value cd__value ct__value), sl__value⟩)
    (c__value : PySem.W.codeIn K cd__value "_value" = true)
    (k__value : PySem.W.keepIn K (.ref f__value) = true)
    (a_value_at : PySem.W.nsIn K mainGlobals "value_at" = some (some (.ref f_value_at)))
    (l_value_at : K.lookup f_value_at = some ⟨oc_value_at, od_value_at, .func (PySem.W.fnOf "value_at" "value_at" (defArgs s_value_at) (defBody s_value_at) (defScope s_value_at) .none kV_value_at dc_value_at pm_value_at an_value_at cd_value_at ct_value_at), sl_value_at⟩)
    (c_value_at : PySem.W.codeIn K cd_value_at "value_at" = true)
    (k_value_at : PySem.W.keepIn K (.ref f_value_at) = true)
    (a__one_behind : PySem.W.nsIn K mainGlobals "_one_behind" = some (some (.ref f__one_behind)))
    (l__one_behind : K.lookup f__one_behind = some ⟨oc__one_behind, od__one_behind, .func (PySem.W.fnOf "_one_behind" "_one_behind" (defArgs s__one_behind) (defBody s__one_behind) (defScope s__one_behind) .none kV__one_behind dc__one_behind pm__one_behind an__one_behind cd__one_behind ct__one_behind), sl__one_behind⟩)
    (c__one_behind : PySem.W.codeIn K cd__one_behind "_one_behind" = true)
    (k__one_behind : PySem.W.keepIn K (.ref f__one_behind) = true)
    (a__doubled : PySem.W.nsIn K mainGlobals "_doubled" = some (some (.ref f__doubled)))
    (l__doubled : K.lookup f__doubled = some ⟨oc__doubled, od__doubled, .func (PySem.W.fnOf "_doubled" "_doubled" (defArgs s__doubled) (defBody s__doubled) (defScope s__doubled) .none kV__doubled dc__doubled pm__doubled an__doubled cd__doubled ct__doubled), sl__doubled⟩)
    (c__doubled : PySem.W.codeIn K cd__doubled "_doubled" = true)
    (k__doubled : PySem.W.keepIn K (.ref f__doubled) = true)
    (a__halves : PySem.W.nsIn K mainGlobals "_halves" = some (some (.ref f__halves)))
    (l__halves : K.lookup f__halves = some ⟨oc__halves, od__halves, .func (PySem.W.fnOf "_halves" "_halves" (defArgs s__halves) (defBody s__halves) (defScope s__halves) .none kV__halves dc__halves pm__halves an__halves cd__halves ct__halves), sl__halves⟩)
    (c__halves : PySem.W.codeIn K cd__halves "_halves" = true)
    (k__halves : PySem.W.keepIn K (.ref f__halves) = true)
    (a_root_families : PySem.W.nsIn K mainGlobals "root_families" = some (some (.ref f_root_families)))
    (l_root_families : K.lookup f_root_families = some ⟨oc_root_families, od_root_families, .func (PySem.W.fnOf "root_families" "root_families" (defArgs s_root_families) (defBody s_root_families) (defScope s_root_families) .none kV_root_families dc_root_families pm_root_families an_root_families cd_root_families ct_root_families), sl_root_families⟩)
    (c_root_families : PySem.W.codeIn K cd_root_families "root_families" = true)
    (k_root_families : PySem.W.keepIn K (.ref f_root_families) = true)
    (a_roots : PySem.W.nsIn K mainGlobals "roots" = some (some (.ref f_roots)))
    (l_roots : K.lookup f_roots = some ⟨oc_roots, od_roots, .func (PySem.W.fnOf "roots" "roots" (defArgs s_roots) (defBody s_roots) (defScope s_roots) .none kV_roots dc_roots pm_roots an_roots cd_roots ct_roots), sl_roots⟩)
    (c_roots : PySem.W.codeIn K cd_roots "roots" = true)
    (k_roots : PySem.W.keepIn K (.ref f_roots) = true)
    (a_root_total : PySem.W.nsIn K mainGlobals "root_total" = some (some (.ref f_root_total)))
    (l_root_total : K.lookup f_root_total = some ⟨oc_root_total, od_root_total, .func (PySem.W.fnOf "root_total" "root_total" (defArgs s_root_total) (defBody s_root_total) (defScope s_root_total) .none kV_root_total dc_root_total pm_root_total an_root_total cd_root_total ct_root_total), sl_root_total⟩)
    (c_root_total : PySem.W.codeIn K cd_root_total "root_total" = true)
    (k_root_total : PySem.W.keepIn K (.ref f_root_total) = true)
    (a__check_two : PySem.W.nsIn K mainGlobals "_check_two" = some (some (.ref f__check_two)))
    (l__check_two : K.lookup f__check_two = some ⟨oc__check_two, od__check_two, .func (PySem.W.fnOf "_check_two" "_check_two" (defArgs s__check_two) (defBody s__check_two) (defScope s__check_two) .none kV__check_two dc__check_two pm__check_two an__check_two cd__check_two ct__check_two), sl__check_two⟩)
    (c__check_two : PySem.W.codeIn K cd__check_two "_check_two" = true)
    (k__check_two : PySem.W.keepIn K (.ref f__check_two) = true)
    (a__check_range : PySem.W.nsIn K mainGlobals "_check_range" = some (some (.ref f__check_range)))
    (l__check_range : K.lookup f__check_range = some ⟨oc__check_range, od__check_range, .func (PySem.W.fnOf "_check_range" "_check_range" (defArgs s__check_range) (defBody s__check_range) (defScope s__check_range) .none kV__check_range dc__check_range pm__check_range an__check_range cd__check_range ct__check_range), sl__check_range⟩)
    (c__check_range : PySem.W.codeIn K cd__check_range "_check_range" = true)
    (k__check_range : PySem.W.keepIn K (.ref f__check_range) = true)
    (a__first_unlike : PySem.W.nsIn K mainGlobals "_first_unlike" = some (some (.ref f__first_unlike)))
    (l__first_unlike : K.lookup f__first_unlike = some ⟨oc__first_unlike, od__first_unlike, .func (PySem.W.fnOf "_first_unlike" "_first_unlike" (defArgs s__first_unlike) (defBody s__first_unlike) (defScope s__first_unlike) .none kV__first_unlike dc__first_unlike pm__first_unlike an__first_unlike cd__first_unlike ct__first_unlike), sl__first_unlike⟩)
    (c__first_unlike : PySem.W.codeIn K cd__first_unlike "_first_unlike" = true)
    (k__first_unlike : PySem.W.keepIn K (.ref f__first_unlike) = true)
    (a_are_alike : PySem.W.nsIn K mainGlobals "are_alike" = some (some (.ref f_are_alike)))
    (l_are_alike : K.lookup f_are_alike = some ⟨oc_are_alike, od_are_alike, .func (PySem.W.fnOf "are_alike" "are_alike" (defArgs s_are_alike) (defBody s_are_alike) (defScope s_are_alike) .none kV_are_alike dc_are_alike pm_are_alike an_are_alike cd_are_alike ct_are_alike), sl_are_alike⟩)
    (c_are_alike : PySem.W.codeIn K cd_are_alike "are_alike" = true)
    (k_are_alike : PySem.W.keepIn K (.ref f_are_alike) = true)
    (a_first_unlike : PySem.W.nsIn K mainGlobals "first_unlike" = some (some (.ref f_first_unlike)))
    (l_first_unlike : K.lookup f_first_unlike = some ⟨oc_first_unlike, od_first_unlike, .func (PySem.W.fnOf "first_unlike" "first_unlike" (defArgs s_first_unlike) (defBody s_first_unlike) (defScope s_first_unlike) .none kV_first_unlike dc_first_unlike pm_first_unlike an_first_unlike cd_first_unlike ct_first_unlike), sl_first_unlike⟩)
    (c_first_unlike : PySem.W.codeIn K cd_first_unlike "first_unlike" = true)
    (k_first_unlike : PySem.W.keepIn K (.ref f_first_unlike) = true)
    (a__alike_families : PySem.W.nsIn K mainGlobals "_alike_families" = some (some (.ref f__alike_families)))
    (l__alike_families : K.lookup f__alike_families = some ⟨oc__alike_families, od__alike_families, .func (PySem.W.fnOf "_alike_families" "_alike_families" (defArgs s__alike_families) (defBody s__alike_families) (defScope s__alike_families) .none kV__alike_families dc__alike_families pm__alike_families an__alike_families cd__alike_families ct__alike_families), sl__alike_families⟩)
    (c__alike_families : PySem.W.codeIn K cd__alike_families "_alike_families" = true)
    (k__alike_families : PySem.W.keepIn K (.ref f__alike_families) = true)
    (a__unlike_total : PySem.W.nsIn K mainGlobals "_unlike_total" = some (some (.ref f__unlike_total)))
    (l__unlike_total : K.lookup f__unlike_total = some ⟨oc__unlike_total, od__unlike_total, .func (PySem.W.fnOf "_unlike_total" "_unlike_total" (defArgs s__unlike_total) (defBody s__unlike_total) (defScope s__unlike_total) .none kV__unlike_total dc__unlike_total pm__unlike_total an__unlike_total cd__unlike_total ct__unlike_total), sl__unlike_total⟩)
    (c__unlike_total : PySem.W.codeIn K cd__unlike_total "_unlike_total" = true)
    (k__unlike_total : PySem.W.keepIn K (.ref f__unlike_total) = true)
    (a_unlike_total : PySem.W.nsIn K mainGlobals "unlike_total" = some (some (.ref f_unlike_total)))
    (l_unlike_total : K.lookup f_unlike_total = some ⟨oc_unlike_total, od_unlike_total, .func (PySem.W.fnOf "unlike_total" "unlike_total" (defArgs s_unlike_total) (defBody s_unlike_total) (defScope s_unlike_total) .none kV_unlike_total dc_unlike_total pm_unlike_total an_unlike_total cd_unlike_total ct_unlike_total), sl_unlike_total⟩)
    (c_unlike_total : PySem.W.codeIn K cd_unlike_total "unlike_total" = true)
    (k_unlike_total : PySem.W.keepIn K (.ref f_unlike_total) = true)
    (a_unlike_at : PySem.W.nsIn K mainGlobals "unlike_at" = some (some (.ref f_unlike_at)))
    (l_unlike_at : K.lookup f_unlike_at = some ⟨oc_unlike_at, od_unlike_at, .func (PySem.W.fnOf "unlike_at" "unlike_at" (defArgs s_unlike_at) (defBody s_unlike_at) (defScope s_unlike_at) .none kV_unlike_at dc_unlike_at pm_unlike_at an_unlike_at (.ref cd_unlike_at) ct_unlike_at), sl_unlike_at⟩)
    (c_unlike_at : PySem.W.codeIn K (.ref cd_unlike_at) "unlike_at" = true)
    (lc_unlike_at : K.lookup cd_unlike_at = some ⟨o1_unlike_at, o2_unlike_at, .fields vs_unlike_at, o3_unlike_at⟩)
    (hv_unlike_at : vs_unlike_at[11]? = some (.ref P_unlike_at))
    (k_unlike_at : PySem.W.keepIn K (.ref f_unlike_at) = true)
    (a__without_zeros : PySem.W.nsIn K mainGlobals "_without_zeros" = some (some (.ref f__without_zeros)))
    (l__without_zeros : K.lookup f__without_zeros = some ⟨oc__without_zeros, od__without_zeros, .func (PySem.W.fnOf "_without_zeros" "_without_zeros" (defArgs s__without_zeros) (defBody s__without_zeros) (defScope s__without_zeros) .none kV__without_zeros dc__without_zeros pm__without_zeros an__without_zeros cd__without_zeros ct__without_zeros), sl__without_zeros⟩)
    (c__without_zeros : PySem.W.codeIn K cd__without_zeros "_without_zeros" = true)
    (k__without_zeros : PySem.W.keepIn K (.ref f__without_zeros) = true)
    (a__divided : PySem.W.nsIn K mainGlobals "_divided" = some (some (.ref f__divided)))
    (l__divided : K.lookup f__divided = some ⟨oc__divided, od__divided, .func (PySem.W.fnOf "_divided" "_divided" (defArgs s__divided) (defBody s__divided) (defScope s__divided) .none kV__divided dc__divided pm__divided an__divided cd__divided ct__divided), sl__divided⟩)
    (c__divided : PySem.W.codeIn K cd__divided "_divided" = true)
    (k__divided : PySem.W.keepIn K (.ref f__divided) = true)
    (a_normal_form : PySem.W.nsIn K mainGlobals "normal_form" = some (some (.ref f_normal_form)))
    (l_normal_form : K.lookup f_normal_form = some ⟨oc_normal_form, od_normal_form, .func (PySem.W.fnOf "normal_form" "normal_form" (defArgs s_normal_form) (defBody s_normal_form) (defScope s_normal_form) .none kV_normal_form dc_normal_form pm_normal_form an_normal_form cd_normal_form ct_normal_form), sl_normal_form⟩)
    (c_normal_form : PySem.W.codeIn K cd_normal_form "normal_form" = true)
    (k_normal_form : PySem.W.keepIn K (.ref f_normal_form) = true)
    (a__is_form : PySem.W.nsIn K mainGlobals "_is_form" = some (some (.ref f__is_form)))
    (l__is_form : K.lookup f__is_form = some ⟨oc__is_form, od__is_form, .func (PySem.W.fnOf "_is_form" "_is_form" (defArgs s__is_form) (defBody s__is_form) (defScope s__is_form) .none kV__is_form dc__is_form pm__is_form an__is_form cd__is_form ct__is_form), sl__is_form⟩)
    (c__is_form : PySem.W.codeIn K cd__is_form "_is_form" = true)
    (k__is_form : PySem.W.keepIn K (.ref f__is_form) = true)
    (a_of_form : PySem.W.nsIn K mainGlobals "of_form" = some (some (.ref f_of_form)))
    (l_of_form : K.lookup f_of_form = some ⟨oc_of_form, od_of_form, .func (PySem.W.fnOf "of_form" "of_form" (defArgs s_of_form) (defBody s_of_form) (defScope s_of_form) .none kV_of_form dc_of_form pm_of_form an_of_form cd_of_form ct_of_form), sl_of_form⟩)
    (c_of_form : PySem.W.codeIn K cd_of_form "of_form" = true)
    (k_of_form : PySem.W.keepIn K (.ref f_of_form) = true)
    (a__law_jar : PySem.W.nsIn K mainGlobals "_law_jar" = some (some (.ref f__law_jar)))
    (l__law_jar : K.lookup f__law_jar = some ⟨oc__law_jar, od__law_jar, .func (PySem.W.fnOf "_law_jar" "_law_jar" (defArgs s__law_jar) (defBody s__law_jar) (defScope s__law_jar) .none kV__law_jar dc__law_jar pm__law_jar an__law_jar cd__law_jar ct__law_jar), sl__law_jar⟩)
    (c__law_jar : PySem.W.codeIn K cd__law_jar "_law_jar" = true)
    (k__law_jar : PySem.W.keepIn K (.ref f__law_jar) = true)
    (a__law_sip : PySem.W.nsIn K mainGlobals "_law_sip" = some (some (.ref f__law_sip)))
    (l__law_sip : K.lookup f__law_sip = some ⟨oc__law_sip, od__law_sip, .func (PySem.W.fnOf "_law_sip" "_law_sip" (defArgs s__law_sip) (defBody s__law_sip) (defScope s__law_sip) .none kV__law_sip dc__law_sip pm__law_sip an__law_sip cd__law_sip ct__law_sip), sl__law_sip⟩)
    (c__law_sip : PySem.W.codeIn K cd__law_sip "_law_sip" = true)
    (k__law_sip : PySem.W.keepIn K (.ref f__law_sip) = true)
    (a__law_some : PySem.W.nsIn K mainGlobals "_law_some" = some (some (.ref f__law_some)))
    (l__law_some : K.lookup f__law_some = some ⟨oc__law_some, od__law_some, .func (PySem.W.fnOf "_law_some" "_law_some" (defArgs s__law_some) (defBody s__law_some) (defScope s__law_some) .none kV__law_some dc__law_some pm__law_some an__law_some cd__law_some ct__law_some), sl__law_some⟩)
    (c__law_some : PySem.W.codeIn K cd__law_some "_law_some" = true)
    (k__law_some : PySem.W.keepIn K (.ref f__law_some) = true)
    (a__law_times : PySem.W.nsIn K mainGlobals "_law_times" = some (some (.ref f__law_times)))
    (l__law_times : K.lookup f__law_times = some ⟨oc__law_times, od__law_times, .func (PySem.W.fnOf "_law_times" "_law_times" (defArgs s__law_times) (defBody s__law_times) (defScope s__law_times) .none kV__law_times dc__law_times pm__law_times an__law_times cd__law_times ct__law_times), sl__law_times⟩)
    (c__law_times : PySem.W.codeIn K cd__law_times "_law_times" = true)
    (k__law_times : PySem.W.keepIn K (.ref f__law_times) = true)
    (a__law_polynomial : PySem.W.nsIn K mainGlobals "_law_polynomial" = some (some (.ref f__law_polynomial)))
    (l__law_polynomial : K.lookup f__law_polynomial = some ⟨oc__law_polynomial, od__law_polynomial, .func (PySem.W.fnOf "_law_polynomial" "_law_polynomial" (defArgs s__law_polynomial) (defBody s__law_polynomial) (defScope s__law_polynomial) .none kV__law_polynomial dc__law_polynomial pm__law_polynomial an__law_polynomial cd__law_polynomial ct__law_polynomial), sl__law_polynomial⟩)
    (c__law_polynomial : PySem.W.codeIn K cd__law_polynomial "_law_polynomial" = true)
    (k__law_polynomial : PySem.W.keepIn K (.ref f__law_polynomial) = true)
    (a__law_joined : PySem.W.nsIn K mainGlobals "_law_joined" = some (some (.ref f__law_joined)))
    (l__law_joined : K.lookup f__law_joined = some ⟨oc__law_joined, od__law_joined, .func (PySem.W.fnOf "_law_joined" "_law_joined" (defArgs s__law_joined) (defBody s__law_joined) (defScope s__law_joined) .none kV__law_joined dc__law_joined pm__law_joined an__law_joined cd__law_joined ct__law_joined), sl__law_joined⟩)
    (c__law_joined : PySem.W.codeIn K cd__law_joined "_law_joined" = true)
    (k__law_joined : PySem.W.keepIn K (.ref f__law_joined) = true)
    (a__law_nothing : PySem.W.nsIn K mainGlobals "_law_nothing" = some (some (.ref f__law_nothing)))
    (l__law_nothing : K.lookup f__law_nothing = some ⟨oc__law_nothing, od__law_nothing, .func (PySem.W.fnOf "_law_nothing" "_law_nothing" (defArgs s__law_nothing) (defBody s__law_nothing) (defScope s__law_nothing) .none kV__law_nothing dc__law_nothing pm__law_nothing an__law_nothing cd__law_nothing ct__law_nothing), sl__law_nothing⟩)
    (c__law_nothing : PySem.W.codeIn K cd__law_nothing "_law_nothing" = true)
    (k__law_nothing : PySem.W.keepIn K (.ref f__law_nothing) = true)
    (a__law_pair_right : PySem.W.nsIn K mainGlobals "_law_pair_right" = some (some (.ref f__law_pair_right)))
    (l__law_pair_right : K.lookup f__law_pair_right = some ⟨oc__law_pair_right, od__law_pair_right, .func (PySem.W.fnOf "_law_pair_right" "_law_pair_right" (defArgs s__law_pair_right) (defBody s__law_pair_right) (defScope s__law_pair_right) .none kV__law_pair_right dc__law_pair_right pm__law_pair_right an__law_pair_right cd__law_pair_right ct__law_pair_right), sl__law_pair_right⟩)
    (c__law_pair_right : PySem.W.codeIn K cd__law_pair_right "_law_pair_right" = true)
    (k__law_pair_right : PySem.W.keepIn K (.ref f__law_pair_right) = true)
    (a__law_right : PySem.W.nsIn K mainGlobals "_law_right" = some (some (.ref f__law_right)))
    (l__law_right : K.lookup f__law_right = some ⟨oc__law_right, od__law_right, .func (PySem.W.fnOf "_law_right" "_law_right" (defArgs s__law_right) (defBody s__law_right) (defScope s__law_right) .none kV__law_right dc__law_right pm__law_right an__law_right cd__law_right ct__law_right), sl__law_right⟩)
    (c__law_right : PySem.W.codeIn K cd__law_right "_law_right" = true)
    (k__law_right : PySem.W.keepIn K (.ref f__law_right) = true)
    (a_law : PySem.W.nsIn K mainGlobals "law" = some (some (.ref f_law)))
    (l_law : K.lookup f_law = some ⟨oc_law, od_law, .func (PySem.W.fnOf "law" "law" (defArgs s_law) (defBody s_law) (defScope s_law) .none kV_law dc_law pm_law an_law cd_law ct_law), sl_law⟩)
    (c_law : PySem.W.codeIn K cd_law "law" = true)
    (k_law : PySem.W.keepIn K (.ref f_law) = true)
    (v_BEYOND_SIXTY_DIGITS : PySem.W.nsIn K mainGlobals "BEYOND_SIXTY_DIGITS" = some (some (.int 1000000000000000000000000000000000000000000000000000000000000 t_BEYOND_SIXTY_DIGITS)))
    (v_MOST_BITS : PySem.W.nsIn K mainGlobals "MOST_BITS" = some (some (.int 128 t_MOST_BITS)))
    (v_MOST_COEFFICIENTS : PySem.W.nsIn K mainGlobals "MOST_COEFFICIENTS" = some (some (.int 9 t_MOST_COEFFICIENTS)))
    (z_abs : PySem.W.nsIn K mainGlobals "abs" = some none)
    (z_all : PySem.W.nsIn K mainGlobals "all" = some none)
    (z_any : PySem.W.nsIn K mainGlobals "any" = some none)
    (z_bool : PySem.W.nsIn K mainGlobals "bool" = some none)
    (z_enumerate : PySem.W.nsIn K mainGlobals "enumerate" = some none)
    (z_int : PySem.W.nsIn K mainGlobals "int" = some none)
    (z_isinstance : PySem.W.nsIn K mainGlobals "isinstance" = some none)
    (z_len : PySem.W.nsIn K mainGlobals "len" = some none)
    (z_list : PySem.W.nsIn K mainGlobals "list" = some none)
    (z_max : PySem.W.nsIn K mainGlobals "max" = some none)
    (z_min : PySem.W.nsIn K mainGlobals "min" = some none)
    (z_range : PySem.W.nsIn K mainGlobals "range" = some none)
    (z_reversed : PySem.W.nsIn K mainGlobals "reversed" = some none)
    (z_sorted : PySem.W.nsIn K mainGlobals "sorted" = some none)
    (z_sum : PySem.W.nsIn K mainGlobals "sum" = some none)
    (z_zip : PySem.W.nsIn K mainGlobals "zip" = some none)
    (v_zl : PySem.W.nsIn K mainGlobals "zip_longest" = some (some (.type "itertools.zip_longest")))
    (dist : [P_unlike_at].Nodup)
    : ∃ T : Txt K mg, TI T := by
  have F_joined := fun_mk (st := s_joined) l_joined c_joined k_joined
  have b_joined := F_joined.binds (ps := ["families", "bits"]) fun _ _ _ _ _ _ us hl => match us, hl with | [_, _], _ => rfl
  have F_family_size := fun_mk (st := s_family_size) l_family_size c_family_size k_family_size
  have b_family_size := F_family_size.binds (ps := ["family", "bits"]) fun _ _ _ _ _ _ us hl => match us, hl with | [_, _], _ => rfl
  have F_total_size := fun_mk (st := s_total_size) l_total_size c_total_size k_total_size
  have b_total_size := F_total_size.binds (ps := ["families", "bits"]) fun _ _ _ _ _ _ us hl => match us, hl with | [_, _], _ => rfl
  have F_total_inside := fun_mk (st := s_total_inside) l_total_inside c_total_inside k_total_inside
  have b_total_inside := F_total_inside.binds (ps := ["families", "first", "last"]) fun _ _ _ _ _ _ us hl => match us, hl with | [_, _, _], _ => rfl
  have F_is_integer := fun_mk (st := s_is_integer) l_is_integer c_is_integer k_is_integer
  have b_is_integer := F_is_integer.binds (ps := ["value"]) fun _ _ _ _ _ _ us hl => match us, hl with | [_], _ => rfl
  have F_check_integer := fun_mk (st := s_check_integer) l_check_integer c_check_integer k_check_integer
  have b_check_integer := F_check_integer.binds (ps := ["value", "argument"]) fun _ _ _ _ _ _ us hl => match us, hl with | [_, _], _ => rfl
  have F_is_sixty_digits := fun_mk (st := s_is_sixty_digits) l_is_sixty_digits c_is_sixty_digits k_is_sixty_digits
  have b_is_sixty_digits := F_is_sixty_digits.binds (ps := ["value"]) fun _ _ _ _ _ _ us hl => match us, hl with | [_], _ => rfl
  have F_is_count := fun_mk (st := s_is_count) l_is_count c_is_count k_is_count
  have b_is_count := F_is_count.binds (ps := ["value"]) fun _ _ _ _ _ _ us hl => match us, hl with | [_], _ => rfl
  have F_check_number := fun_mk (st := s_check_number) l_check_number c_check_number k_check_number
  have b_check_number := F_check_number.binds (ps := ["j", "total"]) fun _ _ _ _ _ _ us hl => match us, hl with | [_, _], _ => rfl
  have F_factors_of_two := fun_mk (st := s_factors_of_two) l_factors_of_two c_factors_of_two k_factors_of_two
  have b_factors_of_two := F_factors_of_two.binds (ps := ["n"]) fun _ _ _ _ _ _ us hl => match us, hl with | [_], _ => rfl
  have F_Kind___init__ := fun_mk (st := s_Kind___init__) l_Kind___init__ c_Kind___init__ k_Kind___init__
  have b_Kind___init__ := F_Kind___init__.binds (ps := ["self", "bits", "is_signed"]) fun _ _ _ _ _ _ us hl => match us, hl with | [_, _, _], _ => rfl
  have F_check_kind := fun_mk (st := s_check_kind) l_check_kind c_check_kind k_check_kind
  have b_check_kind := F_check_kind.binds (ps := ["kind"]) fun _ _ _ _ _ _ us hl => match us, hl with | [_], _ => rfl
  have F_check_value := fun_mk (st := s_check_value) l_check_value c_check_value k_check_value
  have b_check_value := F_check_value.binds (ps := ["kind", "x", "argument"]) fun _ _ _ _ _ _ us hl => match us, hl with | [_, _, _], _ => rfl
  have F_least := fun_mk (st := s_least) l_least c_least k_least
  have b_least := F_least.binds (ps := ["kind"]) fun _ _ _ _ _ _ us hl => match us, hl with | [_], _ => rfl
  have F_greatest := fun_mk (st := s_greatest) l_greatest c_greatest k_greatest
  have b_greatest := F_greatest.binds (ps := ["kind"]) fun _ _ _ _ _ _ us hl => match us, hl with | [_], _ => rfl
  have F_is_value := fun_mk (st := s_is_value) l_is_value c_is_value k_is_value
  have b_is_value := F_is_value.binds (ps := ["kind", "x"]) fun _ _ _ _ _ _ us hl => match us, hl with | [_, _], _ => rfl
  have F_wrapped := fun_mk (st := s_wrapped) l_wrapped c_wrapped k_wrapped
  have b_wrapped := F_wrapped.binds (ps := ["kind", "n"]) fun _ _ _ _ _ _ us hl => match us, hl with | [_, _], _ => rfl
  have F_wanted_at := fun_mk (st := s_wanted_at) l_wanted_at c_wanted_at k_wanted_at
  have b_wanted_at := F_wanted_at.binds (ps := ["total", "first", "last", "j"]) fun _ _ _ _ _ _ us hl => match us, hl with | [_, _, _, _], _ => rfl
  have F_wanted_of := fun_mk (st := s_wanted_of) l_wanted_of c_wanted_of k_wanted_of
  have b_wanted_of := F_wanted_of.binds (ps := ["total", "first", "last", "many", "j"]) fun _ _ _ _ _ _ us hl => match us, hl with | [_, _, _, _, _], _ => rfl
  have F_is_polynomial := fun_mk (st := s_is_polynomial) l_is_polynomial c_is_polynomial k_is_polynomial
  have b_is_polynomial := F_is_polynomial.binds (ps := ["value"]) fun _ _ _ _ _ _ us hl => match us, hl with | [_], _ => rfl
  have F_check_polynomial := fun_mk (st := s_check_polynomial) l_check_polynomial c_check_polynomial k_check_polynomial
  have b_check_polynomial := F_check_polynomial.binds (ps := ["kind", "polynomial"]) fun _ _ _ _ _ _ us hl => match us, hl with | [_, _], _ => rfl
  have F__value := fun_mk (st := s__value) l__value c__value k__value
  have b__value := F__value.binds (ps := ["polynomial", "x", "size"]) fun _ _ _ _ _ _ us hl => match us, hl with | [_, _, _], _ => rfl
  have F_value_at := fun_mk (st := s_value_at) l_value_at c_value_at k_value_at
  have b_value_at := F_value_at.binds (ps := ["kind", "polynomial", "x"]) fun _ _ _ _ _ _ us hl => match us, hl with | [_, _, _], _ => rfl
  have F__one_behind := fun_mk (st := s__one_behind) l__one_behind c__one_behind k__one_behind
  have b__one_behind := F__one_behind.binds (ps := ["polynomial"]) fun _ _ _ _ _ _ us hl => match us, hl with | [_], _ => rfl
  have F__doubled := fun_mk (st := s__doubled) l__doubled c__doubled k__doubled
  have b__doubled := F__doubled.binds (ps := ["polynomial"]) fun _ _ _ _ _ _ us hl => match us, hl with | [_], _ => rfl
  have F__halves := fun_mk (st := s__halves) l__halves c__halves k__halves
  have b__halves := F__halves.binds (ps := ["node"]) fun _ _ _ _ _ _ us hl => match us, hl with | [_], _ => rfl
  have F_root_families := fun_mk (st := s_root_families) l_root_families c_root_families k_root_families
  have b_root_families := F_root_families.binds (ps := ["polynomial", "bits"]) fun _ _ _ _ _ _ us hl => match us, hl with | [_, _], _ => rfl
  have F_roots := fun_mk (st := s_roots) l_roots c_roots k_roots
  have b_roots := F_roots.binds (ps := ["kind", "polynomial"]) fun _ _ _ _ _ _ us hl => match us, hl with | [_, _], _ => rfl
  have F_root_total := fun_mk (st := s_root_total) l_root_total c_root_total k_root_total
  have b_root_total := F_root_total.binds (ps := ["kind", "polynomial"]) fun _ _ _ _ _ _ us hl => match us, hl with | [_, _], _ => rfl
  have F__check_two := fun_mk (st := s__check_two) l__check_two c__check_two k__check_two
  have b__check_two := F__check_two.binds (ps := ["kind", "one", "other"]) fun _ _ _ _ _ _ us hl => match us, hl with | [_, _, _], _ => rfl
  have F__check_range := fun_mk (st := s__check_range) l__check_range c__check_range k__check_range
  have b__check_range := F__check_range.binds (ps := ["kind", "one", "other", "first", "last"]) fun _ _ _ _ _ _ us hl => match us, hl with | [_, _, _, _, _], _ => rfl
  have F__first_unlike := fun_mk (st := s__first_unlike) l__first_unlike c__first_unlike k__first_unlike
  have b__first_unlike := F__first_unlike.binds (ps := ["kind", "one", "other"]) fun _ _ _ _ _ _ us hl => match us, hl with | [_, _, _], _ => rfl
  have F_are_alike := fun_mk (st := s_are_alike) l_are_alike c_are_alike k_are_alike
  have b_are_alike := F_are_alike.binds (ps := ["kind", "one", "other"]) fun _ _ _ _ _ _ us hl => match us, hl with | [_, _, _], _ => rfl
  have F_first_unlike := fun_mk (st := s_first_unlike) l_first_unlike c_first_unlike k_first_unlike
  have b_first_unlike := F_first_unlike.binds (ps := ["kind", "one", "other"]) fun _ _ _ _ _ _ us hl => match us, hl with | [_, _, _], _ => rfl
  have F__alike_families := fun_mk (st := s__alike_families) l__alike_families c__alike_families k__alike_families
  have b__alike_families := F__alike_families.binds (ps := ["kind", "one", "other"]) fun _ _ _ _ _ _ us hl => match us, hl with | [_, _, _], _ => rfl
  have F__unlike_total := fun_mk (st := s__unlike_total) l__unlike_total c__unlike_total k__unlike_total
  have b__unlike_total := F__unlike_total.binds (ps := ["families", "first", "last"]) fun _ _ _ _ _ _ us hl => match us, hl with | [_, _, _], _ => rfl
  have F_unlike_total := fun_mk (st := s_unlike_total) l_unlike_total c_unlike_total k_unlike_total
  have b_unlike_total := F_unlike_total.binds (ps := ["kind", "one", "other", "first", "last"]) fun _ _ _ _ _ _ us hl => match us, hl with | [_, _, _, _, _], _ => rfl
  have F_unlike_at := funT_mk (st := s_unlike_at) l_unlike_at c_unlike_at
  have b_unlike_at := (F_unlike_at.toFun k_unlike_at).binds (ps := ["kind", "one", "other", "first", "last", "j"]) fun _ _ _ _ _ _ us hl => match us, hl with | [_, _, _, _, _, _], _ => rfl
  have F__without_zeros := fun_mk (st := s__without_zeros) l__without_zeros c__without_zeros k__without_zeros
  have b__without_zeros := F__without_zeros.binds (ps := ["numbers"]) fun _ _ _ _ _ _ us hl => match us, hl with | [_], _ => rfl
  have F__divided := fun_mk (st := s__divided) l__divided c__divided k__divided
  have b__divided := F__divided.binds (ps := ["polynomial", "k"]) fun _ _ _ _ _ _ us hl => match us, hl with | [_, _], _ => rfl
  have F_normal_form := fun_mk (st := s_normal_form) l_normal_form c_normal_form k_normal_form
  have b_normal_form := F_normal_form.binds (ps := ["kind", "polynomial"]) fun _ _ _ _ _ _ us hl => match us, hl with | [_, _], _ => rfl
  have F__is_form := fun_mk (st := s__is_form) l__is_form c__is_form k__is_form
  have b__is_form := F__is_form.binds (ps := ["value"]) fun _ _ _ _ _ _ us hl => match us, hl with | [_], _ => rfl
  have F_of_form := fun_mk (st := s_of_form) l_of_form c_of_form k_of_form
  have b_of_form := F_of_form.binds (ps := ["form"]) fun _ _ _ _ _ _ us hl => match us, hl with | [_], _ => rfl
  have F__law_jar := fun_mk (st := s__law_jar) l__law_jar c__law_jar k__law_jar
  have b__law_jar := F__law_jar.binds (ps := ["_law_cell"]) fun _ _ _ _ _ _ us hl => match us, hl with | [_], _ => rfl
  have F__law_sip := fun_mk (st := s__law_sip) l__law_sip c__law_sip k__law_sip
  have b__law_sip := F__law_sip.binds (ps := ["_law_jar_here", "_law_many"]) fun _ _ _ _ _ _ us hl => match us, hl with | [_, _], _ => rfl
  have F__law_some := fun_mk (st := s__law_some) l__law_some c__law_some k__law_some
  have b__law_some := F__law_some.binds (ps := ["_law_jar_here", "_law_row"]) fun _ _ _ _ _ _ us hl => match us, hl with | [_, _], _ => rfl
  have F__law_times := fun_mk (st := s__law_times) l__law_times c__law_times k__law_times
  have b__law_times := F__law_times.binds (ps := ["_law_one", "_law_other"]) fun _ _ _ _ _ _ us hl => match us, hl with | [_, _], _ => rfl
  have F__law_polynomial := fun_mk (st := s__law_polynomial) l__law_polynomial c__law_polynomial k__law_polynomial
  have b__law_polynomial := F__law_polynomial.binds (ps := ["_law_jar_here", "_law_wide"]) fun _ _ _ _ _ _ us hl => match us, hl with | [_, _], _ => rfl
  have F__law_joined := fun_mk (st := s__law_joined) l__law_joined c__law_joined k__law_joined
  have b__law_joined := F__law_joined.binds (ps := ["_law_one", "_law_other", "_law_sign"]) fun _ _ _ _ _ _ us hl => match us, hl with | [_, _, _], _ => rfl
  have F__law_nothing := fun_mk (st := s__law_nothing) l__law_nothing c__law_nothing k__law_nothing
  have b__law_nothing := F__law_nothing.binds (ps := ["_law_jar_here", "_law_bits", "_law_less"]) fun _ _ _ _ _ _ us hl => match us, hl with | [_, _, _], _ => rfl
  have F__law_pair_right := fun_mk (st := s__law_pair_right) l__law_pair_right c__law_pair_right k__law_pair_right
  have b__law_pair_right := F__law_pair_right.binds (ps := ["_law_kind", "_law_one", "_law_other"]) fun _ _ _ _ _ _ us hl => match us, hl with | [_, _, _], _ => rfl
  have F__law_right := fun_mk (st := s__law_right) l__law_right c__law_right k__law_right
  have b__law_right := F__law_right.binds (ps := ["_law_jar_here", "_law_bits", "_law_is_signed"]) fun _ _ _ _ _ _ us hl => match us, hl with | [_, _, _], _ => rfl
  have F_law := fun_mk (st := s_law) l_law c_law k_law
  have b_law := F_law.binds (ps := ["_law_script"]) fun _ _ _ _ _ _ us hl => match us, hl with | [_], _ => rfl
  exact ⟨{
    C_Kind := C_Kind
    cl_Kind := ⟨pg_Kind, hd_Kind, po_Kind, sa_Kind⟩
    g_Kind := PySem.W.mg_of X G aC_Kind
    na_Kind_bits := na_Kind_bits
    na_Kind_is_signed := na_Kind_is_signed
    ia_Kind := ia_Kind
    ib_Kind := ib_Kind
    ic_Kind := ic_Kind
    id_Kind := id_Kind
    mk_Kind := ⟨mkk_Kind, a_Kind___init__, i_Kind___init__, kc_Kind⟩
    f_joined := f_joined
    fd_joined := _
    F_joined := F_joined
    b_joined := b_joined
    g_joined := PySem.W.mg_of X G a_joined
    k_joined := k_joined
    f_family_size := f_family_size
    fd_family_size := _
    F_family_size := F_family_size
    b_family_size := b_family_size
    g_family_size := PySem.W.mg_of X G a_family_size
    k_family_size := k_family_size
    f_total_size := f_total_size
    fd_total_size := _
    F_total_size := F_total_size
    b_total_size := b_total_size
    g_total_size := PySem.W.mg_of X G a_total_size
    k_total_size := k_total_size
    f_total_inside := f_total_inside
    fd_total_inside := _
    F_total_inside := F_total_inside
    b_total_inside := b_total_inside
    g_total_inside := PySem.W.mg_of X G a_total_inside
    k_total_inside := k_total_inside
    f_is_integer := f_is_integer
    fd_is_integer := _
    F_is_integer := F_is_integer
    b_is_integer := b_is_integer
    g_is_integer := PySem.W.mg_of X G a_is_integer
    k_is_integer := k_is_integer
    f_check_integer := f_check_integer
    fd_check_integer := _
    F_check_integer := F_check_integer
    b_check_integer := b_check_integer
    g_check_integer := PySem.W.mg_of X G a_check_integer
    k_check_integer := k_check_integer
    f_is_sixty_digits := f_is_sixty_digits
    fd_is_sixty_digits := _
    F_is_sixty_digits := F_is_sixty_digits
    b_is_sixty_digits := b_is_sixty_digits
    g_is_sixty_digits := PySem.W.mg_of X G a_is_sixty_digits
    k_is_sixty_digits := k_is_sixty_digits
    f_is_count := f_is_count
    fd_is_count := _
    F_is_count := F_is_count
    b_is_count := b_is_count
    g_is_count := PySem.W.mg_of X G a_is_count
    k_is_count := k_is_count
    f_check_number := f_check_number
    fd_check_number := _
    F_check_number := F_check_number
    b_check_number := b_check_number
    g_check_number := PySem.W.mg_of X G a_check_number
    k_check_number := k_check_number
    f_factors_of_two := f_factors_of_two
    fd_factors_of_two := _
    F_factors_of_two := F_factors_of_two
    b_factors_of_two := b_factors_of_two
    g_factors_of_two := PySem.W.mg_of X G a_factors_of_two
    k_factors_of_two := k_factors_of_two
    f_Kind___init__ := f_Kind___init__
    fd_Kind___init__ := _
    F_Kind___init__ := F_Kind___init__
    b_Kind___init__ := b_Kind___init__
    f_check_kind := f_check_kind
    fd_check_kind := _
    F_check_kind := F_check_kind
    b_check_kind := b_check_kind
    g_check_kind := PySem.W.mg_of X G a_check_kind
    k_check_kind := k_check_kind
    f_check_value := f_check_value
    fd_check_value := _
    F_check_value := F_check_value
    b_check_value := b_check_value
    g_check_value := PySem.W.mg_of X G a_check_value
    k_check_value := k_check_value
    f_least := f_least
    fd_least := _
    F_least := F_least
    b_least := b_least
    g_least := PySem.W.mg_of X G a_least
    k_least := k_least
    f_greatest := f_greatest
    fd_greatest := _
    F_greatest := F_greatest
    b_greatest := b_greatest
    g_greatest := PySem.W.mg_of X G a_greatest
    k_greatest := k_greatest
    f_is_value := f_is_value
    fd_is_value := _
    F_is_value := F_is_value
    b_is_value := b_is_value
    g_is_value := PySem.W.mg_of X G a_is_value
    k_is_value := k_is_value
    f_wrapped := f_wrapped
    fd_wrapped := _
    F_wrapped := F_wrapped
    b_wrapped := b_wrapped
    g_wrapped := PySem.W.mg_of X G a_wrapped
    k_wrapped := k_wrapped
    f_wanted_at := f_wanted_at
    fd_wanted_at := _
    F_wanted_at := F_wanted_at
    b_wanted_at := b_wanted_at
    g_wanted_at := PySem.W.mg_of X G a_wanted_at
    k_wanted_at := k_wanted_at
    f_wanted_of := f_wanted_of
    fd_wanted_of := _
    F_wanted_of := F_wanted_of
    b_wanted_of := b_wanted_of
    g_wanted_of := PySem.W.mg_of X G a_wanted_of
    k_wanted_of := k_wanted_of
    f_is_polynomial := f_is_polynomial
    fd_is_polynomial := _
    F_is_polynomial := F_is_polynomial
    b_is_polynomial := b_is_polynomial
    g_is_polynomial := PySem.W.mg_of X G a_is_polynomial
    k_is_polynomial := k_is_polynomial
    f_check_polynomial := f_check_polynomial
    fd_check_polynomial := _
    F_check_polynomial := F_check_polynomial
    b_check_polynomial := b_check_polynomial
    g_check_polynomial := PySem.W.mg_of X G a_check_polynomial
    k_check_polynomial := k_check_polynomial
    f__value := f__value
    fd__value := _
    F__value := F__value
    b__value := b__value
    g__value := PySem.W.mg_of X G a__value
    k__value := k__value
    f_value_at := f_value_at
    fd_value_at := _
    F_value_at := F_value_at
    b_value_at := b_value_at
    g_value_at := PySem.W.mg_of X G a_value_at
    k_value_at := k_value_at
    f__one_behind := f__one_behind
    fd__one_behind := _
    F__one_behind := F__one_behind
    b__one_behind := b__one_behind
    g__one_behind := PySem.W.mg_of X G a__one_behind
    k__one_behind := k__one_behind
    f__doubled := f__doubled
    fd__doubled := _
    F__doubled := F__doubled
    b__doubled := b__doubled
    g__doubled := PySem.W.mg_of X G a__doubled
    k__doubled := k__doubled
    f__halves := f__halves
    fd__halves := _
    F__halves := F__halves
    b__halves := b__halves
    g__halves := PySem.W.mg_of X G a__halves
    k__halves := k__halves
    f_root_families := f_root_families
    fd_root_families := _
    F_root_families := F_root_families
    b_root_families := b_root_families
    g_root_families := PySem.W.mg_of X G a_root_families
    k_root_families := k_root_families
    f_roots := f_roots
    fd_roots := _
    F_roots := F_roots
    b_roots := b_roots
    g_roots := PySem.W.mg_of X G a_roots
    k_roots := k_roots
    f_root_total := f_root_total
    fd_root_total := _
    F_root_total := F_root_total
    b_root_total := b_root_total
    g_root_total := PySem.W.mg_of X G a_root_total
    k_root_total := k_root_total
    f__check_two := f__check_two
    fd__check_two := _
    F__check_two := F__check_two
    b__check_two := b__check_two
    g__check_two := PySem.W.mg_of X G a__check_two
    k__check_two := k__check_two
    f__check_range := f__check_range
    fd__check_range := _
    F__check_range := F__check_range
    b__check_range := b__check_range
    g__check_range := PySem.W.mg_of X G a__check_range
    k__check_range := k__check_range
    f__first_unlike := f__first_unlike
    fd__first_unlike := _
    F__first_unlike := F__first_unlike
    b__first_unlike := b__first_unlike
    g__first_unlike := PySem.W.mg_of X G a__first_unlike
    k__first_unlike := k__first_unlike
    f_are_alike := f_are_alike
    fd_are_alike := _
    F_are_alike := F_are_alike
    b_are_alike := b_are_alike
    g_are_alike := PySem.W.mg_of X G a_are_alike
    k_are_alike := k_are_alike
    f_first_unlike := f_first_unlike
    fd_first_unlike := _
    F_first_unlike := F_first_unlike
    b_first_unlike := b_first_unlike
    g_first_unlike := PySem.W.mg_of X G a_first_unlike
    k_first_unlike := k_first_unlike
    f__alike_families := f__alike_families
    fd__alike_families := _
    F__alike_families := F__alike_families
    b__alike_families := b__alike_families
    g__alike_families := PySem.W.mg_of X G a__alike_families
    k__alike_families := k__alike_families
    f__unlike_total := f__unlike_total
    fd__unlike_total := _
    F__unlike_total := F__unlike_total
    b__unlike_total := b__unlike_total
    g__unlike_total := PySem.W.mg_of X G a__unlike_total
    k__unlike_total := k__unlike_total
    f_unlike_total := f_unlike_total
    fd_unlike_total := _
    F_unlike_total := F_unlike_total
    b_unlike_total := b_unlike_total
    g_unlike_total := PySem.W.mg_of X G a_unlike_total
    k_unlike_total := k_unlike_total
    c_unlike_at := cd_unlike_at
    P_unlike_at := P_unlike_at
    mT_unlike_at := (.head _)
    uT_unlike_at := tab_uniq (l := [(P_unlike_at, ("unlike_at" : Str) ++ ".<locals>." ++ "<lambda>")]) dist (.head _)
    f_unlike_at := f_unlike_at
    fd_unlike_at := _
    F_unlike_at := F_unlike_at
    b_unlike_at := b_unlike_at
    g_unlike_at := PySem.W.mg_of X G a_unlike_at
    k_unlike_at := k_unlike_at
    f__without_zeros := f__without_zeros
    fd__without_zeros := _
    F__without_zeros := F__without_zeros
    b__without_zeros := b__without_zeros
    g__without_zeros := PySem.W.mg_of X G a__without_zeros
    k__without_zeros := k__without_zeros
    f__divided := f__divided
    fd__divided := _
    F__divided := F__divided
    b__divided := b__divided
    g__divided := PySem.W.mg_of X G a__divided
    k__divided := k__divided
    f_normal_form := f_normal_form
    fd_normal_form := _
    F_normal_form := F_normal_form
    b_normal_form := b_normal_form
    g_normal_form := PySem.W.mg_of X G a_normal_form
    k_normal_form := k_normal_form
    f__is_form := f__is_form
    fd__is_form := _
    F__is_form := F__is_form
    b__is_form := b__is_form
    g__is_form := PySem.W.mg_of X G a__is_form
    k__is_form := k__is_form
    f_of_form := f_of_form
    fd_of_form := _
    F_of_form := F_of_form
    b_of_form := b_of_form
    g_of_form := PySem.W.mg_of X G a_of_form
    k_of_form := k_of_form
    f__law_jar := f__law_jar
    fd__law_jar := _
    F__law_jar := F__law_jar
    b__law_jar := b__law_jar
    g__law_jar := PySem.W.mg_of X G a__law_jar
    k__law_jar := k__law_jar
    f__law_sip := f__law_sip
    fd__law_sip := _
    F__law_sip := F__law_sip
    b__law_sip := b__law_sip
    g__law_sip := PySem.W.mg_of X G a__law_sip
    k__law_sip := k__law_sip
    f__law_some := f__law_some
    fd__law_some := _
    F__law_some := F__law_some
    b__law_some := b__law_some
    g__law_some := PySem.W.mg_of X G a__law_some
    k__law_some := k__law_some
    f__law_times := f__law_times
    fd__law_times := _
    F__law_times := F__law_times
    b__law_times := b__law_times
    g__law_times := PySem.W.mg_of X G a__law_times
    k__law_times := k__law_times
    f__law_polynomial := f__law_polynomial
    fd__law_polynomial := _
    F__law_polynomial := F__law_polynomial
    b__law_polynomial := b__law_polynomial
    g__law_polynomial := PySem.W.mg_of X G a__law_polynomial
    k__law_polynomial := k__law_polynomial
    f__law_joined := f__law_joined
    fd__law_joined := _
    F__law_joined := F__law_joined
    b__law_joined := b__law_joined
    g__law_joined := PySem.W.mg_of X G a__law_joined
    k__law_joined := k__law_joined
    f__law_nothing := f__law_nothing
    fd__law_nothing := _
    F__law_nothing := F__law_nothing
    b__law_nothing := b__law_nothing
    g__law_nothing := PySem.W.mg_of X G a__law_nothing
    k__law_nothing := k__law_nothing
    f__law_pair_right := f__law_pair_right
    fd__law_pair_right := _
    F__law_pair_right := F__law_pair_right
    b__law_pair_right := b__law_pair_right
    g__law_pair_right := PySem.W.mg_of X G a__law_pair_right
    k__law_pair_right := k__law_pair_right
    f__law_right := f__law_right
    fd__law_right := _
    F__law_right := F__law_right
    b__law_right := b__law_right
    g__law_right := PySem.W.mg_of X G a__law_right
    k__law_right := k__law_right
    f_law := f_law
    fd_law := _
    F_law := F_law
    b_law := b_law
    g_law := PySem.W.mg_of X G a_law
    k_law := k_law
    t_BEYOND_SIXTY_DIGITS := t_BEYOND_SIXTY_DIGITS
    g_BEYOND_SIXTY_DIGITS := PySem.W.mg_of X G v_BEYOND_SIXTY_DIGITS
    t_MOST_BITS := t_MOST_BITS
    g_MOST_BITS := PySem.W.mg_of X G v_MOST_BITS
    t_MOST_COEFFICIENTS := t_MOST_COEFFICIENTS
    g_MOST_COEFFICIENTS := PySem.W.mg_of X G v_MOST_COEFFICIENTS
    n_abs := PySem.W.mg_none_of X G z_abs
    n_all := PySem.W.mg_none_of X G z_all
    n_any := PySem.W.mg_none_of X G z_any
    n_bool := PySem.W.mg_none_of X G z_bool
    n_enumerate := PySem.W.mg_none_of X G z_enumerate
    n_int := PySem.W.mg_none_of X G z_int
    n_isinstance := PySem.W.mg_none_of X G z_isinstance
    n_len := PySem.W.mg_none_of X G z_len
    n_list := PySem.W.mg_none_of X G z_list
    n_max := PySem.W.mg_none_of X G z_max
    n_min := PySem.W.mg_none_of X G z_min
    n_range := PySem.W.mg_none_of X G z_range
    n_reversed := PySem.W.mg_none_of X G z_reversed
    n_sorted := PySem.W.mg_none_of X G z_sorted
    n_sum := PySem.W.mg_none_of X G z_sum
    n_zip := PySem.W.mg_none_of X G z_zip
    g_zip_longest := PySem.W.mg_of X G v_zl
    bl_law := fun s v => .of_eq rfl
    tabs := [(P_unlike_at, ("unlike_at" : Str) ++ ".<locals>." ++ "<lambda>")] },
    { eq := rfl, ti_unlike_at := tabIn_of a_unlike_at l_unlike_at rfl lc_unlike_at hv_unlike_at }⟩
theorem walk {l : PySem.W.OpenLaw} {q : Program} {loose : List Str} {XP : (Str → Option Value) → Heap → Prop} {YP : World → Heap → Prop} {d : DefRec} {K : Params → PySem.W.Frag} (hn : l.most = some 63) (hdf : d.params.defaults = []) (hnm : d.name = "law")
    (hY : ∀ (w : World) (h : Heap), YP w h → (K w.params).In h)
    (hr_unlike_at : ((PyProof.Rows.recsOf q).find? (fun e => e.name == ("unlike_at" : Str))).isSome = true)
    (NT : ∀ w : World, PySem.W.noTabs (K w.params) = true)
    (F : ∀ (w : World) (mg : Str → Option Value) (h : Heap), (K w.params).In h → h.Ns mainGlobals mg → ∃ T : Txt (K w.params) mg, TI T) :
    PySem.W.WalkO q loose XP YP l.row.toRowW d [] (fun f vs => PySem.call f vs) :=
  Fw.walk_tabs (n := 63) (k := 21) (x := "_law_script") (CX := fun _ => CX0) hn (by decide) hdf ⟨rfl, by decide, by decide⟩ hY
    (fun w mg fa h tb KX G hm => by
      obtain ⟨T, I⟩ := F w mg h KX G
      have e : T.f_law = fa := by
        have q := T.g_law.symm.trans (hnm ▸ hm)
        cases q; rfl
      subst e
      have q_unlike_at := tb _ _ _ hr_unlike_at I.ti_unlike_at
      refine ⟨T.fd_law, [(T.c_unlike_at, T.P_unlike_at)], sp_law (K w.params) T.C_Kind T.tabs, ?_, ?_, ?_, T.bl_law, fun H a ns hl _ hH hS => ⟨a, ns, rfl, hS, hl, ?_, fun _ => rfl⟩, fun base _ _ TB => ok_law T ⟨TB _ (.head _)⟩⟩
      · intro p hp
        rcases List.mem_cons.mp hp with rfl | hp
        · exact q_unlike_at.2
        cases hp
      · intro p hp
        rcases List.mem_cons.mp hp with rfl | hp
        · exact no_tab KX q_unlike_at.2 (NT w)
        cases hp
      · intro p hp
        rcases List.mem_cons.mp hp with rfl | hp
        · exact q_unlike_at.1
        cases hp
      · rw [I.eq]
        intro p hp
        rcases List.mem_cons.mp hp with rfl | hp
        · exact LamX.TabS.nil (hH (T.c_unlike_at, T.P_unlike_at) (.head _))
        cases hp)
    fun _ _ _ _ _ z => z
end Fw
open PySem PySem.W PyProof.Rows
set_option maxRecDepth 100000 in
set_option maxHeartbeats 0 in
theorem PySem.Challenge.cw_farwrap_k60_whole_alike_by_normal_forms_holds : PySem.Challenge.rw_farwrap_k60_whole_alike_by_normal_forms.Holds := by
  w_on; o_law; k_head; (case hw => w_witness2)
  k_fill
  refine Fw.walk (l := PySem.Challenge.rw_farwrap_k60_whole_alike_by_normal_forms) rfl rfl rfl (fun w h Y => PySem.W.km_in_of Y) (by decide +kernel) (fun _ => rfl) ?F
  case F =>
    intro w mg h KX G
    refine' Fw.mk_txt KX G ?aC_Kind ?a_Kind___init__ ?i_Kind___init__ ?pg_Kind ?hd_Kind ?po_Kind ?sa_Kind ?mkk_Kind ?kc_Kind ?na_Kind_bits ?na_Kind_is_signed ?ia_Kind ?ib_Kind ?ic_Kind ?id_Kind ?a_joined ?l_joined ?c_joined ?k_joined ?a_family_size ?l_family_size ?c_family_size ?k_family_size ?a_total_size ?l_total_size ?c_total_size ?k_total_size ?a_total_inside ?l_total_inside ?c_total_inside ?k_total_inside ?a_is_integer ?l_is_integer ?c_is_integer ?k_is_integer ?a_check_integer ?l_check_integer ?c_check_integer ?k_check_integer ?a_is_sixty_digits ?l_is_sixty_digits ?c_is_sixty_digits ?k_is_sixty_digits ?a_is_count ?l_is_count ?c_is_count ?k_is_count ?a_check_number ?l_check_number ?c_check_number ?k_check_number ?a_factors_of_two ?l_factors_of_two ?c_factors_of_two ?k_factors_of_two ?l_Kind___init__ ?c_Kind___init__ ?k_Kind___init__ ?a_check_kind ?l_check_kind ?c_check_kind ?k_check_kind ?a_check_value ?l_check_value ?c_check_value ?k_check_value ?a_least ?l_least ?c_least ?k_least ?a_greatest ?l_greatest ?c_greatest ?k_greatest ?a_is_value ?l_is_value ?c_is_value ?k_is_value ?a_wrapped ?l_wrapped ?c_wrapped ?k_wrapped ?a_wanted_at ?l_wanted_at ?c_wanted_at ?k_wanted_at ?a_wanted_of ?l_wanted_of ?c_wanted_of ?k_wanted_of ?a_is_polynomial ?l_is_polynomial ?c_is_polynomial ?k_is_polynomial ?a_check_polynomial ?l_check_polynomial ?c_check_polynomial ?k_check_polynomial ?a__value ?l__value ?c__value ?k__value ?a_value_at ?l_value_at ?c_value_at ?k_value_at ?a__one_behind ?l__one_behind ?c__one_behind ?k__one_behind ?a__doubled ?l__doubled ?c__doubled ?k__doubled ?a__halves ?l__halves ?c__halves ?k__halves ?a_root_families ?l_root_families ?c_root_families ?k_root_families ?a_roots ?l_roots ?c_roots ?k_roots ?a_root_total ?l_root_total ?c_root_total ?k_root_total ?a__check_two ?l__check_two ?c__check_two ?k__check_two ?a__check_range ?l__check_range ?c__check_range ?k__check_range ?a__first_unlike ?l__first_unlike ?c__first_unlike ?k__first_unlike ?a_are_alike ?l_are_alike ?c_are_alike ?k_are_alike ?a_first_unlike ?l_first_unlike ?c_first_unlike ?k_first_unlike ?a__alike_families ?l__alike_families ?c__alike_families ?k__alike_families ?a__unlike_total ?l__unlike_total ?c__unlike_total ?k__unlike_total ?a_unlike_total ?l_unlike_total ?c_unlike_total ?k_unlike_total ?a_unlike_at ?l_unlike_at ?c_unlike_at ?lc_unlike_at ?hv_unlike_at ?k_unlike_at ?a__without_zeros ?l__without_zeros ?c__without_zeros ?k__without_zeros ?a__divided ?l__divided ?c__divided ?k__divided ?a_normal_form ?l_normal_form ?c_normal_form ?k_normal_form ?a__is_form ?l__is_form ?c__is_form ?k__is_form ?a_of_form ?l_of_form ?c_of_form ?k_of_form ?a__law_jar ?l__law_jar ?c__law_jar ?k__law_jar ?a__law_sip ?l__law_sip ?c__law_sip ?k__law_sip ?a__law_some ?l__law_some ?c__law_some ?k__law_some ?a__law_times ?l__law_times ?c__law_times ?k__law_times ?a__law_polynomial ?l__law_polynomial ?c__law_polynomial ?k__law_polynomial ?a__law_joined ?l__law_joined ?c__law_joined ?k__law_joined ?a__law_nothing ?l__law_nothing ?c__law_nothing ?k__law_nothing ?a__law_pair_right ?l__law_pair_right ?c__law_pair_right ?k__law_pair_right ?a__law_right ?l__law_right ?c__law_right ?k__law_right ?a_law ?l_law ?c_law ?k_law ?v_BEYOND_SIXTY_DIGITS ?v_MOST_BITS ?v_MOST_COEFFICIENTS ?z_abs ?z_all ?z_any ?z_bool ?z_enumerate ?z_int ?z_isinstance ?z_len ?z_list ?z_max ?z_min ?z_range ?z_reversed ?z_sorted ?z_sum ?z_zip ?v_zl ?dist
    (case aC_Kind => k_is)
    (case a_Kind___init__ => k_is)
    (case i_Kind___init__ => k_is)
    (case pg_Kind => k_is)
    (case hd_Kind => k_is)
    (case po_Kind => k_is)
    (case sa_Kind => k_is)
    (case mkk_Kind => k_is)
    (case kc_Kind => k_is)
    (case na_Kind_bits => k_is)
    (case na_Kind_is_signed => k_is)
    (case ia_Kind => k_is)
    (case ib_Kind => k_is)
    (case ic_Kind => k_is)
    (case id_Kind => k_is)
    (case a_joined => k_is)
    (case l_joined => k_is)
    (case c_joined => k_is)
    (case k_joined => k_is)
    (case a_family_size => k_is)
    (case l_family_size => k_is)
    (case c_family_size => k_is)
    (case k_family_size => k_is)
    (case a_total_size => k_is)
    (case l_total_size => k_is)
    (case c_total_size => k_is)
    (case k_total_size => k_is)
    (case a_total_inside => k_is)
    (case l_total_inside => k_is)
    (case c_total_inside => k_is)
    (case k_total_inside => k_is)
    (case a_is_integer => k_is)
    (case l_is_integer => k_is)
    (case c_is_integer => k_is)
    (case k_is_integer => k_is)
    (case a_check_integer => k_is)
    (case l_check_integer => k_is)
    (case c_check_integer => k_is)
    (case k_check_integer => k_is)
    (case a_is_sixty_digits => k_is)
    (case l_is_sixty_digits => k_is)
    (case c_is_sixty_digits => k_is)
    (case k_is_sixty_digits => k_is)
    (case a_is_count => k_is)
    (case l_is_count => k_is)
    (case c_is_count => k_is)
    (case k_is_count => k_is)
    (case a_check_number => k_is)
    (case l_check_number => k_is)
    (case c_check_number => k_is)
    (case k_check_number => k_is)
    (case a_factors_of_two => k_is)
    (case l_factors_of_two => k_is)
    (case c_factors_of_two => k_is)
    (case k_factors_of_two => k_is)
    (case l_Kind___init__ => k_is)
    (case c_Kind___init__ => k_is)
    (case k_Kind___init__ => k_is)
    (case a_check_kind => k_is)
    (case l_check_kind => k_is)
    (case c_check_kind => k_is)
    (case k_check_kind => k_is)
    (case a_check_value => k_is)
    (case l_check_value => k_is)
    (case c_check_value => k_is)
    (case k_check_value => k_is)
    (case a_least => k_is)
    (case l_least => k_is)
    (case c_least => k_is)
    (case k_least => k_is)
    (case a_greatest => k_is)
    (case l_greatest => k_is)
    (case c_greatest => k_is)
    (case k_greatest => k_is)
    (case a_is_value => k_is)
    (case l_is_value => k_is)
    (case c_is_value => k_is)
    (case k_is_value => k_is)
    (case a_wrapped => k_is)
    (case l_wrapped => k_is)
    (case c_wrapped => k_is)
    (case k_wrapped => k_is)
    (case a_wanted_at => k_is)
    (case l_wanted_at => k_is)
    (case c_wanted_at => k_is)
    (case k_wanted_at => k_is)
    (case a_wanted_of => k_is)
    (case l_wanted_of => k_is)
    (case c_wanted_of => k_is)
    (case k_wanted_of => k_is)
    (case a_is_polynomial => k_is)
    (case l_is_polynomial => k_is)
    (case c_is_polynomial => k_is)
    (case k_is_polynomial => k_is)
    (case a_check_polynomial => k_is)
    (case l_check_polynomial => k_is)
    (case c_check_polynomial => k_is)
    (case k_check_polynomial => k_is)
    (case a__value => k_is)
    (case l__value => k_is)
    (case c__value => k_is)
    (case k__value => k_is)
    (case a_value_at => k_is)
    (case l_value_at => k_is)
    (case c_value_at => k_is)
    (case k_value_at => k_is)
    (case a__one_behind => k_is)
    (case l__one_behind => k_is)
    (case c__one_behind => k_is)
    (case k__one_behind => k_is)
    (case a__doubled => k_is)
    (case l__doubled => k_is)
    (case c__doubled => k_is)
    (case k__doubled => k_is)
    (case a__halves => k_is)
    (case l__halves => k_is)
    (case c__halves => k_is)
    (case k__halves => k_is)
    (case a_root_families => k_is)
    (case l_root_families => k_is)
    (case c_root_families => k_is)
    (case k_root_families => k_is)
    (case a_roots => k_is)
    (case l_roots => k_is)
    (case c_roots => k_is)
    (case k_roots => k_is)
    (case a_root_total => k_is)
    (case l_root_total => k_is)
    (case c_root_total => k_is)
    (case k_root_total => k_is)
    (case a__check_two => k_is)
    (case l__check_two => k_is)
    (case c__check_two => k_is)
    (case k__check_two => k_is)
    (case a__check_range => k_is)
    (case l__check_range => k_is)
    (case c__check_range => k_is)
    (case k__check_range => k_is)
    (case a__first_unlike => k_is)
    (case l__first_unlike => k_is)
    (case c__first_unlike => k_is)
    (case k__first_unlike => k_is)
    (case a_are_alike => k_is)
    (case l_are_alike => k_is)
    (case c_are_alike => k_is)
    (case k_are_alike => k_is)
    (case a_first_unlike => k_is)
    (case l_first_unlike => k_is)
    (case c_first_unlike => k_is)
    (case k_first_unlike => k_is)
    (case a__alike_families => k_is)
    (case l__alike_families => k_is)
    (case c__alike_families => k_is)
    (case k__alike_families => k_is)
    (case a__unlike_total => k_is)
    (case l__unlike_total => k_is)
    (case c__unlike_total => k_is)
    (case k__unlike_total => k_is)
    (case a_unlike_total => k_is)
    (case l_unlike_total => k_is)
    (case c_unlike_total => k_is)
    (case k_unlike_total => k_is)
    (case a_unlike_at => k_is)
    (case l_unlike_at => k_is)
    (case c_unlike_at => k_is)
    (case lc_unlike_at => k_is)
    (case hv_unlike_at => exact rfl)
    (case k_unlike_at => k_is)
    (case a__without_zeros => k_is)
    (case l__without_zeros => k_is)
    (case c__without_zeros => k_is)
    (case k__without_zeros => k_is)
    (case a__divided => k_is)
    (case l__divided => k_is)
    (case c__divided => k_is)
    (case k__divided => k_is)
    (case a_normal_form => k_is)
    (case l_normal_form => k_is)
    (case c_normal_form => k_is)
    (case k_normal_form => k_is)
    (case a__is_form => k_is)
    (case l__is_form => k_is)
    (case c__is_form => k_is)
    (case k__is_form => k_is)
    (case a_of_form => k_is)
    (case l_of_form => k_is)
    (case c_of_form => k_is)
    (case k_of_form => k_is)
    (case a__law_jar => k_is)
    (case l__law_jar => k_is)
    (case c__law_jar => k_is)
    (case k__law_jar => k_is)
    (case a__law_sip => k_is)
    (case l__law_sip => k_is)
    (case c__law_sip => k_is)
    (case k__law_sip => k_is)
    (case a__law_some => k_is)
    (case l__law_some => k_is)
    (case c__law_some => k_is)
    (case k__law_some => k_is)
    (case a__law_times => k_is)
    (case l__law_times => k_is)
    (case c__law_times => k_is)
    (case k__law_times => k_is)
    (case a__law_polynomial => k_is)
    (case l__law_polynomial => k_is)
    (case c__law_polynomial => k_is)
    (case k__law_polynomial => k_is)
    (case a__law_joined => k_is)
    (case l__law_joined => k_is)
    (case c__law_joined => k_is)
    (case k__law_joined => k_is)
    (case a__law_nothing => k_is)
    (case l__law_nothing => k_is)
    (case c__law_nothing => k_is)
    (case k__law_nothing => k_is)
    (case a__law_pair_right => k_is)
    (case l__law_pair_right => k_is)
    (case c__law_pair_right => k_is)
    (case k__law_pair_right => k_is)
    (case a__law_right => k_is)
    (case l__law_right => k_is)
    (case c__law_right => k_is)
    (case k__law_right => k_is)
    (case a_law => k_is)
    (case l_law => k_is)
    (case c_law => k_is)
    (case k_law => k_is)
    (case v_BEYOND_SIXTY_DIGITS => k_is)
    (case v_MOST_BITS => k_is)
    (case v_MOST_COEFFICIENTS => k_is)
    (case z_abs => k_is)
    (case z_all => k_is)
    (case z_any => k_is)
    (case z_bool => k_is)
    (case z_enumerate => k_is)
    (case z_int => k_is)
    (case z_isinstance => k_is)
    (case z_len => k_is)
    (case z_list => k_is)
    (case z_max => k_is)
    (case z_min => k_is)
    (case z_range => k_is)
    (case z_reversed => k_is)
    (case z_sorted => k_is)
    (case z_sum => k_is)
    (case z_zip => k_is)
    (case v_zl => k_is)
    (case dist => exact (by decide))
